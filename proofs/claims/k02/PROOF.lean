import PyProof.Rows.All
import Wide.All
import OpenK.AllK
import Wide.FinOn
import HandS.Base
import HandS.Call
import HandS.List
import HandS.Comp
import HandS.Ends
import HandS.Dict
import HandS.Iter
import HandS.Words
import HandS.Wide
import PyProof.ReprRoads
import HandS.ForMost
import HandS.IsInst
import HandS.Walk
import PyProof.ReprLen
import PyProof.StrLawsRepr
import HandS.ClsMeth
import HandS.Property
import HandS.OwnEq
import HandS.DictComp
import HandS.Conv
import HandS.FStr
import PyProof.InstNe
import HandS.Text
import KE.KDictList
import HandS.Zip
import KE.GoesNew
import KE.GoesEnum
import PyProof.NeKinds
import KE.GoesEnumKw
import PyProof.Rows.CallKwBuiltin
import HandS.ExcOwn
import HandS.ExcInit
import HandS.Exc
import HandS.ExcValue
import HandS.ExcField
import HandS.ExcIs
import KE.KExcIs
import HandS.Lambda
import HandS.EndBits
import KE.KNest
import HandS.WordsExc
import PySem.Challenge.RW_hearpurse_k02_ancestors_and_subtrees
set_option Elab.async false
set_option linter.all false
set_option maxRecDepth 100000
set_option maxHeartbeats 4000000
namespace Gn
open PySem PySem.Spec PyProof.Rows L2

/-! ## heaps -/
theorem new_same {H : Hp} {p : Addr} {o : HO} (h : H p = none) : ∀ b u, H b = some u → upd H p o b = some u := by
  intro b u e
  rw [upd_ne (ne_of_none e h)]
  exact e
/-- the heap less two objects: those of the draws -/
def Rs (d g : Addr) (H : Hp) : Hp := fun a => if a = d ∨ a = g then none else H a
section
variable {d g a p : Addr} {H H' H2 : Hp} {o u : HO}
theorem rs_of (h : Rs d g H a = some o) : H a = some o ∧ a ≠ d ∧ a ≠ g := by
  unfold Rs at h
  by_cases c : a = d ∨ a = g
  · rw [if_pos c] at h; cases h
  · rw [if_neg c] at h
    exact ⟨h, fun e => c (.inl e), fun e => c (.inr e)⟩
theorem rs_to (h : H a = some o) (h1 : a ≠ d) (h2 : a ≠ g) : Rs d g H a = some o := by
  unfold Rs
  rw [if_neg (fun c => c.elim h1 h2)]
  exact h
/-- all that is no draw's stands -/
def Kp (d g : Addr) (H H' : Hp) : Prop := ∀ a o, a ≠ d → a ≠ g → H a = some o → H' a = some o
theorem Kp.refl : Kp d g H H := fun _ _ _ _ e => e
theorem Kp.trans (h : Kp d g H H') (k : Kp d g H' H2) : Kp d g H H2 := fun a o n1 n2 e => k a o n1 n2 (h a o n1 n2 e)
theorem Kp.new (hp : H p = none) : Kp d g H (upd H p o) := fun a u _ _ e => new_same hp a u e
theorem Kp.of (h : ∀ a o, H a = some o → H' a = some o) : Kp d g H H' := fun a o _ _ e => h a o e
theorem Kp.at_d : Kp d g H (upd H d o) := fun a u n1 _ e => by rw [upd_ne n1]; exact e
theorem Kp.at_g : Kp d g H (upd H g o) := fun a u _ n2 e => by rw [upd_ne n2]; exact e
end

/-! ## the draws' state -/
def kG : Key := Sum.inr ("great" : Str)
def kC : Key := Sum.inr ("cells" : Str)
def kL : Key := Sum.inr ("left" : Str)
def kT : Key := Sum.inr ("turn" : Str)
def dk (g c : Addr) (l t : Int) : List (Key × V) := [(kG, .ref g), (kC, .ref c), (kL, .int l), (kT, .int t)]
section
variable {g c : Addr} {l t z : Int} {H : Hp} {d : Addr}
theorem nGC : ¬ kG = kC := by decide +kernel
theorem nGL : ¬ kG = kL := by decide +kernel
theorem nGT : ¬ kG = kT := by decide +kernel
theorem nCL : ¬ kC = kL := by decide +kernel
theorem nCT : ¬ kC = kT := by decide +kernel
theorem nLT : ¬ kL = kT := by decide +kernel
theorem dk_g : valV (dk g c l t) kG = some (.ref g) := valV_pos rfl
theorem dk_c : valV (dk g c l t) kC = some (.ref c) := (valV_neg nGC).trans (valV_pos rfl)
theorem dk_l : valV (dk g c l t) kL = some (.int l) := (valV_neg nGL).trans ((valV_neg nCL).trans (valV_pos rfl))
theorem dk_t : valV (dk g c l t) kT = some (.int t) := (valV_neg nGT).trans ((valV_neg nCT).trans ((valV_neg nLT).trans (valV_pos rfl)))
theorem get_g (h : H d = some (.dK (dk g c l t))) : DGet H d (.str "great") (some (.ref g)) := by
  rw [← dk_g (g := g) (c := c) (l := l) (t := t)]
  exact DGet.k (k := kG) h
theorem get_c (h : H d = some (.dK (dk g c l t))) : DGet H d (.str "cells") (some (.ref c)) := by
  rw [← dk_c (g := g) (c := c) (l := l) (t := t)]
  exact DGet.k (k := kC) h
theorem get_l (h : H d = some (.dK (dk g c l t))) : DGet H d (.str "left") (some (.int l)) := by
  rw [← dk_l (g := g) (c := c) (l := l) (t := t)]
  exact DGet.k (k := kL) h
theorem get_t (h : H d = some (.dK (dk g c l t))) : DGet H d (.str "turn") (some (.int t)) := by
  rw [← dk_t (g := g) (c := c) (l := l) (t := t)]
  exact DGet.k (k := kT) h
theorem put_dk_l : putK (dk g c l t) kL (.int z) = dk g c z t := by
  unfold putK dk
  simp [nGL, nCL, Ne.symm nLT, (show ¬ kT = kL from fun e => nLT e.symm)]
theorem put_dk_t : putK (dk g c l t) kT (.int z) = dk g c l z := by
  unfold putK dk
  simp [nGT, nCT, nLT]
theorem put_l (h : H d = some (.dK (dk g c l t))) : DPut H d (.str "left") (.int z) (upd H d (.dK (dk g c z t))) := by
  rw [← put_dk_l (l := l)]
  exact DPut.k (k := kL) h (by show 4 < sizeLine; decide)
theorem put_t (h : H d = some (.dK (dk g c l t))) : DPut H d (.str "turn") (.int z) (upd H d (.dK (dk g c l z))) := by
  rw [← put_dk_t (t := t)]
  exact DPut.k (k := kT) h (by show 4 < sizeLine; decide)
theorem merge_dk : mergeK [] (dk g c l t) = dk g c l t := by
  have e1 : putK [] kG (.ref g) = [(kG, V.ref g)] := rfl
  have e2 : putK [(kG, V.ref g)] kC (.ref c) = [(kG, V.ref g), (kC, V.ref c)] := by unfold putK; simp [nGC]
  have e3 : putK [(kG, V.ref g), (kC, V.ref c)] kL (.int l) = [(kG, V.ref g), (kC, V.ref c), (kL, V.int l)] := by unfold putK; simp [nGL, nCL]
  have e4 : putK [(kG, V.ref g), (kC, V.ref c), (kL, V.int l)] kT (.int t) = [(kG, V.ref g), (kC, V.ref c), (kL, V.int l), (kT, V.int t)] := by unfold putK; simp [nGT, nCT, nLT]
  unfold mergeK dk
  simp only [List.foldl_cons, List.foldl_nil, e1, e2, e3, e4]
end
/-- the draws' dict at d, its lists at g and c; at most b turns were mixed -/
structure Dw (ns : List Int) (d g c : Addr) (b : Nat) (H : Hp) : Prop where
  st : ∃ (gs : List Int) (l t : Int), H d = some (.dK (dk g c l t)) ∧ H g = some (.lst (gs.map V.int)) ∧ 0 ≤ t ∧ t ≤ b
  cl : H c = some (.lst (ns.map V.int))
  ncd : c ≠ d
  ncg : c ≠ g
section
variable {ns : List Int} {d g c p : Addr} {b b' : Nat} {H H' : Hp} {o : HO}
theorem Dw.mono (h : Dw ns d g c b H) (k : b ≤ b') : Dw ns d g c b' H := by
  obtain ⟨⟨gs, l, t, h1, h2, h3, h4⟩, h5, h6, h7⟩ := h
  exact ⟨⟨gs, l, t, h1, h2, h3, by omega⟩, h5, h6, h7⟩
/-- what is new leaves them -/
theorem Dw.keep (h : Dw ns d g c b H) (k : ∀ a o, H a = some o → H' a = some o) : Dw ns d g c b H' := by
  obtain ⟨⟨gs, l, t, h1, h2, h3, h4⟩, h5, h6, h7⟩ := h
  exact ⟨⟨gs, l, t, k _ _ h1, k _ _ h2, h3, h4⟩, k _ _ h5, h6, h7⟩
theorem Dw.new (h : Dw ns d g c b H) (hp : H p = none) : Dw ns d g c b (upd H p o) := h.keep fun a u e => new_same hp a u e
theorem Dw.nd (h : Dw ns d g c b H) (hp : H p = none) : p ≠ d := by
  obtain ⟨⟨gs, l, t, h1, h2, h3, h4⟩, h5, h6, h7⟩ := h
  exact fun e => ne_of_none h1 hp e.symm
theorem Dw.ng (h : Dw ns d g c b H) (hp : H p = none) : p ≠ g := by
  obtain ⟨⟨gs, l, t, h1, h2, h3, h4⟩, h5, h6, h7⟩ := h
  exact fun e => ne_of_none h2 hp e.symm
theorem Dw.some (h : Dw ns d g c b H) : (∃ o, H d = some o) ∧ ∃ o, H g = some o := by
  obtain ⟨⟨gs, l, t, h1, h2, h3, h4⟩, h5, h6, h7⟩ := h
  exact ⟨⟨_, h1⟩, ⟨_, h2⟩⟩
/-- what is new behind a draw was new ahead of it -/
theorem Dw.free (h : Dw ns d g c b H) (h' : Dw ns d g c b' H') (k : Kp d g H H') (hp : H' p = none) : H p = none := by
  cases e : H p with
  | none => rfl
  | some u =>
    have q := k p u (h'.nd hp) (h'.ng hp) e
    rw [hp] at q
    cases q
theorem Dw.put (h : Dw ns d g c b H) (hp : H p = Option.some u) (n1 : p ≠ d) (n2 : p ≠ g) (n3 : p ≠ c) : Dw ns d g c b (upd H p o) := by
  obtain ⟨⟨gs, l, t, h1, h2, h3, h4⟩, h5, h6, h7⟩ := h
  exact ⟨⟨gs, l, t, by rw [upd_ne n1.symm]; exact h1, by rw [upd_ne n2.symm]; exact h2, h3, h4⟩, by rw [upd_ne n3.symm]; exact h5, h6, h7⟩
end
/-! ## small words of arithmetic -/
theorem fmod_lo {a b : Int} (h : 0 < b) : 0 ≤ a.fmod b := by rw [Int.fmod_eq_emod_of_nonneg a (by omega)]; exact Int.emod_nonneg a (by omega)
theorem fmod_hi {a b : Int} (h : 0 < b) : a.fmod b < b := by rw [Int.fmod_eq_emod_of_nonneg a (by omega)]; exact Int.emod_lt_of_pos a h
theorem at_int {xs : List V} {r : Int} (h0 : 0 ≤ r) (h1 : r < (xs.length : Int)) : ∃ v, atI xs r = some v ∧ v ∈ xs := by
  have k : r.toNat < xs.length := by omega
  have e : r = ((r.toNat : Nat) : Int) := by omega
  have q : atI xs ((r.toNat : Nat) : Int) = some xs[r.toNat] := atI_nat (List.getElem?_eq_getElem k)
  rw [← e] at q
  exact ⟨_, q, List.getElem_mem k⟩
/-! ## lists of flat data, by == -/
section
variable {K : PySem.W.Frag} {H : Hp}
theorem dp_ints : ∀ ns : List Int, DpAll K H (ns.map V.int) (ns.map PyData.int)
  | [] => .nil
  | n :: r => .cons (.int n) (dp_ints r)
theorem dp_bools : ∀ ns : List Bool, DpAll K H (ns.map V.bl) (ns.map PyData.bool)
  | [] => .nil
  | n :: r => .cons (.bl n) (dp_bools r)
theorem dp_strs : ∀ ns : List Str, DpAll K H (ns.map V.str) (ns.map PyData.str)
  | [] => .nil
  | n :: r => .cons (.str n) (dp_strs r)
/-- no list, tuple or dict -/
def flatD : PyData → Bool
  | .none => true
  | .bool _ => true
  | .int _ => true
  | .str x => PyData.strOk x
  | _ => false
theorem lay_flat {x : PyData} (h : flatD x = true) : x.canLay0 = true ∧ x.depth ≤ 1 := by
  cases x with
  | none => constructor <;> simp [PyData.canLay0, PyData.depth]
  | bool _ => constructor <;> simp [PyData.canLay0, PyData.depth]
  | int _ => constructor <;> simp [PyData.canLay0, PyData.depth]
  | str x =>
    have h' : PyData.strOk x = true := h
    constructor <;> simp [PyData.canLay0, PyData.depth, h']
  | list _ => cases h
  | tuple _ => cases h
  | dict _ => cases h
theorem lay_flats : ∀ {ds : List PyData}, (∀ x ∈ ds, flatD x = true) → PyData.canLayAll0 ds = true ∧ PyData.depthAll ds ≤ 1
  | [], _ => by constructor <;> simp [PyData.canLayAll0, PyData.depthAll]
  | x :: r, h => by
    obtain ⟨a1, a2⟩ := lay_flat (h x (List.mem_cons_self ..))
    obtain ⟨b1, b2⟩ := lay_flats (ds := r) fun y hy => h y (List.mem_cons_of_mem _ hy)
    constructor
    · simp [PyData.canLayAll0, a1, b1]
    · simp only [PyData.depthAll]
      omega
theorem shaped_flats {ds : List PyData} (h : ∀ x ∈ ds, flatD x = true) : SeqAt.shaped (.list ds) = true := by
  obtain ⟨b1, b2⟩ := lay_flats h
  have e : PyData.depth (.list ds) = PyData.depthAll ds + 1 := by simp only [PyData.depth]
  unfold SeqAt.shaped
  rw [e]
  simp only [PyData.canLay0, b1, Bool.true_and, decide_eq_true_eq]
  omega
theorem shaped_ints (ns : List Int) : SeqAt.shaped (.list (ns.map PyData.int)) = true := shaped_flats fun x hx => by
  obtain ⟨n, _, rfl⟩ := List.mem_map.mp hx
  rfl
theorem shaped_bools (ns : List Bool) : SeqAt.shaped (.list (ns.map PyData.bool)) = true := shaped_flats fun x hx => by
  obtain ⟨n, _, rfl⟩ := List.mem_map.mp hx
  rfl
theorem shaped_strs {ns : List Str} (h : ∀ x ∈ ns, PyData.strOk x = true) : SeqAt.shaped (.list (ns.map PyData.str)) = true := shaped_flats fun x hx => by
  obtain ⟨n, hn, rfl⟩ := List.mem_map.mp hx
  exact h n hn
theorem shaped_nil : SeqAt.shaped (.list []) = true := shaped_flats fun x hx => by cases hx
theorem eqv_nil {ds : List PyData} : PyData.eqv (.list ds) (.list []) = ds.isEmpty := by
  cases ds <;> simp [PyData.eqv, PyData.eqvAll]
theorem eqv_bools : ∀ xs ys : List Bool, PyData.eqvAll (xs.map PyData.bool) (ys.map PyData.bool) = decide (xs = ys)
  | [], [] => by simp [PyData.eqvAll]
  | [], _ :: _ => by simp [PyData.eqvAll]
  | _ :: _, [] => by simp [PyData.eqvAll]
  | x :: xs, y :: ys => by
    simp only [List.map_cons, PyData.eqvAll, PyData.eqv, eqv_bools xs ys]
    by_cases h : x = y <;> by_cases k : xs = ys <;> simp [h, k]
end
end Gn

set_option Elab.async false
set_option linter.all false
set_option maxRecDepth 100000
set_option maxHeartbeats 4000000
namespace Lw
open PySem PySem.Spec PyProof.Rows L2 Gn
def top (i : Nat) : Stmt := PySem.Challenge.pw_hearpurse_k02_ancestors_and_subtrees.main.body.getD i (.Pass ⟨0, 0, 0, 0⟩)
abbrev sWall : Stmt := top 0
abbrev sName : Stmt := top 8
abbrev sRow : Stmt := top 10
abbrev sWrong : Stmt := top 11
abbrev sBegun : Stmt := top 14
abbrev sMixed : Stmt := top 15
abbrev sTake : Stmt := top 16
abbrev sPick : Stmt := top 17
abbrev sWords : Stmt := top 18
abbrev sForest : Stmt := top 19
abbrev sLUp : Stmt := top 20
abbrev sLRefusal : Stmt := top 21
abbrev sLaw : Stmt := top 22
def cBody : Stmt → List Stmt
  | .ClassDef (body := b) .. => b
  | _ => []
def meth (i : Nat) : Stmt := (cBody (top 12)).getD i (.Pass ⟨0, 0, 0, 0⟩)
abbrev sInit : Stmt := meth 1
abbrev sEq : Stmt := meth 2
abbrev sNames : Stmt := meth 3
abbrev sText : Stmt := meth 4
abbrev sAnc : Stmt := meth 5
abbrev sSub : Stmt := meth 6
abbrev sParse : Stmt := meth 7
section
variable {P : Program} {w : World} {K : PySem.W.Frag} {mg : Str → Option Value} {base : Heap}
/-! ### _law_mixed -/
def spMixed (ns : List Int) : Sp := fun vs H Q _ => ∃ (d g c : Addr) (b : Nat), vs = [.ref d] ∧ Dw ns d g c b H ∧ b ≤ 1000000000 ∧
  ∀ (r : Int) (H' : Hp), Dw ns d g c (b + 1) H' → Kp d g H H' → Q (.int r) H'
theorem scMixed : FnScope ["_law_state", "_law_found", "_law_prime", "_law_blend", "_law_cell"] ["_law_state"] (defScope sMixed) := ⟨rfl, rfl, rfl, by decide +kernel, rfl, by decide +kernel, by decide +kernel⟩
def primes : List Int := [2147483629, 2147483587, 2147483579, 2147483563, 2147483549, 2147483543]
theorem prime_of {p : Int} (h : p ∈ primes) : 2000000000 < p ∧ p < 2147483648 := by
  unfold primes at h
  simp only [List.mem_cons, List.not_mem_nil, or_false] at h
  omega
theorem ok_mixed {f : Addr} {fd : FuncData} (ns : List Int) (F : Fun K "_law_mixed" "_law_mixed" sMixed f fd) : FnOk P w K mg base CX0 1 f fd ["_law_state"] (spMixed ns) := by
  refine F.ok scMixed (fun vs H Q E h => ?_) (fun cdv A outer s H vs Q E hr h => ?_)
  · obtain ⟨d, g, c, b, rfl, _⟩ := h
    rfl
  · obtain ⟨d, g, c, b, rfl, D, hb, k⟩ := h
    have hu := hu_of hr
    have nd := scMixed.nd
    refine ⟨_, pss_cons (ps_dput hu (pv 0) pe_str (pe_op op_add (pe_dget hu (pv 0) pe_str (fun _ _ => rfl)) pe_int) rfl)
      (pss_cons (ps_set (i := 1) nd rfl (.inl rfl) pe_int)
      (pss_cons (ps_for PassesOwn.never rfl (pi_list (pe_lst (pa_cons pe_int (pa_cons pe_int (pa_cons pe_int (pa_cons pe_int (pa_cons pe_int (pa_cons pe_int pa_nil)))))))) (pg_name (i := 2) nd rfl (.inl rfl))
        (pss_cons (ps_set (i := 3) nd rfl (.inl rfl) (pe_op op_add (pe_op op_mul pe_int (pe_dget hu (pv 0) pe_str (fun _ _ => rfl))) (pe_op op_fdivN (pv 2) pe_int)))
        (pss_cons (ps_for PassesOwn.never rfl (pi_list (pe_dget hu (pv 0) pe_str (fun _ _ => rfl))) (pg_name (i := 4) nd rfl (.inl rfl))
          (pss_one (ps_set (i := 3) nd rfl (.inl rfl) (pe_op op_modN (pe_op op_add (pe_op op_mul (pv 3) pe_int) (pv 4)) (pv 2)))))
        (pss_one (ps_set (i := 1) nd rfl (.inl rfl) (pe_op op_add (pe_op op_mul (pv 1) pe_int) (pe_op op_modN (pe_op op_pow (pv 3) pe_int) (pv 2))))))))
      (pss_one (ps_ret (pv 1))))), ?_⟩
    obtain ⟨⟨gs, l, t, hd, hg, t0, tb⟩, hc, ncd, ncg⟩ := id D
    have ndg : g ≠ d := ne_of hg hd (by intro z; cases z)
    refine ⟨_, rfl, d, _, rfl, get_t hd, t, 1, rfl, rfl, _, rfl, d, _, rfl, put_t hd, ?_⟩
    generalize hH1 : upd H d (.dK (dk g c l (t + 1))) = H1
    have hd1 : H1 d = some (.dK (dk g c l (t + 1))) := by rw [← hH1, upd_same]
    have hg1 : H1 g = some (.lst (gs.map V.int)) := by rw [← hH1, upd_ne ndg]; exact hg
    have hc1 : H1 c = some (.lst (ns.map V.int)) := by rw [← hH1, upd_ne ncd]; exact hc
    have k1 : Kp d g H H1 := by rw [← hH1]; exact Kp.at_d
    refine ⟨by show 6 ≤ sizeLine; decide, fun p hp => ?_⟩
    have hd2 := new_same (o := .lst (primes.map V.int)) hp _ _ hd1
    have hg2 := new_same (o := .lst (primes.map V.int)) hp _ _ hg1
    have hc2 := new_same (o := .lst (primes.map V.int)) hp _ _ hc1
    refine ⟨p, rfl, ⟨_, SqL.of upd_same⟩, for_list (K := K) (a := p) (xs := primes.map V.int) (fun i σ H' => H' = upd H1 p (.lst (primes.map V.int)) ∧ ∃ (f : Int) (v2 v3 v4 : Option V), σ = [some (.ref d), some (.int f), v2, v3, v4])
      ⟨rfl, 0, none, none, none, rfl⟩ (fun i σ H' _ ⟨e, _⟩ => by rw [e]; exact SqL.of upd_same) ?_ ?_⟩
    · rintro i x σ H' hx ⟨rfl, f, v2, v3, v4, rfl⟩
      obtain ⟨pr, hpr, rfl⟩ : ∃ z : Int, z ∈ primes ∧ x = V.int z := by
        obtain ⟨z, hz, e⟩ := List.mem_map.mp (List.mem_of_getElem? hx)
        exact ⟨z, hz, e.symm⟩
      obtain ⟨p1, p2⟩ := prime_of hpr
      refine ⟨_, rfl, d, _, rfl, get_t hd2, 69997, t + 1, rfl, rfl, .inl ⟨by decide, by decide⟩, _, rfl, pr, 11, rfl, rfl, ⟨by decide, by decide⟩, _, _, rfl, rfl, ?_⟩
      have q0 : 0 ≤ pr.fdiv 11 ∧ pr.fdiv 11 < 2147483648 := by
        rw [Int.fdiv_eq_ediv_of_nonneg pr (by decide)]
        omega
      refine ⟨_, rfl, d, _, rfl, get_c hd2, c, rfl, ⟨_, SqL.of hc2⟩, for_list (K := K) (a := c) (xs := ns.map V.int) (fun i σ H' => H' = upd H1 p (.lst (primes.map V.int)) ∧ ∃ (y : Int) (v4 : Option V), y.natAbs < 2 ^ 64 ∧ σ = [some (.ref d), some (.int f), some (.int pr), some (.int y), v4])
        ⟨rfl, _, v4, ?_, rfl⟩ (fun i σ H' _ ⟨e, _⟩ => by rw [e]; exact SqL.of hc2) ?_ ?_⟩
      · omega
      · rintro j x σ H' hx ⟨rfl, y, v4, hy, rfl⟩
        obtain ⟨z, rfl⟩ : ∃ z : Int, x = V.int z := by
          obtain ⟨z, hz, e⟩ := List.mem_map.mp (List.mem_of_getElem? hx)
          exact ⟨z, e.symm⟩
        refine ⟨_, rfl, y, 48271, rfl, rfl, .inr ⟨by decide, by decide⟩, _, rfl, _, z, rfl, rfl, _, rfl, _, pr, rfl, rfl, (by omega), ?_⟩
        have r1 := fmod_lo (a := y * 48271 + z) (b := pr) (by omega)
        have r2 := fmod_hi (a := y * 48271 + z) (b := pr) (by omega)
        exact ⟨rfl, _, some (.int z), by omega, rfl⟩
      · rintro σ H' ⟨rfl, y, v4, hy, rfl⟩
        refine ⟨_, rfl, f, 2147483647, rfl, rfl, .inr ⟨by decide, by decide⟩, _, rfl, y, 5, rfl, rfl, ⟨by decide, by decide, hy⟩, _, rfl, _, pr, rfl, rfl, (by omega), _, _, rfl, rfl, ?_⟩
        exact ⟨rfl, _, some (.int pr), some (.int y), v4, rfl⟩
    · rintro σ H' ⟨rfl, f, v2, v3, v4, rfl⟩
      refine ⟨_, rfl, ?_⟩
      refine k f _ ⟨⟨gs, l, t + 1, hd2, hg2, by omega, by omega⟩, hc2, ncd, ncg⟩ (k1.trans (Kp.new hp))
theorem z60 {z : Int} (h : z ≤ 10000000000000) (h0 : 0 < z := by assumption) : z.natAbs < 2 ^ 60 := by
  have : (2 : Nat) ^ 60 = 1152921504606846976 := by decide
  rw [this]
  omega
/-! ### _law_take -/
def spTake (ns : List Int) : Sp := fun vs H Q _ => ∃ (d g c : Addr) (b : Nat) (z : Int), vs = [.ref d, .int z] ∧ Dw ns d g c b H ∧ b ≤ 1000000000 ∧ 0 < z ∧ z ≤ 10000000000000 ∧
  ∀ (r : Int) (H' : Hp), 0 ≤ r → r < z → Dw ns d g c (b + 1) H' → Kp d g H H' → Q (.int r) H'
theorem scTake : FnScope ["_law_state", "_law_size", "_law_found"] ["_law_state", "_law_size"] (defScope sTake) := ⟨rfl, rfl, rfl, by decide +kernel, rfl, by decide +kernel, by decide +kernel⟩
theorem ok_take {f fM : Addr} {fd fdM : FuncData} (ns : List Int) (F : Fun K "_law_take" "_law_take" sTake f fd) (GM : FnOk P w K mg base CX0 1 fM fdM ["_law_state"] (spMixed ns)) (bM : Binds K fdM ["_law_state"] []) (kM : PySem.W.keepIn K (.ref fM) = true) (mM : mg "_law_mixed" = some (.ref fM)) :
    FnOk P w K mg base CX0 2 f fd ["_law_state", "_law_size"] (spTake ns) := by
  refine F.ok scTake (fun vs H Q E h => ?_) (fun cdv A outer s H vs Q E hr h => ?_)
  · obtain ⟨d, g, c, b, z, rfl, _⟩ := h
    rfl
  · obtain ⟨d, g, c, b, z, rfl, D, hb, z0, z1, k⟩ := h
    have hu := hu_of hr
    have nd := scTake.nd
    refine ⟨_, pss_cons (ps_if (pt_cmpR op_eq (pe_dget hu (pv 0) pe_str (fun _ _ => rfl)) pe_int (nomark _))
        (pss_one (ps_dput hu (pv 0) pe_str (pe_ifExp (pt_cmpR (op_neD hr.units) (pe_dget hu (pv 0) pe_str (fun _ _ => rfl)) (pe_lst pa_nil) (nomark _))
          (pe_bm PySem.F.plainAttrs_list PySem.F.slot_list_pop PySem.F.type_list_pop mt_popAt (pe_dget hu (pv 0) pe_str (fun _ _ => rfl)) (pa_cons pe_int pa_nil))
          (pe_call GM hr rfl mM kM bM .nil pass0 (pa_cons (pv 0) pa_nil))) rfl)) pss_nil)
      (pss_cons (ps_set (i := 2) nd rfl (.inl rfl) (pe_op op_modN (pe_dget hu (pv 0) pe_str (fun _ _ => rfl)) (pv 1)))
      (pss_cons (ps_dput hu (pv 0) pe_str (pe_op op_fdivW (pe_dget hu (pv 0) pe_str (fun _ _ => rfl)) (pv 1)) rfl)
      (pss_one (ps_ret (pv 2))))), ?_⟩
    -- behind the if: the state with a number left
    have tail : ∀ (H1 : Hp), Dw ns d g c (b + 1) H1 → Kp d g H H1 → tSeq (tAsg (tOp (rI (fun _ j => j ≠ 0) fun i j => .int (i.fmod j)) (tDGet (tVar 0) (tC (.str "left"))) (tVar 1)) (gName 2))
        (tSeq (sDPut (tVar 0) (tC (.str "left")) (tOp (rI CDivW fun i j => .int (i / j)) (tDGet (tVar 0) (tC (.str "left"))) (tVar 1))) (tRet (tVar 2))) { nx := fun _ H' => Q .non H', rt := Q } [some (.ref d), some (.int z), none] H1 := by
      intro H1 D1 k1
      obtain ⟨⟨gs, l, t, hd, hg, t0, tb⟩, hc, ncd, ncg⟩ := id D1
      have ndg : g ≠ d := ne_of hg hd (by intro z; cases z)
      refine ⟨_, rfl, d, _, rfl, get_l hd, _, rfl, l, z, rfl, rfl, (by omega), ?_⟩
      refine ⟨_, rfl, d, _, rfl, get_l hd, _, rfl, l, z, rfl, rfl, wide_div (b := 60) z0 (z60 z1) (by decide) (by decide), _, rfl, d, _, rfl, put_l hd, _, rfl, ?_⟩
      refine k _ _ (fmod_lo z0) (fmod_hi z0) ⟨⟨gs, _, t, upd_same, by rw [upd_ne ndg]; exact hg, t0, tb⟩, by rw [upd_ne ncd]; exact hc, ncd, ncg⟩ (k1.trans Kp.at_d)
    obtain ⟨⟨gs, l, t, hd, hg, t0, tb⟩, hc, ncd, ncg⟩ := id D
    have ndg : g ≠ d := ne_of hg hd (by intro z; cases z)
    refine ⟨_, rfl, d, _, rfl, get_l hd, rfl, _, rfl, ?_⟩
    refine ite2 (fun e => ?_) (fun e => tail H (D.mono (by omega)) Kp.refl)
    refine ⟨_, rfl, d, _, rfl, get_g hd, by show 0 ≤ sizeLine; decide, fun p hp => ?_⟩
    have hd1 := new_same (o := .lst []) hp _ _ hd
    have hg1 := new_same (o := .lst []) hp _ _ hg
    have hc1 := new_same (o := .lst []) hp _ _ hc
    refine ⟨_, _, .lst (SqL.of hg1) (dp_ints gs), .lst (SqL.of upd_same) .nil, shaped_ints gs, shaped_nil, _, rfl, ?_⟩
    rw [eqv_nil]
    cases gs with
    | nil =>
      refine iteF ?_
      refine ⟨_, rfl, d, g, c, b, rfl, D.new hp, hb, fun r H' D' k' => ?_⟩
      obtain ⟨⟨gs, l, t, hd', hg', t0, tb⟩, hc', ncd, ncg⟩ := id D'
      have ndg : g ≠ d := ne_of hg' hd' (by intro z; cases z)
      refine ⟨_, rfl, d, _, rfl, put_l hd', ?_⟩
      exact tail _ ⟨⟨gs, _, t, upd_same, by rw [upd_ne ndg]; exact hg', t0, tb⟩, by rw [upd_ne ncd]; exact hc', ncd, ncg⟩ (((Kp.new hp).trans k').trans Kp.at_d)
    | cons n r =>
      refine iteT ?_
      refine ⟨_, rfl, d, _, rfl, get_g hd1, .inl ⟨rfl, _, SqL.of hg1⟩, g, _, 0, 0, _, rfl, rfl, hg1, by decide, by decide, (ixN_seq (n := (List.map V.int (n :: r)).length) (i := 0) (j := 0) (by simp [ixN])).1, rfl, ?_⟩
      refine ⟨_, rfl, d, _, rfl, put_l (by rw [upd_ne ndg.symm]; exact hd1), ?_⟩
      refine tail _ ⟨⟨r, _, t, upd_same, by rw [upd_ne ndg, upd_same]; rfl, t0, by omega⟩, by rw [upd_ne ncd, upd_ne ncg]; exact hc1, ncd, ncg⟩ (((Kp.new hp).trans Kp.at_g).trans Kp.at_d)
/-! ### _law_pick, out of a list and out of a text -/
theorem scPick : FnScope ["_law_state", "_law_some"] ["_law_state", "_law_some"] (defScope sPick) := ⟨rfl, rfl, rfl, by decide +kernel, rfl, by decide +kernel, by decide +kernel⟩
/-- one of the items of a list, or one sign of a text -/
def spPick (K : PySem.W.Frag) (ns : List Int) : Sp := fun vs H Q _ => ∃ (d g c : Addr) (b : Nat), Dw ns d g c b H ∧ b ≤ 1000000000 ∧
  ((∃ (a : Addr) (xs : List V), vs = [.ref d, .ref a] ∧ H a = some (.lst xs) ∧ a ≠ d ∧ a ≠ g ∧ 0 < xs.length ∧ xs.length ≤ 1000000 ∧
    ∀ (x : V) (H' : Hp), x ∈ xs → Dw ns d g c (b + 1) H' → Kp d g H H' → Q x H') ∨
   (∃ z : Str, vs = [.ref d, .str z] ∧ 0 < z.length ∧ z.length ≤ 1000000 ∧ ∀ (x : Nat) (H' : Hp), x ∈ z.cps.toList → Dw ns d g c (b + 1) H' → Kp d g H H' → Q (.str ⟨#[x]⟩) H'))
theorem ok_pick {f fT : Addr} {fd fdT : FuncData} (ns : List Int) (F : Fun K "_law_pick" "_law_pick" sPick f fd) (GT : FnOk P w K mg base CX0 2 fT fdT ["_law_state", "_law_size"] (spTake ns)) (bT : Binds K fdT ["_law_state", "_law_size"] []) (kT : PySem.W.keepIn K (.ref fT) = true) (mT : mg "_law_take" = some (.ref fT))
    (ml : mg "len" = none) : FnOk P w K mg base CX0 3 f fd ["_law_state", "_law_some"] (spPick K ns) := by
  refine F.ok scPick (fun vs H Q E h => ?_) (fun cdv A outer s H vs Q E hr h => ?_)
  · obtain ⟨d, g, c, b, D, hb, ⟨a, xs, rfl, _⟩ | ⟨z, rfl, _⟩⟩ := h <;> rfl
  · obtain ⟨d, g, c, b, D, hb, h⟩ := h
    have hu := hu_of hr
    have nd := scPick.nd
    refine ⟨_, pss_one (ps_ret (pe_ix ix_seq (pv 1) (pe_call GT hr rfl mT kT bT .nil pass0 (pa_cons (pv 0) (pa_cons (pe_callB call_len rfl ml PySem.boot_len (pa_cons (pv 1) pa_nil)) pa_nil))) (fun _ _ => rfl))), ?_⟩
    rcases h with ⟨a, xs, rfl, ha, nad, nag, h0, h1, k⟩ | ⟨z, rfl, h0, h1, k⟩
    · refine ⟨_, rfl, _, rfl, _, rfl, _, _, rfl, .inl ⟨_, SqL.of ha, rfl⟩, d, g, c, b, _, rfl, D, hb, by omega, by omega, fun r H' r0 r1 D' k' => ?_⟩
      obtain ⟨v, hv, hm⟩ := at_int r0 r1
      exact .inl ⟨a, xs, r, v, rfl, rfl, SqL.of (k' a _ nad nag ha), hv, k v H' hm D' k'⟩
    · refine ⟨_, rfl, _, rfl, _, rfl, _, _, rfl, ⟨by rw [sizeLine_eq]; omega, rfl⟩, d, g, c, b, _, rfl, D, hb, by omega, by omega, fun r H' r0 r1 D' k' => ?_⟩
      have e : r = ((r.toNat : Nat) : Int) := by omega
      have hl : r.toNat < z.cps.toList.length := by
        have : z.cps.toList.length = z.length := by simp [Str.length]
        omega
      have q : atI z.cps.toList ((r.toNat : Nat) : Int) = some z.cps.toList[r.toNat] := atI_nat (List.getElem?_eq_getElem hl)
      rw [← e] at q
      exact .inr (.inr ⟨z, r, _, rfl, rfl, by rw [sizeLine_eq]; omega, q, k _ H' (List.getElem_mem hl) D' k'⟩)
/-! ### _law_begun -/
def spBegun (K : PySem.W.Frag) (ns : List Int) : Sp := fun vs H Q _ => ∃ (a : Addr), vs = [.ref a] ∧ SqL K H a (ns.map V.int) ∧ ns.length ≤ 63 ∧
  ∀ (d g c : Addr) (H' : Hp), Dw ns d g c 0 H' → (∀ b o, H b = some o → H' b = some o) → H d = none → H g = none → H c = none → Q (.ref d) H'
theorem scBegun : FnScope ["_law_script", "_law_great", "_law_cell"] ["_law_script"] (defScope sBegun) := ⟨rfl, rfl, rfl, by decide +kernel, rfl, by decide +kernel, by decide +kernel⟩
theorem ok_begun {f : Addr} {fd : FuncData} (ns : List Int) (F : Fun K "_law_begun" "_law_begun" sBegun f fd) (mli : mg "list" = none) : FnOk P w K mg base CX0 1 f fd ["_law_script"] (spBegun K ns) := by
  refine F.ok scBegun (fun vs H Q E h => ?_) (fun cdv A outer s H vs Q E hr h => ?_)
  · obtain ⟨a, rfl, _⟩ := h
    rfl
  · obtain ⟨a, rfl, hS, hl, k⟩ := h
    have hu := hu_of hr
    have nd := scBegun.nd
    refine ⟨_, pss_cons (ps_setLc (i := 1) (own := [("_law_cell", 2)]) (g := gName 2) rfl nd rfl rfl (sw_true rfl rfl rfl (by decide +kernel)) (pi_list (pv 0)) (blkOk_by (N := ["_law_script", "_law_great", "_law_cell"]) (sc := defScope sBegun) (by decide +kernel))
        (fun _ _ _ _ _ => pg_name (i := 2) nd rfl (.inl rfl)) (fun _ _ _ _ _ => pts_one (pt_cmpR op_ge (pv 2) (pe_op op_pow pe_int pe_int) (nomark _))) (fun _ _ _ _ _ => pe_op op_sub (pv 2) (pe_op op_pow pe_int pe_int)))
      (pss_one (ps_ret (pe_disp (pps_cons pe_str (pv 1) (pps_cons pe_str (pe_callTy call_list_of rfl mli (by decide +kernel) (pa_cons (pv 0) pa_nil)) (pps_cons pe_str pe_int (pps_cons pe_str pe_int pps_nil)))) (by rfl) (by rfl) (fun z => by cases z) (by decide)))), ?_⟩
    have keep0 : ∀ {H' : Hp} {g : Addr} {o : HO}, (∀ b o, H b = some o → H' b = some o) → H g = none → ∀ b u, H b = some u → upd H' g o b = some u := fun {H' g o} s hg b u e => by
      rw [upd_ne (ne_of_none e hg)]
      exact s b u e
    refine ⟨_, rfl, a, rfl, ⟨_, hS⟩, fun g hg => ?_⟩
    refine lc_list (K := K) (a := a) (xs := ns.map V.int) (fun i H' => (∀ b o, H b = some o → H' b = some o) ∧ ∃ gs : List Int, gs.length ≤ i ∧ H' g = some (.lst (gs.map V.int)))
      ⟨fun b o e => new_same hg b o e, [], Nat.le_refl _, upd_same⟩ (fun i H' _ ⟨s, _⟩ => Same.seq s hS) ?_ ?_
    · rintro i x H' hx ⟨s5, gs, hgl, hg'⟩
      obtain ⟨z, rfl⟩ : ∃ z : Int, x = V.int z := by
        obtain ⟨z, hz, e⟩ := List.mem_map.mp (List.mem_of_getElem? hx)
        exact ⟨z, e.symm⟩
      have hi : i < ns.length := by
        have := (List.getElem?_eq_some_iff.mp hx).1
        rw [List.length_map] at this
        exact this
      refine ⟨rfl, _, rfl, 10, 18, rfl, rfl, ⟨by decide, by decide, by decide⟩, _, _, rfl, rfl, _, rfl, ?_⟩
      refine ite2 (fun _ => ?_) (fun _ => ?_)
      · refine ⟨_, rfl, 10, 18, rfl, rfl, ⟨by decide, by decide, by decide⟩, _, _, rfl, rfl, _, hg', small1000 (by rw [List.length_map]; omega), keep0 s5 hg, gs ++ [z - 10 ^ (18 : Int).toNat], by rw [List.length_append]; show gs.length + 1 ≤ i + 1; omega, ?_⟩
        rw [upd_same, List.map_append]
        rfl
      · exact ⟨s5, gs, by omega, hg'⟩
    · rintro H1 ⟨s1, gs, hgl, hg1⟩ d hd
      refine ⟨_, rfl, _, rfl, a, _, rfl, .inl (Same.seq (new_same hd) (Same.seq s1 hS)), fun c hc => ?_⟩
      have ndc : c ≠ d := fun e => by rw [e, upd_same] at hc; cases hc
      have hd2 : (upd (upd H1 d (.dK [])) c (.lst (ns.map V.int))) d = some (.dK []) := by rw [upd_ne ndc.symm, upd_same]
      refine ⟨hd2, dk g c 0 0, rfl, (by show 4 ≤ 15; decide), ?_⟩
      rw [merge_dk]
      have ngd : g ≠ d := fun e => by rw [← e, hg1] at hd; cases hd
      have hg2 : upd H1 d (.dK []) g = some (.lst (gs.map V.int)) := by rw [upd_ne ngd]; exact hg1
      have ngc : g ≠ c := fun e => by rw [← e, hg2] at hc; cases hc
      have H1d : H d = none := by
        cases e : H d with
        | none => rfl
        | some u => rw [s1 d u e] at hd; cases hd
      have H1c : H c = none := by
        cases e : H c with
        | none => rfl
        | some u => rw [new_same hd c u (s1 c u e)] at hc; cases hc
      refine k d g c _ ⟨⟨gs, 0, 0, upd_same, by rw [upd_ne ngd, upd_ne ngc]; exact hg2, by omega, by omega⟩, by rw [upd_ne ndc, upd_same], ndc, ngc.symm⟩ (fun b o e => ?_) H1d hg H1c
      rw [upd_ne (ne_of_none e H1d), upd_ne (ne_of_none e H1c), upd_ne (ne_of_none e H1d)]
      exact s1 b o e
end
end Lw

set_option Elab.async false
set_option linter.all false
set_option maxRecDepth 100000
set_option maxHeartbeats 4000000
/-! a law's own body, run by the caller that the row names: what is around it is known there -/
namespace Ge
open PySem PySem.Spec PyProof.Rows L2 Gn
/-- what is known where a law's own body runs -/
structure Bed (K : PySem.W.Frag) (mg : Str → Option Value) (base : Heap) (A : Around) : Prop where
  kin : K.In base
  glob : base.Ns mainGlobals mg
  sys : ∃ o, base.get? sysModules = some o
  gd : A.guards = some []
section
variable {P : Program} {w : World} {K : PySem.W.Frag} {mg : Str → Option Value} {base : Heap}
/-- one call of a def of the text, by its body, at one place -/
theorem call_here {x qual : Str} {st : Stmt} {f : Addr} {fd : FuncData} {N ps : List Str} {k : Nat} {A : Around} {outer : List Env} {s : Shared} {H : Hp} {vs : List V} {us : List Value} {Q : VK}
    (F : Fun K x qual st f fd) (S : FnScope N ps (defScope st)) (hr : Room (k + 1) A) (e0 : Env0 P w K mg base A outer s H) (hb : BindsTo s fd ⟨us, []⟩ (ps.zip us)) (hl : vs.length = ps.length) (r : Vals vs us)
    (body : ∀ cdv : Value, Room k (A.deeper (envOfC qual (defScope st) s.heap.objs.size f cdv)) →
      ∃ t, PSs (cxOf CX0 P w K mg base N qual (defScope st) f cdv A outer s H E0).nox (defBody st) t ∧ t { nx := fun _ H' => Q .non H', rt := Q } (start N vs) H) :
    codeAny (model P w) A (.call (.ref f) ⟨us, []⟩) (CR CX0 outer P w H s Q E0) s := by
  obtain ⟨oc, od, kV, doc, pm, an, cdv, ct, osl, rfl, lk, hcd⟩ := F.ex
  have old : ∀ b o, base.get? b = some o → s.heap.get? b = some o := fun b o e => (e0.bs b o e).1
  have KX : K.In s.heap := e0.mod.kin.keeps old
  obtain ⟨t, ht, hq⟩ := body cdv (hr.deeper _)
  refine codeAny_call_function hr.depth (KX _ _ lk) rfl S.co S.gen rfl (PySem.W.codeRec_of KX hcd) (hb _ _ _ _ ?_)
  refine wpAny_newFunctionEnv_cells S.kind (fun ⟨n, v⟩ hy => ?_) (fun env he s1 z => ?_)
  · cases S.par n (List.of_mem_zip hy).1 with
    | inl q => exact .inl q
    | inr q => exact .inr ⟨q, PySem.W.cellsFrom_some _ _ _ (.inl q)⟩
  · subst he
    refine ⟨(e0.mod.nolimit.keeps old).keeps z.toInCall.keep, codeAny_func ?_⟩
    have I : Inv (cxOf CX0 P w K mg base N qual (defScope st) f cdv A outer s H E0) [] (start N vs) H s1 := inv_start S hr.hd e0 hl r z
    refine wpAny_mono (ht.nox.run [] s1 (start N vs) H _ I hq) (fun fl s' hs => ?_) (fun e s' hs => hs)
    match fl, hs with
    | .ret u, ⟨v, σ', H', J, rv, q⟩ => exact ⟨v, H', J.os, J.bare, J.base, J.hok, rv, q⟩
    | .next, ⟨σ', H', J, q⟩ => exact ⟨.non, H', J.os, J.bare, J.base, J.hok, rfl, q⟩
    | .brk, ⟨_, _, _, q⟩ => exact q.elim
    | .cont, ⟨_, _, _, q⟩ => exact q.elim
end
/-- nothing is tracked, or the script's list alone, as a thing that is only read -/
def Hs (a : Addr) (o : Obj) (xs : List V) : Hp := fun b => if b = a then some (.frz o (.lst xs)) else none
theorem hs_at {a : Addr} {o : Obj} {xs : List V} : Hs a o xs a = some (.frz o (.lst xs)) := if_pos rfl
theorem hs_no {a b : Addr} {o : Obj} {xs : List V} (h : b ≠ a) : Hs a o xs b = none := if_neg h
def H0 : Hp := fun _ => none
section
variable {P : Program} {w : World} {K : PySem.W.Frag} {mg mb : Str → Option Value} {s₁ : Shared} {a : Addr} {vs : List Value} {ns : List Int} {st : Stmt} {N : List Str} {x : Str} {k : Nat} {fa : Addr} {fd : FuncData}
/-- the state that the row's call begins with -/
theorem env_of {H : Hp} (KX : K.In s₁.heap) (hns : s₁.heap.Ns mainGlobals mg) (hb : s₁.heap.Ns builtinsNs mb) (hbb : ∀ x : Str, x ≠ "__name__" → mb x = bootBuiltins x) (hlim : s₁.heap.NoLimit) (hsee : ∃ mm, s₁.heap.Ns sysModules mm) (hg : s₁.gens = #[])
    (ha : s₁.heap.get? a = some { cls := .type "list", data := .seq vs.toArray }) (only : ∀ b, H b ≠ none → b = a) (hka : H a ≠ none → K.lookup a = none) (hok : HOk P w H s₁.heap) :
    Env0 P w K mg (hidT s₁.heap H) callerA [] s₁ H ∧ Bed K mg (hidT s₁.heap H) callerA := by
  have free : ∀ {b : Addr}, b ≠ a → H b = none := fun {b} n => by
    cases e : H b with
    | none => rfl
    | some u => exact absurd (only b (by rw [e]; simp)) n
  have keepNs : ∀ {b : Addr} {m : Str → Option Value}, s₁.heap.Ns b m → (hidT s₁.heap H).Ns b m := fun {b m} h => by
    obtain ⟨o, es, ep, e, dd, r⟩ := h
    refine ⟨o, es, ep, hidT_get e (free fun z => ?_), dd, r⟩
    subst z
    rw [ha] at e
    cases e
    cases dd
  have kIn : K.In (hidT s₁.heap H) := fun b o e => hidT_get (KX b o e) (by
    cases q : H b with
    | none => rfl
    | some u =>
      have z := only b (by rw [q]; simp)
      subst z
      rw [hka (by rw [q]; simp)] at e
      cases e)
  obtain ⟨mc, c1, c2⟩ := hlim
  obtain ⟨mm, o, es, ep, e1, e2, e3⟩ := hsee
  have sysf : H sysModules = none := free fun z => by
    subst z
    rw [ha] at e1
    cases e1
    cases e2
  refine ⟨⟨rfl, ⟨kIn, keepNs hns, ⟨mb, keepNs hb, hbb⟩, ⟨mc, keepNs c1, c2⟩⟩, fun b o e => of_hidT e, Nat.le_of_eq (hidT_size _ _), trivial, fun b z => absurd (show b ∈ ([] : List Addr) from z) (by simp), hok, .of_eq hg⟩, kIn, keepNs hns, ⟨o, hidT_get e1 sysf⟩, rfl⟩
/-- the law's call gives True, if its body does wherever it may run -/
theorem law_true (KX : K.In s₁.heap) (hns : s₁.heap.Ns mainGlobals mg) (hb : s₁.heap.Ns builtinsNs mb) (hbb : ∀ x : Str, x ≠ "__name__" → mb x = bootBuiltins x) (hlim : s₁.heap.NoLimit) (hsee : ∃ mm, s₁.heap.Ns sysModules mm) (hg : s₁.gens = #[])
    (ha : s₁.heap.get? a = some { cls := .type "list", data := .seq vs.toArray }) (hi : IntsAre vs ns) (hl : ns.length ≤ sizeLine) (hr : Room (k + 1) callerA)
    (F : Fun K "law" "law" st fa fd) (S : FnScope N [x] (defScope st)) (hbind : ∀ (s : Shared) (u : Value), BindsTo s fd ⟨[u], []⟩ [(x, u)])
    (body : ∀ (base : Heap) (A : Around) (s : Shared) (H : Hp) (cdv : Value), Bed K mg base A → Room k (A.deeper (envOfC "law" (defScope st) s.heap.objs.size fa cdv)) → SqL K H a (ns.map V.int) →
      ∃ t, PSs (cxOf CX0 P w K mg base N "law" (defScope st) fa cdv A [] s H E0).nox (defBody st) t ∧ t { nx := fun _ _ => False, rt := fun v _ => v = .bl true } (start N [.ref a]) H) :
    codeAny (model P w) callerA (.call (.ref fa) ⟨[.ref a], []⟩) (fun r s' => r = .ok (.ret (.bool true)) ∧ OldK s₁.heap s'.heap ∧ s'.os = s₁.os ∧ AllBare s'.gens) s₁ := by
  have rv := vals_ints hi
  have lenV := hi.length
  have go : ∀ H : Hp, (∀ b, H b = none ∨ ∃ o xs, H b = some (.frz o (.lst xs))) → SqL K H a (ns.map V.int) → Env0 P w K mg (hidT s₁.heap H) callerA [] s₁ H ∧ Bed K mg (hidT s₁.heap H) callerA →
      codeAny (model P w) callerA (.call (.ref fa) ⟨[.ref a], []⟩) (fun r s' => r = .ok (.ret (.bool true)) ∧ OldK s₁.heap s'.heap ∧ s'.os = s₁.os ∧ AllBare s'.gens) s₁ := by
    rintro H hO hS ⟨e0, B⟩
    have hok := e0.hok
    refine codeAny_mono (call_here (Q := fun v _ => v = .bl true) (vs := [.ref a]) (us := [.ref a]) F S hr e0 (hbind s₁ (.ref a)) rfl (.cons rfl .nil) fun cdv hr' => ?_) fun r s' h => ?_
    · obtain ⟨t, h1, h2⟩ := body (hidT s₁.heap H) callerA s₁ H cdv B hr' hS
      refine ⟨t, ⟨fun pins s0 σ H1 D I z => ?_⟩, ?_⟩
      · exact h1.run pins s0 σ H1 D I z
      · exact (show t { nx := fun _ _ => V.non = V.bl true, rt := fun v _ => v = V.bl true } (start N [.ref a]) H from by
          have e : (fun (_ : L2.St) (_ : Hp) => V.non = V.bl true) = fun _ _ => False := by funext _ _; simp
          rw [e]; exact h2)
    · match r, h with
      | .error e, h => exact False.elim h
      | .ok .next, h => exact False.elim h
      | .ok .brk, h => exact False.elim h
      | .ok .cont, h => exact False.elim h
      | .ok (.ret u), ⟨v, H', os, bare, un, hok', r', q⟩ =>
        subst q
        obtain rfl : u = Value.bool true := r'
        refine ⟨rfl, OldK.of_keep fun b o e => ?_, os, bare⟩
        rcases hO b with z | ⟨ob, xs, z⟩
        · exact un.keep b o e z (by intro m; exact absurd (show b ∈ ([] : List Addr) from m) (by simp)) (by simp)
        · obtain ⟨e1, _⟩ := hok b _ z
          obtain ⟨e2, _⟩ := hok' b _ (un.frzs b ob _ z)
          rw [e] at e1
          cases e1
          exact e2
  cases hk : K.lookup a with
  | some o =>
    have e := KX a o hk
    rw [ha] at e
    cases e
    refine go H0 (fun _ => .inl rfl) (.inr ⟨_, vs.toArray, _, hk, rfl, rfl, rfl, ?_, ?_⟩) (env_of KX hns hb hbb hlim hsee hg ha (fun b z => absurd rfl z) (fun z => absurd rfl z) fun b u z => nomatch (show (none : Option HO) = some u from z))
    · rw [List.size_toArray, lenV]
      exact hl
    · simpa using rv
  | none =>
    refine go (Hs a { cls := .type "list", data := .seq vs.toArray } (ns.map V.int)) (fun b => ?_) (.inl (.inr ⟨_, hs_at⟩)) (env_of KX hns hb hbb hlim hsee hg ha (fun b z => ?_) (fun _ => hk) fun b u z => ?_)
    · by_cases n : b = a
      · subst n
        exact .inr ⟨_, _, hs_at⟩
      · exact .inl (hs_no n)
    · by_cases n : b = a
      · exact n
      · exact absurd (hs_no n) z
    · by_cases n : b = a
      · subst n
        cases hs_at.symm.trans z
        exact ⟨ha, by rw [List.length_map]; exact hl, vs, _, rv, ha⟩
      · cases (hs_no n).symm.trans z
end
open PySem.W in
/-- the goal that the head leaves -/
theorem walk_law {l : PySem.W.OpenLaw} {n k : Nat} {q : Program} {loose : List Str} {XP : (Str → Option Value) → Heap → Prop} {YP : World → Heap → Prop} {d : DefRec} {K : Params → PySem.W.Frag} {x : Str} {st : Stmt} {N : List Str}
    (hn : l.most = some n) (hn2 : n ≤ sizeLine) (hdf : d.params.defaults = []) (hr : Room (k + 1) callerA) (hi : importsNone q = true) (S : FnScope N [x] (defScope st))
    (hY : ∀ (w : World) (h : Heap), YP w h → (K w.params).In h)
    (F : ∀ (w : World) (mg : Str → Option Value) (fa : Addr) (h : Heap), (K w.params).In h → h.Ns mainGlobals mg → mg d.name = some (.ref fa) →
      ∃ fd : FuncData, Fun (K w.params) "law" "law" st fa fd ∧ (∀ (s : Shared) (u : Value), BindsTo s fd ⟨[u], []⟩ [(x, u)]) ∧
        ∀ (base : Heap) (A : Around) (s : Shared) (H : Hp) (cdv : Value) (a : Addr) (ns : List Int), ns.length ≤ n → Bed (K w.params) mg base A → Room k (A.deeper (envOfC "law" (defScope st) s.heap.objs.size fa cdv)) → SqL (K w.params) H a (ns.map V.int) →
          ∃ t, PSs (cxOf CX0 l.prog w (K w.params) mg base N "law" (defScope st) fa cdv A [] s H E0).nox (defBody st) t ∧ t { nx := fun _ _ => False, rt := fun v _ => v = .bl true } (start N [.ref a]) H) :
    PySem.W.WalkO q loose XP YP l.row.toRowW d [] (fun f vs => PySem.call f vs) := by
  refine Att.attach_call hn hdf fun w s₀ s₁ mg mb fa o pm cd doc a vs ns G Y ho hd hcd hmg hobj hints hlen hg => ?_
  have KX := hY w _ Y
  obtain ⟨fd, F1, F2, F3⟩ := F w mg fa _ KX G.T.g hmg
  obtain ⟨mm, z, _⟩ := (G.T.seer hi).mods
  exact law_true KX G.T.g G.T.b G.T.builtins G.T.nolimit ⟨mm, z⟩ hg hobj hints (Nat.le_trans hlen hn2) hr F1 S F2 fun base A s H cdv B hr' hS => F3 base A s H cdv a ns hlen B hr' hS
end Ge

set_option Elab.async false
set_option linter.all false
set_option maxRecDepth 100000
set_option maxHeartbeats 4000000
/-! data that stand in the heap, dicts too; what repr says of them -/
namespace Gr
open PySem PySem.Spec PyProof.Rows L2 Gn
def keyD : Key → PyData
  | .inl i => .int i
  | .inr x => .str x
mutual
inductive Dr (H : Hp) : V → PyData → Prop
  | non : Dr H .non .none
  | bl (b : Bool) : Dr H (.bl b) (.bool b)
  | int (i : Int) : Dr H (.int i) (.int i)
  | str (x : Str) : Dr H (.str x) (.str x)
  | lst {a : Addr} {xs : List V} {ds : List PyData} : H a = some (.lst xs) → DrAll H xs ds → Dr H (.ref a) (.list ds)
  | tup {a : Addr} {xs : List V} {ds : List PyData} : H a = some (.tup xs) → DrAll H xs ds → Dr H (.ref a) (.tuple ds)
  | dct {a : Addr} {kvs : List (Key × V)} {ds : List (PyData × PyData)} : H a = some (.dK kvs) → DrKv H kvs ds → Dr H (.ref a) (.dict ds)
inductive DrAll (H : Hp) : List V → List PyData → Prop
  | nil : DrAll H [] []
  | cons {v : V} {vs : List V} {d : PyData} {ds : List PyData} : Dr H v d → DrAll H vs ds → DrAll H (v :: vs) (d :: ds)
inductive DrKv (H : Hp) : List (Key × V) → List (PyData × PyData) → Prop
  | nil : DrKv H [] []
  | cons {k : Key} {v : V} {kvs : List (Key × V)} {d : PyData} {ds : List (PyData × PyData)} : Dr H v d → DrKv H kvs ds → DrKv H ((k, v) :: kvs) ((keyD k, d) :: ds)
end
section
variable {H H' : Hp}
mutual
theorem Dr.mono (s : ∀ a o, H a = some o → H' a = some o) : ∀ (d : PyData) (v : V), Dr H v d → Dr H' v d
  | .none, _, h => by cases h; exact .non
  | .bool b, _, h => by cases h; exact .bl b
  | .int i, _, h => by cases h; exact .int i
  | .str x, _, h => by cases h; exact .str x
  | .list ds, _, h => by
    cases h with
    | lst e r => exact .lst (s _ _ e) (DrAll.mono s ds _ r)
  | .tuple ds, _, h => by
    cases h with
    | tup e r => exact .tup (s _ _ e) (DrAll.mono s ds _ r)
  | .dict ds, _, h => by
    cases h with
    | dct e r => exact .dct (s _ _ e) (DrKv.mono s ds _ r)
theorem DrAll.mono (s : ∀ a o, H a = some o → H' a = some o) : ∀ (ds : List PyData) (vs : List V), DrAll H vs ds → DrAll H' vs ds
  | [], _, h => by cases h; exact .nil
  | d :: ds, _, h => by
    cases h with
    | cons e r => exact .cons (Dr.mono s d _ e) (DrAll.mono s ds _ r)
theorem DrKv.mono (s : ∀ a o, H a = some o → H' a = some o) : ∀ (ds : List (PyData × PyData)) (vs : List (Key × V)), DrKv H vs ds → DrKv H' vs ds
  | [], _, h => by cases h; exact .nil
  | (k, d) :: ds, _, h => by
    cases h with
    | cons e r => exact .cons (Dr.mono s d _ e) (DrKv.mono s ds _ r)
end
theorem DrAll.snoc : ∀ {vs : List V} {ds : List PyData} {v : V} {d : PyData}, DrAll H vs ds → Dr H v d → DrAll H (vs ++ [v]) (ds ++ [d])
  | [], _, _, _, .nil, h => .cons h .nil
  | _ :: _, _, _, _, .cons e r, h => .cons e (DrAll.snoc r h)
theorem DrAll.length : ∀ {vs : List V} {ds : List PyData}, DrAll H vs ds → vs.length = ds.length
  | _, _, .nil => rfl
  | _, _, .cons _ r => by rw [List.length_cons, List.length_cons, DrAll.length r]
end
section
variable {X : Cx} {pins : List (Addr × Obj)} {σ : L2.St} {H : Hp} {s : Shared}
theorem rel_key {k : Key} {u : Value} (h : keyIs k u = true) {s : Heap} : Reads s u (keyD k) [] := by
  rcases keyIs_shape h with ⟨i, t, rfl, rfl⟩ | ⟨x, t, rfl, rfl⟩
  · exact .int i t
  · exact .str x t
theorem keys_read {h : Heap} {P : Program} {w : World} : ∀ (ds : List (PyData × PyData)) (kvs : List (Key × V)) (vs : List (Key × Value)) (es : List DictEntry), DrKv H kvs ds → KV kvs vs → Pairs (mixKind P w) es vs →
    ∃ as, ReadsAll h (es.map (·.key)) (ds.map (·.1)) as ∧ sysModules ∉ as
  | [], _, _, _, e, r, p => by
    cases e
    cases r
    cases p
    exact ⟨_, ReadsAll.nil, by simp⟩
  | (k, d) :: ds, _, _, _, e, r, p => by
    cases e with
    | cons h1 h2 =>
      cases r with
      | cons r1 r2 =>
        cases p with
        | cons p1 p2 p3 =>
          obtain ⟨bs, q2, n2⟩ := keys_read (h := h) ds _ _ _ h2 r2 p3
          obtain ⟨r3, _⟩ := r1
          rw [← r3] at p1
          exact ⟨_, ReadsAll.cons (rel_key p1) q2, fun m => n2 m⟩
theorem not_sys (I : Inv X pins σ H s) (hs : ∃ o, X.base.get? sysModules = some o) {a : Addr} {o : HO} (h : H a = some o) : sysModules ≠ a := fun e => by
  obtain ⟨ob, hob⟩ := hs
  have n := (I.bs _ _ hob).2
  rw [e, h] at n
  cases n
mutual
theorem Dr.reads (I : Inv X pins σ H s) (hs : ∃ o, X.base.get? sysModules = some o) : ∀ (d : PyData) (v : V) (u : Value), Dr H v d → RelV v u → ∃ as, Reads s.heap u d as ∧ sysModules ∉ as
  | .none, _, _, h, r => by
    cases h
    cases r
    exact ⟨_, Reads.none, by simp⟩
  | .bool b, _, _, h, r => by
    cases h
    cases r
    exact ⟨_, Reads.bool b, by simp⟩
  | .int i, _, _, h, r => by
    cases h
    obtain ⟨t, rfl⟩ := r
    exact ⟨_, Reads.int i t, by simp⟩
  | .str x, _, _, h, r => by
    cases h
    obtain ⟨t, rfl⟩ := r
    exact ⟨_, Reads.str x t, by simp⟩
  | .list ds, _, _, h, r => by
    cases h with
    | lst e ha =>
      cases r
      obtain ⟨its, rv, ⟨o, n, ho, hc, _, hd⟩, _⟩ := I.list (SqL.of e)
      obtain ⟨as, hr, hn⟩ := DrAll.reads I hs ds _ its ha rv
      exact ⟨_, Reads.list ho hc hd hr, fun m => by
        rcases List.mem_cons.mp m with z | z
        · exact not_sys I hs e z
        · exact hn z⟩
  | .tuple ds, _, _, h, r => by
    cases h with
    | tup e ha =>
      cases r
      obtain ⟨its, rv, ⟨o, ho, hc, n, hd⟩, _⟩ := I.tuple (SqT.of e)
      obtain ⟨as, hr, hn⟩ := DrAll.reads I hs ds _ its ha rv
      exact ⟨_, Reads.tuple ho hc hd hr, hn⟩
  | .dict ds, _, _, h, r => by
    cases h with
    | @dct a kvs _ e ha =>
      cases r
      obtain ⟨_, _, vs, kv, o, es, ep, ho, hx, hdt, _, ps, _⟩ := (show ObjOk X.prog X.w H s.heap a (.dK kvs) from I.hok a _ e)
      obtain ⟨as, hr, hn⟩ := DrKv.reads I hs ds kvs vs es.toList ha kv ps
      obtain ⟨bs, q1, q2⟩ := keys_read (h := s.heap) ds kvs vs es.toList ha kv ps
      exact ⟨_, Reads.dict ho hx.1 hdt q1 hr, fun m => by
        rcases List.mem_append.mp m with z | z
        · rcases List.mem_cons.mp z with z | z
          · exact not_sys I hs e z
          · exact q2 z
        · exact hn z⟩
theorem DrAll.reads (I : Inv X pins σ H s) (hs : ∃ o, X.base.get? sysModules = some o) : ∀ (ds : List PyData) (vs : List V) (us : List Value), DrAll H vs ds → Vals vs us → ∃ as, ReadsAll s.heap us ds as ∧ sysModules ∉ as
  | [], _, _, h, r => by
    cases h
    cases r
    exact ⟨_, ReadsAll.nil, by simp⟩
  | d :: ds, _, _, h, r => by
    cases h with
    | cons h1 h2 =>
      cases r with
      | cons r1 r2 =>
        obtain ⟨as, q1, n1⟩ := Dr.reads I hs d _ _ h1 r1
        obtain ⟨bs, q2, n2⟩ := DrAll.reads I hs ds _ _ h2 r2
        exact ⟨_, ReadsAll.cons q1 q2, fun m => (List.mem_append.mp m).elim n1 n2⟩
theorem DrKv.reads (I : Inv X pins σ H s) (hs : ∃ o, X.base.get? sysModules = some o) : ∀ (ds : List (PyData × PyData)) (kvs : List (Key × V)) (vs : List (Key × Value)) (es : List DictEntry), DrKv H kvs ds → KV kvs vs → Pairs (mixKind X.prog X.w) es vs →
    ∃ as, ReadsAll s.heap (es.map (·.val)) (ds.map (·.2)) as ∧ sysModules ∉ as
  | [], _, _, _, h, r, p => by
    cases h
    cases r
    cases p
    exact ⟨_, ReadsAll.nil, by simp⟩
  | (k, d) :: ds, _, _, _, h, r, p => by
    cases h with
    | cons h1 h2 =>
      cases r with
      | cons r1 r2 =>
        cases p with
        | cons p1 p2 p3 =>
          obtain ⟨as, q1, n1⟩ := Dr.reads I hs d _ _ h1 r1.2
          obtain ⟨bs, q2, n2⟩ := DrKv.reads I hs ds _ _ _ h2 r2 p3
          rw [← p2] at q1
          exact ⟨_, ReadsAll.cons q1 q2, fun m => (List.mem_append.mp m).elim n1 n2⟩
end
end
/-- repr(v), v any data -/
def rRepr : List V → Hp → VK → Prop := fun xs H Q => ∃ v d, xs = [v] ∧ Dr H v d ∧ d.showable = true ∧ d.depth ≤ 60 ∧ d.shown.length ≤ sizeLine ∧ Q (.str d.shown) H
theorem call_repr {X : Cx} (hg : X.A.guards = some []) (hu : X.A.units + 64 < cLine) (hs : ∃ o, X.base.get? sysModules = some o) : CallR X (.builtin "repr") rRepr := by
  intro pins s σ H xs us Q I r h
  obtain ⟨v, d, rfl, hd, sh, dp, sz, q⟩ := h
  obtain ⟨u, rfl, ru⟩ := vals1 r
  have fin : ∀ h' tk uk, (∀ b o, s.heap.get? b = some o → h'.get? b = some o) → EP X pins σ Q (.str d.shown uk) { s with heap := h', toks := tk } := fun h' tk uk k => ⟨.str d.shown, H, I.kept k, ⟨uk, rfl⟩, q⟩
  obtain ⟨as, hr, hn⟩ := Dr.reads I hs d v u hd ru
  cases hr with
  | none => exact PySem.P.repr_of_none (by have e := fin s.heap (s.toks + 1) s.toks (fun _ _ e => e); simpa only [PyData.shown] using e)
  | bool b => exact PySem.P.repr_of_bool (by have e := fin s.heap (s.toks + 1) s.toks (fun _ _ e => e); simpa only [PyData.shown] using e)
  | int i t => exact PySem.P.repr_of_int (by simpa [PyData.showable] using sh) (by have e := fin s.heap (s.toks + 1) s.toks (fun _ _ e => e); simpa only [PyData.shown] using e)
  | str x t => exact PySem.P.repr_of_str (by have e := fin s.heap (s.toks + 1) s.toks (fun _ _ e => e); simpa only [PyData.shown] using e) (by simpa only [PyData.shown] using sz)
  | list h1 h2 h3 h4 => exact repr_of_reads' (Reads.list h1 h2 h3 h4) sh (fun _ => hn) hg (by omega) (fun _ _ e => e) (fun h' u tk k => fin h' tk u k) sz
  | tuple h1 h2 h3 h4 => exact repr_of_reads' (Reads.tuple h1 h2 h3 h4) sh (fun _ => hn) hg (by omega) (fun _ _ e => e) (fun h' u tk k => fin h' tk u k) sz
  | dict h1 h2 h3 h4 h5 => exact repr_of_reads' (Reads.dict h1 h2 h3 h4 h5) sh (fun _ => hn) hg (by omega) (fun _ _ e => e) (fun h' u tk k => fin h' tk u k) sz
end Gr

set_option Elab.async false
set_option linter.all false
set_option maxRecDepth 100000
set_option maxHeartbeats 4000000
/-! more rules and words -/
namespace Gk
open PySem PySem.Spec PyProof.Rows L2 Gn Gr
section
variable {X : Cx} {CX : CXT} {k : Nat} {f : Addr} {fd : FuncData} {ps ks : List Str} {sp : Sp} {E : XK} {x : Str} {p pos : Pos} {kws : List Keyword} {tk : TA} {g : List Value → List Value → List Value} {gV : List V → List V → List V}
/-- f(k = v, ..) -/
theorem pe_kw (F : FnOk X.prog X.w X.K X.mg X.base CX k f fd ps sp) (hr : Room k X.A) (hg : Gl X x) (hm : X.mg x = some (.ref f)) (hk : PySem.W.keepIn X.K (.ref f) = true) (hb : KBinds X.K fd ps ks g gV) (hx : Passes CX X E) (hkw : PK X kws tk)
    (hall : (backToKw pos (keywordEach kws X.env)).all (·.1.isSome) = true := by rfl) (hks : (backToKw pos (keywordEach kws X.env)).filterMap (·.1) = ks := by rfl) (hdb : (x == ("__debug__" : Str)) = false := by decide)
    (hpl : ((backTo pos (starEach [] X.env)).any (·.1) || (backToKw pos (keywordEach kws X.env)).any (·.1.isNone)) = false := by rfl) :
    PE X (.Call (.Name x p) [] kws pos) (tCallK sp gV E tNil tk) := by
  refine ⟨fun pins s σ H Q I h => ?_⟩
  refine wpAny_Call_Name_kw (ld_glob I hg hm ?_ hdb)
  refine PySem.W.callWith_KW0 (h₀ := X.base) I.ok.mod.kin hk hall ?_ hpl
  refine thn (hkw.run pos pins s σ H _ I h) fun ws s2 ⟨zs, H2, I2, rz, q2⟩ => ⟨I2.kIn, ?_⟩
  rw [hks]
  exact run_fnk (us := []) (vs := []) F hr hb hx I2 .nil rz q2
/-- one parameter, given by its name or its place -/
theorem kb_one {K : PySem.W.Frag} {y : Str} (b : ∀ (s : Shared) (w : Value), BindsTo s fd ⟨[], [(y, w)]⟩ [(y, w)]) (b' : ∀ (s : Shared) (w : Value), BindsTo s fd ⟨[w], []⟩ [(y, w)]) : KBinds K fd [y] [y] (fun us ws => us ++ ws) (fun vs zs => vs ++ zs) := by
  refine ⟨fun s us ws _ hl => ?_, fun r q => Vals.append r q⟩
  match us, ws, hl with
  | [], [w], _ => exact b s w
  | [w], [], _ => exact b' s w
  | [], [], hl => exact absurd hl (by simp)
  | [], _ :: _ :: _, hl => exact absurd hl (by simp)
  | [_], _ :: _, hl => exact absurd hl (by simp)
  | _ :: _ :: _, _, hl => exact absurd hl (by simp)
end
/-- no test in a comprehension -/
theorem yes_of {σ : L2.St} {H : Hp} {A B : Hp → Prop} (h : A H) : tYes σ H (fun b H3 => if b = true then A H3 else B H3) := by
  show if true = true then A H else B H
  rw [if_pos rfl]
  exact h
/-! ## texts of signs below 128 -/
def Asc (n : Nat) (x : Str) : Prop := x.length ≤ n ∧ ∀ c ∈ x.cps.toList, c < 128
theorem len_cps (x : Str) : x.cps.toList.length = x.length := by simp [Str.length]
theorem cps_app (x y : Str) : (x ++ y).cps.toList = x.cps.toList ++ y.cps.toList := by
  show (x.cps ++ y.cps).toList = _
  simp
theorem Asc.app {n m : Nat} {x y : Str} (h : Asc n x) (k : Asc m y) : Asc (n + m) (x ++ y) := by
  refine ⟨by rw [strLen_append]; have := h.1; have := k.1; omega, fun c hc => ?_⟩
  rw [cps_app] at hc
  exact (List.mem_append.mp hc).elim (h.2 c) (k.2 c)
theorem Asc.mono {n m : Nat} {x : Str} (h : Asc n x) (k : n ≤ m) : Asc m x := ⟨Nat.le_trans h.1 k, h.2⟩
theorem Asc.one {c : Nat} (h : c < 128) : Asc 1 (⟨#[c]⟩ : Str) := ⟨Nat.le_refl _, fun b hb => by
  have : b = c := by simpa using hb
  omega⟩
theorem Asc.cut {n : Nat} {x : Str} (h : Asc n x) (lo hi : Option Int) : Asc n (cutS x lo hi) := by
  have e : (cutS x lo hi).cps.toList = (x.cps.toList.drop (HT.sIx x.length 0 lo)).take (HT.sIx x.length x.length hi - HT.sIx x.length 0 lo) := by
    unfold cutS
    simp
  refine ⟨?_, fun c hc => ?_⟩
  · rw [← len_cps, e, List.length_take, List.length_drop, len_cps]
    have := h.1
    omega
  · rw [e] at hc
    exact h.2 c (List.mem_of_mem_drop (List.mem_of_mem_take hc))
theorem Asc.ok {n : Nat} {x : Str} (h : Asc n x) : PyData.strOk x = true := by
  unfold PyData.strOk
  rw [Array.all_eq_true']
  intro c hc
  have := h.2 c (by simpa using hc)
  simp only [decide_eq_true_eq]
  omega
theorem Asc.shown {n : Nat} {x : Str} (h : Asc n x) : (reprText x).length ≤ 10 * n + 2 := by
  have := PySem.StrLaws.reprText_len x fun c hc => Nat.lt_of_lt_of_le (h.2 c hc) (by decide)
  have := h.1
  omega
/-! ## what is new since -/
def Nw (H H' : Hp) : Hp := fun a => match H a with | none => H' a | some _ => none
section
variable {H H' H2 : Hp} {a : Addr} {o : HO}
theorem nw_of (h : Nw H H' a = some o) : H a = none ∧ H' a = some o := by
  unfold Nw at h
  cases e : H a with
  | none => rw [e] at h; exact ⟨rfl, h⟩
  | some u => rw [e] at h; cases h
theorem nw_to (h : H a = none) (k : H' a = some o) : Nw H H' a = some o := by
  unfold Nw
  rw [h]
  exact k
theorem nw_sub : ∀ a o, Nw H H' a = some o → H' a = some o := fun a o h => (nw_of h).2
end
/-! ## numbers as texts -/
theorem shown_int {i : Int} (h : i.natAbs < 10 ^ 20) : (PyData.int i).showable = true ∧ (PyData.int i).shown.length ≤ 21 := by
  constructor
  · simp only [PyData.showable, decide_eq_true_eq]
    by_cases z : i.natAbs = 0
    · rw [z]; decide
    · refine (Nat.log2_lt z).mpr (Nat.lt_trans h ?_)
      decide +kernel
  · simp only [PyData.shown]
    show (Str.ofString (toString i)).length ≤ 21
    rw [PySem.ofString_length]
    exact int_text_length_le10 (by decide) h
/-! ## how much a value's text may hold -/
def Ok (n : Nat) (x : PyData) : Prop := x.showable = true ∧ x.depth ≤ n ∧ x.shown.length ≤ 200 * 4 ^ n
theorem pow_pos4 (n : Nat) : 1 ≤ 4 ^ n := Nat.pow_pos (by decide)
theorem pow_le4 {n m : Nat} (h : n ≤ m) : 4 ^ n ≤ 4 ^ m := Nat.pow_le_pow_right (by decide) h
theorem pow_s4 (n : Nat) : 4 ^ (n + 1) = 4 * 4 ^ n := by rw [Nat.pow_succ, Nat.mul_comm]
theorem Ok.mono {n m : Nat} {x : PyData} (h : Ok n x) (k : n ≤ m) : Ok m x :=
  ⟨h.1, Nat.le_trans h.2.1 k, Nat.le_trans h.2.2 (Nat.mul_le_mul_left _ (pow_le4 k))⟩
theorem Ok.flat {n : Nat} {x : PyData} (h1 : x.showable = true) (h2 : x.depth = 0) (h3 : x.shown.length ≤ 200) : Ok n x := by
  have := pow_pos4 n
  exact ⟨h1, by omega, by omega⟩
theorem ok_str {n : Nat} {x : Str} (h : Asc 19 x) : Ok n (.str x) := by
  have := h.shown
  refine Ok.flat (by simp only [PyData.showable]) (by simp only [PyData.depth]) ?_
  simp only [PyData.shown]
  omega
theorem ok_int {n : Nat} {i : Int} (h : i.natAbs < 10 ^ 20) : Ok n (.int i) := by
  obtain ⟨a, b⟩ := shown_int h
  exact Ok.flat a (by simp only [PyData.depth]) (by omega)
theorem ok_all {n : Nat} : ∀ {ds : List PyData}, (∀ x ∈ ds, Ok n x) → PyData.showableAll ds = true ∧ PyData.depthAll ds ≤ n ∧ (PyData.shownAll ds).length = ds.length ∧ ((PyData.shownAll ds).map (·.length)).sum ≤ ds.length * (200 * 4 ^ n)
  | [], _ => by
    refine ⟨by simp only [PyData.showableAll], by simp only [PyData.depthAll]; omega, by simp only [PyData.shownAll]; rfl, by simp only [PyData.shownAll]; simp⟩
  | x :: r, h => by
    obtain ⟨a1, a2, a3⟩ := h x (List.mem_cons_self ..)
    obtain ⟨b1, b2, b3, b4⟩ := ok_all (ds := r) fun y hy => h y (List.mem_cons_of_mem _ hy)
    refine ⟨?_, ?_, ?_, ?_⟩
    · simp only [PyData.showableAll, a1, b1, Bool.and_self]
    · simp only [PyData.depthAll]
      omega
    · simp only [PyData.shownAll, List.length_cons, b3]
    · simp only [PyData.shownAll, List.map_cons, List.sum_cons, List.length_cons]
      rw [Nat.succ_mul]
      omega
theorem two_mul {k n : Nat} (h : k ≤ 2) : k * (200 * 4 ^ n) ≤ 2 * (200 * 4 ^ n) := Nat.mul_le_mul_right _ h
theorem ok_list {n : Nat} {ds : List PyData} (h : ∀ x ∈ ds, Ok n x) (h2 : ds.length ≤ 2) : Ok (n + 1) (.list ds) := by
  obtain ⟨b1, b2, b3, b4⟩ := ok_all h
  have := listText_len_le (PyData.shownAll ds)
  have := two_mul (n := n) h2
  have := pow_pos4 n
  refine ⟨by simp only [PyData.showable, b1], by simp only [PyData.depth]; omega, ?_⟩
  simp only [PyData.shown]
  rw [pow_s4]
  omega
theorem ok_tuple {n : Nat} {ds : List PyData} (h : ∀ x ∈ ds, Ok n x) (h2 : ds.length ≤ 2) : Ok (n + 1) (.tuple ds) := by
  obtain ⟨b1, b2, b3, b4⟩ := ok_all h
  have := tupleText_len_le (PyData.shownAll ds)
  have := two_mul (n := n) h2
  have := pow_pos4 n
  refine ⟨by simp only [PyData.showable, b1], by simp only [PyData.depth]; omega, ?_⟩
  simp only [PyData.shown]
  rw [pow_s4]
  omega
theorem ok_kvs {n : Nat} : ∀ {ds : List (PyData × PyData)}, (∀ p ∈ ds, (∃ x, p.1 = .str x ∧ Asc 19 x) ∧ Ok n p.2) → PyData.showableKv ds = true ∧ PyData.depthKv ds ≤ n ∧ (PyData.shownKv ds).length = ds.length ∧ ((PyData.shownKv ds).map (·.length)).sum ≤ ds.length * (194 + 200 * 4 ^ n)
  | [], _ => by
    refine ⟨by simp only [PyData.showableKv], by simp only [PyData.depthKv]; omega, by simp only [PyData.shownKv]; rfl, by simp only [PyData.shownKv]; simp⟩
  | (kx, x) :: r, h => by
    obtain ⟨⟨y, e, hy⟩, a1, a2, a3⟩ := h (kx, x) (List.mem_cons_self ..)
    obtain ⟨b1, b2, b3, b4⟩ := ok_kvs (ds := r) fun y hy => h y (List.mem_cons_of_mem _ hy)
    have e : kx = .str y := e
    subst e
    have a1 : x.showable = true := a1
    have a2 : x.depth ≤ n := a2
    have a3 : x.shown.length ≤ 200 * 4 ^ n := a3
    have hy' := hy.shown
    refine ⟨?_, ?_, ?_, ?_⟩
    · simp only [PyData.showableKv, PyData.showable, a1, b1, Bool.and_self]
    · simp only [PyData.depthKv, PyData.depth]
      omega
    · simp only [PyData.shownKv, List.length_cons, b3]
    · simp only [PyData.shownKv, List.map_cons, List.sum_cons, List.length_cons, PyData.shown]
      rw [strLen_append, strLen_append, Nat.succ_mul]
      have e2 : ((": " : String) : Str).length = 2 := rfl
      omega
theorem ok_dict {n : Nat} {ds : List (PyData × PyData)} (h : ∀ p ∈ ds, (∃ x, p.1 = .str x ∧ Asc 19 x) ∧ Ok n p.2) (h2 : ds.length ≤ 2) : Ok (n + 1) (.dict ds) := by
  obtain ⟨b1, b2, b3, b4⟩ := ok_kvs h
  have := dictText_len_le (PyData.shownKv ds)
  have : ds.length * (194 + 200 * 4 ^ n) ≤ 2 * (194 + 200 * 4 ^ n) := Nat.mul_le_mul_right _ h2
  have := pow_pos4 n
  refine ⟨by simp only [PyData.showable, b1], by simp only [PyData.depth]; omega, ?_⟩
  simp only [PyData.shown]
  rw [pow_s4]
  omega
/-! ## keys '0', '1', .. -/
def tagS (n : Nat) : Str := ((toString (n : Int) : String) : Str)
def tags : Nat → List V → List (Key × V)
  | _, [] => []
  | n, v :: r => ((Sum.inr (tagS n) : Key), v) :: tags (n + 1) r
def tagD : Nat → List PyData → List (PyData × PyData)
  | _, [] => []
  | n, d :: r => (.str (tagS n), d) :: tagD (n + 1) r
theorem tags_snoc : ∀ (vs : List V) (n : Nat) (v : V), tags n (vs ++ [v]) = tags n vs ++ [((Sum.inr (tagS (n + vs.length)) : Key), v)]
  | [], n, v => rfl
  | w :: r, n, v => by
    have e : n + 1 + r.length = n + (w :: r).length := by rw [List.length_cons]; omega
    show (_, w) :: tags (n + 1) (r ++ [v]) = (_, w) :: (tags (n + 1) r ++ _)
    rw [tags_snoc r (n + 1) v, e]
theorem tags_dr {H : Hp} : ∀ {vs : List V} {ds : List PyData} (n : Nat), DrAll H vs ds → DrKv H (tags n vs) (tagD n ds)
  | _, _, _, .nil => .nil
  | _, _, n, .cons e r => .cons e (tags_dr (n + 1) r)
theorem tagD_len : ∀ (ds : List PyData) (n : Nat), (tagD n ds).length = ds.length
  | [], _ => rfl
  | _ :: r, n => by show (tagD (n + 1) r).length + 1 = r.length + 1; rw [tagD_len r]
theorem tag_asc {n : Nat} (h : n < 10) : Asc 19 (tagS n) := by
  have : n = 0 ∨ n = 1 ∨ n = 2 ∨ n = 3 ∨ n = 4 ∨ n = 5 ∨ n = 6 ∨ n = 7 ∨ n = 8 ∨ n = 9 := by omega
  rcases this with rfl | rfl | rfl | rfl | rfl | rfl | rfl | rfl | rfl | rfl <;> exact ⟨by decide +kernel, by decide +kernel⟩
theorem tagD_ok {m : Nat} : ∀ {ds : List PyData} (n : Nat), n + ds.length ≤ 9 → (∀ x ∈ ds, Ok m x) → ∀ p ∈ tagD n ds, (∃ x, p.1 = .str x ∧ Asc 19 x) ∧ Ok m p.2
  | [], _, _, _, p, hp => by cases hp
  | d :: r, n, hn, h, p, hp => by
    rw [List.length_cons] at hn
    rcases List.mem_cons.mp hp with e | hp
    · subst e
      exact ⟨⟨_, rfl, tag_asc (by omega)⟩, h d (List.mem_cons_self ..)⟩
    · exact tagD_ok (n + 1) (by omega) (fun x hx => h x (List.mem_cons_of_mem _ hx)) p hp
theorem tags_merge {vs : List V} (h : vs.length ≤ 2) : mergeK [] (tags 0 vs) = tags 0 vs := by
  match vs, h with
  | [], _ => rfl
  | [a], _ => rfl
  | [a, b], _ =>
    have n01 : ¬ (Sum.inr (tagS 0) : Key) = Sum.inr (tagS 1) := by decide +kernel
    show putK (putK [] (Sum.inr (tagS 0) : Key) a) (Sum.inr (tagS 1) : Key) b = [((Sum.inr (tagS 0) : Key), a), ((Sum.inr (tagS 1) : Key), b)]
    have e1 : putK [] (Sum.inr (tagS 0) : Key) a = [((Sum.inr (tagS 0) : Key), a)] := rfl
    rw [e1]
    exact putK_new b ((valV_neg n01).trans valV_nil)
/-- .. and a text is made of signs below 128 -/
def OkT (n : Nat) (x : PyData) : Prop := Ok n x ∧ ∀ s, x = .str s → Asc 19 s
theorem okT_of {n : Nat} {x : PyData} (h : Ok n x) (k : ∀ s, x ≠ .str s) : OkT n x := ⟨h, fun s e => absurd e (k s)⟩
theorem okT_str {n : Nat} {x : Str} (h : Asc 19 x) : OkT n (.str x) := ⟨ok_str h, fun s e => by cases e; exact h⟩
/-! ## the type of a value -/
def Ext (H H' : Hp) : Prop := ∀ a o, H a = some o → H' a = some o
theorem Ext.refl {H : Hp} : Ext H H := fun _ _ e => e
theorem Ext.trans {H H' H2 : Hp} (h : Ext H H') (k : Ext H' H2) : Ext H H2 := fun a o e => k a o (h a o e)
theorem Ext.new {H : Hp} {p : Addr} {o : HO} (h : H p = none) : Ext H (upd H p o) := fun a u e => new_same h a u e
inductive TyT (H : Hp) : V → String → Prop
  | non : TyT H .non "NoneType"
  | bl (b : Bool) : TyT H (.bl b) "bool"
  | int (i : Int) : TyT H (.int i) "int"
  | str (x : Str) : TyT H (.str x) "str"
  | lst {a : Addr} {xs : List V} : H a = some (.lst xs) → TyT H (.ref a) "list"
  | tup {a : Addr} {xs : List V} : H a = some (.tup xs) → TyT H (.ref a) "tuple"
  | dct {a : Addr} {kvs : List (Key × V)} : H a = some (.dK kvs) → TyT H (.ref a) "dict"
theorem TyT.x {K : PySem.W.Frag} {H : Hp} {v : V} {T : String} (h : TyT H v T) : TyX K H v (.type T) := by
  cases h with
  | non => exact .base .non
  | bl b => exact .base (.bl b)
  | int i => exact .base (.int i)
  | str x => exact .base (.str x)
  | lst e => exact .base (.lst e)
  | tup e => exact .base (.tup e)
  | dct e => exact .base (.dK e)
theorem TyT.ext {H H' : Hp} {v : V} {T : String} (h : TyT H v T) (k : Ext H H') : TyT H' v T := by
  cases h with
  | non => exact .non
  | bl b => exact .bl b
  | int i => exact .int i
  | str x => exact .str x
  | lst e => exact .lst (k _ _ e)
  | tup e => exact .tup (k _ _ e)
  | dct e => exact .dct (k _ _ e)
theorem dr_ty {H : Hp} {v : V} {x : PyData} (h : Dr H v x) : (∃ s, v = .str s ∧ x = .str s) ∨ (∃ i, v = .int i) ∨ (TyT H v "NoneType" ∨ TyT H v "bool" ∨ TyT H v "list" ∨ TyT H v "tuple" ∨ TyT H v "dict") := by
  cases h with
  | non => exact .inr (.inr (.inl .non))
  | bl b => exact .inr (.inr (.inr (.inl (.bl b))))
  | int i => exact .inr (.inl ⟨i, rfl⟩)
  | str x => exact .inl ⟨x, rfl, rfl⟩
  | lst e _ => exact .inr (.inr (.inr (.inr (.inl (.lst e)))))
  | tup e _ => exact .inr (.inr (.inr (.inr (.inr (.inl (.tup e))))))
  | dct e _ => exact .inr (.inr (.inr (.inr (.inr (.inr (.dct e))))))
/-- isinstance of a value whose type is told -/
theorem isi_ty {K : PySem.W.Frag} {H : Hp} {v : V} {T U : String} {r : Bool} {Q : VK} (h : TyT H v T) (k : kitB T U = some r) (q : Q (.bl r) H) : rIsi K [v, .ty U] H Q :=
  ⟨v, .ty U, .type T, .type U, r, rfl, .ty U, h.x, kit_ty k, q⟩
/-! ## what a name is, what an amount is -/
def letters : Str := "abcdefghijklmnopqrstuvwxyz"
def isL (c : Nat) : Bool := decide (c ∈ letters.cps.toList)
def nameOk (x : Str) : Bool := decide (1 ≤ x.length) && (decide (x.length ≤ 8) && x.cps.toList.all isL)
def amtOk (i : Int) : Bool := decide (1 ≤ i) && decide (i ≤ 1000000000)
def NameV (H : Hp) (v : V) (r : Bool) : Prop := (∃ x, v = .str x ∧ Asc 19 x ∧ r = nameOk x) ∨ (r = false ∧ (TyT H v "NoneType" ∨ TyT H v "bool" ∨ TyT H v "int" ∨ TyT H v "list" ∨ TyT H v "tuple" ∨ TyT H v "dict"))
def AmtV (H : Hp) (v : V) (r : Bool) : Prop := (∃ i, v = .int i ∧ r = amtOk i) ∨ (r = false ∧ (TyT H v "NoneType" ∨ TyT H v "bool" ∨ TyT H v "str" ∨ TyT H v "list" ∨ TyT H v "tuple" ∨ TyT H v "dict"))
def spName : Sp := fun vs H Q _ => ∃ v r, vs = [v] ∧ NameV H v r ∧ ∀ H', Ext H H' → Q (.bl r) H'
def spAmt : Sp := fun vs H Q _ => ∃ v r, vs = [v] ∧ AmtV H v r ∧ ∀ H', Ext H H' → Q (.bl r) H'
theorem NameV.ext {H H' : Hp} {v : V} {r : Bool} (h : NameV H v r) (k : Ext H H') : NameV H' v r := by
  rcases h with h | ⟨e, h⟩
  · exact .inl h
  · refine .inr ⟨e, ?_⟩
    rcases h with h | h | h | h | h | h
    · exact .inl (h.ext k)
    · exact .inr (.inl (h.ext k))
    · exact .inr (.inr (.inl (h.ext k)))
    · exact .inr (.inr (.inr (.inl (h.ext k))))
    · exact .inr (.inr (.inr (.inr (.inl (h.ext k)))))
    · exact .inr (.inr (.inr (.inr (.inr (h.ext k)))))
theorem AmtV.ext {H H' : Hp} {v : V} {r : Bool} (h : AmtV H v r) (k : Ext H H') : AmtV H' v r := by
  rcases h with h | ⟨e, h⟩
  · exact .inl h
  · refine .inr ⟨e, ?_⟩
    rcases h with h | h | h | h | h | h
    · exact .inl (h.ext k)
    · exact .inr (.inl (h.ext k))
    · exact .inr (.inr (.inl (h.ext k)))
    · exact .inr (.inr (.inr (.inl (h.ext k))))
    · exact .inr (.inr (.inr (.inr (.inl (h.ext k)))))
    · exact .inr (.inr (.inr (.inr (.inr (h.ext k)))))
theorem dr_judged {H : Hp} {v : V} {x : PyData} {n : Nat} (h : Dr H v x) (k : OkT n x) : (∃ r, NameV H v r) ∧ ∃ r, AmtV H v r := by
  rcases dr_ty h with ⟨s, rfl, rfl⟩ | ⟨i, rfl⟩ | h | h | h | h | h
  · exact ⟨⟨_, .inl ⟨s, rfl, k.2 s rfl, rfl⟩⟩, ⟨false, .inr ⟨rfl, .inr (.inr (.inl (.str s)))⟩⟩⟩
  · exact ⟨⟨false, .inr ⟨rfl, .inr (.inr (.inl (.int i)))⟩⟩, ⟨_, .inl ⟨i, rfl, rfl⟩⟩⟩
  · exact ⟨⟨false, .inr ⟨rfl, .inl h⟩⟩, ⟨false, .inr ⟨rfl, .inl h⟩⟩⟩
  · exact ⟨⟨false, .inr ⟨rfl, .inr (.inl h)⟩⟩, ⟨false, .inr ⟨rfl, .inr (.inl h)⟩⟩⟩
  · exact ⟨⟨false, .inr ⟨rfl, .inr (.inr (.inr (.inl h)))⟩⟩, ⟨false, .inr ⟨rfl, .inr (.inr (.inr (.inl h)))⟩⟩⟩
  · exact ⟨⟨false, .inr ⟨rfl, .inr (.inr (.inr (.inr (.inl h))))⟩⟩, ⟨false, .inr ⟨rfl, .inr (.inr (.inr (.inr (.inl h))))⟩⟩⟩
  · exact ⟨⟨false, .inr ⟨rfl, .inr (.inr (.inr (.inr (.inr h))))⟩⟩, ⟨false, .inr ⟨rfl, .inr (.inr (.inr (.inr (.inr h))))⟩⟩⟩
end Gk

set_option Elab.async false
set_option linter.all false
set_option maxRecDepth 100000
set_option maxHeartbeats 4000000
/-! rules for objects: static methods, keywords of a method, == and != by an own __eq__, tuple(dict) -/
namespace Go
open PySem PySem.Spec PyProof.Rows L2 Gn Gr Gk
section
variable {X : Cx} {CX : CXT} {k n : Nat} {C f g p : Addr} {mc : Value} {fd : FuncData} {ps ks : List Str} {sp : Sp} {E : XK} {o e : Expr} {es : List Expr} {kws : List Keyword} {m : Str} {pos apos : Pos} {ta : TE} {t tk : TA} {pl : Sem Bool} {gg : List Value → List Value → List Value} {gV : List V → List V → List V}
/-! ### a static method, through its class -/
structure SMet (K : PySem.W.Frag) (C : Addr) (mc : Value) (m : Str) (p g : Addr) : Prop where
  at_ : PySem.W.findCls K (.ref C) mc m = some (.get (.builtin "staticmethod.__get__") (.ref p) .none (.ref C))
  rc : ∃ rest, PySem.W.recIn K p "staticmethod" = some (.ref g :: rest)
theorem getsm_ok {pins : List (Addr × Obj)} {σ : L2.St} {H : Hp} {s : Shared} {A : Around} {E : Value → Shared → Prop} {Q : Value × List Value → Shared → Prop} (I : Inv X pins σ H s) (r : ClX.CRead X.K C mc) (c : SMet X.K C mc m p g)
    (h : ∀ s', Inv X pins σ H s' → Q (.ref g, []) s') : wpAny (model X.prog X.w) A (getMethod (.ref C) m pl) Q E s := by
  obtain ⟨rest, hp⟩ := c.rc
  refine PySem.W.method_cls I.kIn r.ga (PySem.W.cls_bind I.kIn r.rd c.at_ (wpAny_call (PySem.W.sm_get (s := { s with toks := s.toks + 1 }) I.kIn hp (PySem.W.handed_on rfl ?_))))
  exact h _ (I.tok _)
def tSMeth (C : Addr) (sp : Sp) (E : XK) (ta : TE) (t : TA) : TE := fun σ H Q => ta σ H fun x H1 => x = .ref C ∧ t σ H1 fun vs H2 => sp vs H2 Q E
theorem pe_smeth (he : PE X o ta) (r : ClX.CRead X.K C mc) (c : SMet X.K C mc m p g) (hk : PySem.W.keepIn X.K (.ref g) = true) (F : FnOk X.prog X.w X.K X.mg X.base CX k g fd ps sp) (hr : Room k X.A) (hb : Binds X.K fd ps []) (hx : Passes CX X E) (ha : PA X (e :: es) t)
    (hst : starEach (e :: es) X.env = (false, eval e X.env) :: starEach es X.env := by rfl) (hpl : (backTo pos (starEach es X.env)).any (·.1) = false := by rfl)
    (ht : eval (.Call (.Attribute o m apos) (e :: es) [] pos) X.env = (do
      let ov ← eval o X.env
      standAt apos.atName
      let (f, first) ← holding [ov] (getMethod ov m pl)
      callWith pos f first (backTo pos (starEach (e :: es) X.env)) (backToKw pos (keywordEach [] X.env))) := by rfl) :
    PE X (.Call (.Attribute o m apos) (e :: es) [] pos) (tSMeth C sp E ta t) := by
  refine ⟨fun pins s σ H Q I h => ?_⟩
  refine PySem.W.methodCall_KW (pl := pl) (thn (he.run pins s σ H _ I h) fun u s1 ⟨x, H1, I1, rx, ex, q⟩ => ?_) ht
  subst ex
  obtain rfl : u = Value.ref C := rx
  refine getsm_ok I1 r c fun s2 I2 => ?_
  refine PySem.W.callWith_K (first := []) (h₀ := X.base) I2.ok.mod.kin hk (thn (ha.run pos pins s2 σ H1 _ I2 q) fun us s3 ⟨vs, H2, I3, rv, q2⟩ => ⟨I3.kIn, ?_⟩) hst hpl
  exact run_fn (us := us) (vs := vs) (dvs := []) F hr hb .nil hx I3 rv (by rw [List.append_nil]; exact q2)
def tSMethK (C : Addr) (sp : Sp) (gV : List V → List V → List V) (E : XK) (ta : TE) (tk : TA) : TE := fun σ H Q => ta σ H fun x H1 => x = .ref C ∧ tk σ H1 fun zs H2 => sp (gV [] zs) H2 Q E
theorem pe_smethK (he : PE X o ta) (r : ClX.CRead X.K C mc) (c : SMet X.K C mc m p g) (hk : PySem.W.keepIn X.K (.ref g) = true) (F : FnOk X.prog X.w X.K X.mg X.base CX k g fd ps sp) (hr : Room k X.A) (hb : KBinds X.K fd ps ks gg gV) (hx : Passes CX X E) (hkw : PK X kws tk)
    (hall : (backToKw pos (keywordEach kws X.env)).all (·.1.isSome) = true := by rfl) (hks : (backToKw pos (keywordEach kws X.env)).filterMap (·.1) = ks := by rfl)
    (hpl : ((backTo pos (starEach [] X.env)).any (·.1) || (backToKw pos (keywordEach kws X.env)).any (·.1.isNone)) = false := by rfl)
    (ht : eval (.Call (.Attribute o m apos) [] kws pos) X.env = (do
      let ov ← eval o X.env
      standAt apos.atName
      let (f, first) ← holding [ov] (getMethod ov m pl)
      callWith pos f first (backTo pos (starEach [] X.env)) (backToKw pos (keywordEach kws X.env))) := by rfl) :
    PE X (.Call (.Attribute o m apos) [] kws pos) (tSMethK C sp gV E ta tk) := by
  refine ⟨fun pins s σ H Q I h => ?_⟩
  refine PySem.W.methodCall_KW (pl := pl) (thn (he.run pins s σ H _ I h) fun u s1 ⟨x, H1, I1, rx, ex, q⟩ => ?_) ht
  subst ex
  obtain rfl : u = Value.ref C := rx
  refine getsm_ok I1 r c fun s2 I2 => ?_
  refine PySem.W.callWith_KW0 (first := []) (h₀ := X.base) I2.ok.mod.kin hk hall ?_ hpl
  refine thn (hkw.run pos pins s2 σ H1 _ I2 q) fun ws s3 ⟨zs, H2, I3, rz, q2⟩ => ⟨I3.kIn, ?_⟩
  rw [hks]
  exact run_fnk (us := []) (vs := []) F hr hb hx I3 .nil rz q2
/-! ### o.m(k = v) -/
def tMethK (C : Addr) (m : Str) (sp : Sp) (gV : List V → List V → List V) (E : XK) (ta : TE) (tk : TA) : TE := fun σ H Q => ta σ H fun x H1 => ∃ a dx fs, x = .ref a ∧ H1 a = some (.ins C dx fs) ∧ fs.lookup m = none ∧ tk σ H1 fun zs H2 => sp (gV [x] zs) H2 Q E
theorem pe_methK (he : PE X o ta) (c : Cls X.K C) (hm : Meth X.K C m f) (F : FnOk X.prog X.w X.K X.mg X.base CX k f fd ps sp) (hr : Room k X.A) (hb : KBinds X.K fd ps ks gg gV) (hx : Passes CX X E) (hkw : PK X kws tk)
    (hall : (backToKw pos (keywordEach kws X.env)).all (·.1.isSome) = true := by rfl) (hks : (backToKw pos (keywordEach kws X.env)).filterMap (·.1) = ks := by rfl)
    (hpl : ((backTo pos (starEach [] X.env)).any (·.1) || (backToKw pos (keywordEach kws X.env)).any (·.1.isNone)) = false := by rfl)
    (ht : eval (.Call (.Attribute o m apos) [] kws pos) X.env = (do
      let ov ← eval o X.env
      standAt apos.atName
      let (f, first) ← holding [ov] (getMethod ov m pl)
      callWith pos f first (backTo pos (starEach [] X.env)) (backToKw pos (keywordEach kws X.env))) := by rfl) :
    PE X (.Call (.Attribute o m apos) [] kws pos) (tMethK C m sp gV E ta tk) := by
  refine ⟨fun pins s σ H Q I h => ?_⟩
  refine PySem.W.methodCall_KW (pl := pl) (thn (he.run pins s σ H _ I h) fun u s1 ⟨x, H1, I1, rx, a, dx, fs, ex, ea, l, q⟩ => ?_) ht
  subst ex
  obtain rfl : u = Value.ref a := rx
  refine getmeth_ok I1 ea c hm l ?_
  refine PySem.W.callWith_KW0 (first := [.ref a]) (h₀ := X.base) I1.ok.mod.kin hm.kp hall ?_ hpl
  refine thn (hkw.run pos pins s1 σ H1 _ I1 q) fun ws s3 ⟨zs, H2, I3, rz, q2⟩ => ⟨I3.kIn, ?_⟩
  rw [hks]
  exact run_fnk (us := [.ref a]) (vs := [.ref a]) F hr hb hx I3 (.cons rfl .nil) rz q2
/-! ### == and != by an own __eq__ -/
/-- the own __eq__ at f of the class at C; no __ne__ besides object's -/
structure OwnE (K : PySem.W.Frag) (C f : Addr) : Prop where
  eq : PySem.W.findIn K (.ref C) "__eq__" = some (some (.ref f))
  fn : PySem.W.isFn K (.ref f) = true
  cls : ∃ nm q N bs hdct sn sub ab col dd k0 k1 k2 k3 k5 newId, K.lookup C = some (excClassObj nm q C N bs [.type "object"] hdct sn sub ab col dd k0 k1 k2 k3 k5 newId) ∧ PySem.W.nsOkIn K N = true ∧ PySem.W.nsIn K N "__eq__" = some (some (.ref f)) ∧ PySem.W.nsIn K N "__ne__" = some none
  ob : ∃ of : Obj, K.lookup f = some of ∧ of.cls = .type "function"
/-- two instances of the class; the own == is asked -/
def rOwn (C : Addr) (sp : Sp) (E : XK) (neg : Bool) : R2 := fun x y H Q => ∃ a b dx dy fs gs, x = .ref a ∧ y = .ref b ∧ H a = some (.ins C dx fs) ∧ H b = some (.ins C dy gs) ∧ sp [.ref a, .ref b] H (fun v H' => ∃ r, v = .bl r ∧ Q (.bl (if neg then !r else r)) H') E
theorem op_eqO (F : FnOk X.prog X.w X.K X.mg X.base CX n f fd ps sp) (hr : Room n X.A) (w : OwnE X.K C f) (hb : Binds X.K fd ps []) (hx : Passes CX X E) : OpR X (compareOp .Eq) (rOwn C sp E false) := by
  intro pins s σ H x y v u Q I rx ry h
  obtain ⟨a, b, dx, dy, fs, gs, rfl, rfl, ha, hb', hs⟩ := h
  cases rx
  cases ry
  obtain ⟨mA, O1, _⟩ := ins_get I.hok ha
  obtain ⟨mB, O2, _⟩ := ins_get I.hok hb'
  obtain ⟨od, J, _⟩ := O1.look
  obtain ⟨od', J', _⟩ := O2.look
  obtain ⟨m, hF⟩ := I.fr
  show wpAny (model X.prog X.w) X.A (richCompare .Eq (.ref a) (.ref b)) (EP X pins σ Q) X.xe s
  refine PySem.W.cmp_K (op := .Eq) (tb := .ref C) hr.units0 hF I.ok.mod.kin J J'.type (by simp [PySem.W.notFirst]) w.eq w.fn ?_
  refine thn (run_fn (us := [.ref a, .ref b]) (vs := [.ref a, .ref b]) (dvs := []) F hr hb .nil hx I (.cons rfl (.cons rfl .nil)) (by rw [List.append_nil]; exact hs)) fun r s' hq => ?_
  obtain ⟨z, H', I', rz, c, rfl, q⟩ := hq
  cases rz
  exact ⟨.bl c, H', I', rfl, q⟩
theorem ns_has {K : PySem.W.Frag} {h : Heap} {N : Addr} {m : Str → Option Value} {x : Str} {v : Value} (X : K.In h) (G : h.Ns N m) (e : PySem.W.nsIn K N x = some (some v)) : m x = some v := by
  obtain ⟨o, es, ep, ho, hd, _, hf⟩ := G
  rw [← hf]
  unfold PySem.W.nsIn at e
  cases q : K.lookup N with
  | none => rw [q] at e; cases e
  | some ob =>
    have z := X _ _ q
    rw [ho] at z
    cases z
    rw [q] at e
    obtain ⟨c, dd, dt, sl⟩ := o
    have hd : dt = .dict es ep := hd
    subst hd
    simp only at e
    unfold nsFind findBy
    rw [← Array.find?_toList]
    split at e
    · rename_i en he
      rw [he]
      cases e
      rfl
    · split at e <;> cases e
theorem eq_obj : ∃ y : Option Value, typeLookup (.type "object") "__eq__" = pure y := ⟨_, PySem.F.slot_object_eq.lookup⟩
theorem op_neO (F : FnOk X.prog X.w X.K X.mg X.base CX n f fd ps sp) (hr : Room (n + 1) X.A) (w : OwnE X.K C f) (hb : Binds X.K fd ps []) (hx : ∀ (pins : List (Addr × Obj)) (σ : L2.St) (H : Hp) (s : Shared) (e : Value) (s' : Shared), Inv X pins σ H s → CX X.stack H s E e s' → X.xe e s') : OpR X (compareOp .NotEq) (rOwn C sp E true) := by
  intro pins s σ H x y v u Q I rx ry h
  obtain ⟨a, b, dx, dy, fs, gs, rfl, rfl, ha, hb', hs⟩ := h
  cases rx
  cases ry
  obtain ⟨mA, O1, _⟩ := ins_get I.hok ha
  obtain ⟨mB, O2, _⟩ := ins_get I.hok hb'
  obtain ⟨nm, q, N, bs, hdct, sn, sub, ab, col, dd, k0, k1, k2, k3, k5, newId, hC, hN, he, hn⟩ := w.cls
  obtain ⟨of, ho, hoc⟩ := w.ob
  obtain ⟨yv, hy⟩ := eq_obj
  have G : s.heap.Ns N (s.heap.nsMap N) := .of_isNs (PySem.W.isNs_of_in I.kIn hN)
  have hl : ([Value.ref a, Value.ref b] ++ []).length = ps.length := by
    have := F.len _ _ _ _ hs
    simpa using this
  obtain ⟨_, _, _, ea, _⟩ := (show ObjOk X.prog X.w H s.heap a (.ins C dx fs) from I.hok a _ ha)
  obtain ⟨_, _, _, eb, _⟩ := (show ObjOk X.prog X.w H s.heap b (.ins C dy gs) from I.hok b _ hb')
  have W : s.heap.OwnEqNoNe a C f "object" [.type "object"] :=
    ⟨_, of, nm, q, N, bs, hdct, sn, sub, ab, col, dd, k0, k1, k2, k3, k5, newId, s.heap.nsMap N, yv, ea, rfl, I.kIn _ _ hC, G, ns_has I.kIn G he, I.kIn _ _ ho, hoc, PySem.F.cmp_object.mro, hy, PySem.W.ns_none_of I.kIn G hn⟩
  have hbind : BindsTo s fd ⟨[.ref a, .ref b], []⟩ (ps.zip [.ref a, .ref b]) := hb s [.ref a, .ref b] I.kIn hl
  have run := F.run X.A.in1 X.stack s H ⟨[.ref a, .ref b], []⟩ [.ref a, .ref b] [.ref a, .ref b] _ E (hr.in1) I.env0.in1 hbind (.cons rfl (.cons rfl .nil)) hs
  obtain ⟨hp, g, d, tk, os⟩ := s
  refine compareOp_ne_ownEq PySem.F.cmp_object W eb rfl (by have := hr.units; omega) (wpAny_call (codeAny_mono run fun r s' hq => ?_))
  cases r with
  | error e => exact hx pins σ H _ e s' I hq
  | ok fl =>
    cases fl with
    | ret u =>
      obtain ⟨z, H', I', rz, c, rfl, q⟩ := I.after hq
      cases rz
      exact ⟨c, rfl, .bl (!c), H', I', rfl, q⟩
    | next => exact False.elim hq
    | brk => exact False.elim hq
    | cont => exact False.elim hq
end
end Go

set_option Elab.async false
set_option linter.all false
set_option maxRecDepth 100000
set_option maxHeartbeats 4000000
/-! forests as data: rows, their text, what is a forest -/
namespace Gf
open PySem PySem.Spec PyProof.Rows L2 TL Gn Gr Gk
abbrev FRow := Str × Option Str
def parV : Option Str → V
  | none => .non
  | some m => .str m
def kvOf (r : FRow) : Key × V := (Sum.inr r.1, parV r.2)
def wordsOf : FRow → List Str
  | (n, none) => ["account", n]
  | (n, some m) => ["account", n, "in", m]
def lineOf (r : FRow) : Str := Txt.join " " (wordsOf r)
def textOf (rs : List FRow) : Str := Txt.join "\n" (rs.map lineOf ++ [Str.empty])
def fNames (rs : List FRow) : List Str := rs.map (·.1)
/-- the row may stand behind these names -/
def RowOk (E : List Str) (r : FRow) : Prop := nameOk r.1 = true ∧ r.1 ∉ E ∧ ∀ m, r.2 = some m → m ∈ E
def GoodF : List Str → List FRow → Prop
  | _, [] => True
  | E, r :: rs => RowOk E r ∧ GoodF (E ++ [r.1]) rs
theorem good_at : ∀ {rs : List FRow} {E : List Str} {i : Nat} {r : FRow}, GoodF E rs → rs[i]? = some r → RowOk (E ++ fNames (rs.take i)) r
  | [], _, _, _, _, h => by simp at h
  | x :: rs, E, 0, r, g, h => by
    simp only [List.getElem?_cons_zero, Option.some.injEq] at h
    subst h
    simpa [fNames] using g.1
  | x :: rs, E, i + 1, r, g, h => by
    have q := good_at g.2 (show rs[i]? = some r by simpa using h)
    simpa [fNames, List.append_assoc] using q
theorem good_snoc : ∀ {rs : List FRow} {E : List Str} {r : FRow}, GoodF E rs → RowOk (E ++ fNames rs) r → GoodF E (rs ++ [r])
  | [], E, r, g, h => ⟨by simpa [fNames] using h, trivial⟩
  | x :: rs, E, r, g, h => ⟨g.1, good_snoc g.2 (by simpa [fNames, List.append_assoc] using h)⟩
theorem names_take (rs : List FRow) (i : Nat) : fNames (rs.take i) = (fNames rs).take i := by unfold fNames; rw [List.map_take]
theorem good_mem {rs : List FRow} (g : GoodF [] rs) {r : FRow} (h : r ∈ rs) : nameOk r.1 = true ∧ ∀ m, r.2 = some m → m ∈ fNames rs ∧ nameOk m = true := by
  obtain ⟨i, hi⟩ := List.mem_iff_getElem?.mp h
  have q := good_at g hi
  rw [List.nil_append] at q
  have nm : ∀ m, m ∈ fNames rs → nameOk m = true := by
    intro m hm
    obtain ⟨z, hz, rfl⟩ := List.mem_map.mp hm
    obtain ⟨j, hj⟩ := List.mem_iff_getElem?.mp hz
    exact (good_at g hj).1
  refine ⟨q.1, fun m hm => ?_⟩
  have z := q.2.2 m hm
  rw [names_take] at z
  have z2 := List.mem_of_mem_take z
  exact ⟨z2, nm m z2⟩
theorem good_nodup : ∀ {rs : List FRow} {E : List Str}, GoodF E rs → (fNames rs).Nodup ∧ ∀ n ∈ fNames rs, n ∉ E
  | [], _, _ => by simp [fNames]
  | x :: rs, E, g => by
    obtain ⟨a, b⟩ := good_nodup g.2
    constructor
    · show (x.1 :: fNames rs).Nodup
      refine List.nodup_cons.mpr ⟨fun h => ?_, a⟩
      exact b _ h (by simp)
    · intro n hn
      rcases List.mem_cons.mp (show n ∈ x.1 :: fNames rs from hn) with rfl | h
      · exact g.1.2.1
      · exact fun z => b n h (by simp [z])
/-! names -/
theorem name_len {x : Str} (h : nameOk x = true) : 1 ≤ x.length ∧ x.length ≤ 8 := by
  unfold nameOk at h
  simp only [Bool.and_eq_true, decide_eq_true_eq] at h
  exact ⟨h.1, h.2.1⟩
theorem letters_lo : ∀ c ∈ letters.cps.toList, 96 < c ∧ c < 123 := by decide +kernel
theorem name_cps {x : Str} (h : nameOk x = true) : ∀ c ∈ x.cps.toList, 96 < c ∧ c < 123 := by
  unfold nameOk at h
  simp only [Bool.and_eq_true, decide_eq_true_eq] at h
  intro c hc
  have := List.all_eq_true.mp h.2.2 c hc
  exact letters_lo c (by simpa [isL] using this)
theorem name_asc {x : Str} (h : nameOk x = true) : Asc 8 x := ⟨(name_len h).2, fun c hc => by have := name_cps h c hc; omega⟩
theorem name_asc19 {x : Str} (h : nameOk x = true) : Asc 19 x := (name_asc h).mono (by decide)
/-! lines and texts -/
theorem tl_def (x : Str) : tl x = x.cps.toList := rfl
theorem sp_tl : tl (" " : Str) = [32] := by decide +kernel
theorem nl_tl : tl ("\n" : Str) = [10] := by decide +kernel
theorem e_tl : tl Str.empty = [] := rfl
theorem e_eq : (("" : String) : Str) = Str.empty := ext_tl (by decide +kernel)
theorem acc_tl : tl ("account" : Str) = [97, 99, 99, 111, 117, 110, 116] := by decide +kernel
theorem in_tl : tl ("in" : Str) = [105, 110] := by decide +kernel
theorem accs_tl : tl ("account " : Str) = [97, 99, 99, 111, 117, 110, 116, 32] := by decide +kernel
theorem ins_tl : tl (" in " : Str) = [32, 105, 110, 32] := by decide +kernel
def lineL : FRow → List Nat
  | (n, none) => tl ("account " : Str) ++ tl n
  | (n, some m) => tl ("account " : Str) ++ (tl n ++ (tl (" in " : Str) ++ tl m))
theorem tl_line (r : FRow) : tl (lineOf r) = lineL r := by
  obtain ⟨n, q⟩ := r
  unfold lineOf
  rw [join_eq, tl_join, sp_tl]
  cases q with
  | none =>
    show tl ("account" : Str) ++ ([32] ++ tl n) = tl ("account " : Str) ++ tl n
    rw [acc_tl, accs_tl]
    rfl
  | some m =>
    show tl ("account" : Str) ++ ([32] ++ (tl n ++ ([32] ++ (tl ("in" : Str) ++ ([32] ++ tl m))))) = tl ("account " : Str) ++ (tl n ++ (tl (" in " : Str) ++ tl m))
    rw [acc_tl, accs_tl, in_tl, ins_tl]
    rfl
theorem joinL_end (S : List Nat) : ∀ ls : List (List Nat), joinL S (ls ++ [[]]) = (ls.map (· ++ S)).flatten
  | [] => rfl
  | [p] => by
    show p ++ (S ++ []) = _
    simp
  | p :: q :: r => by
    have e := joinL_end S (q :: r)
    show p ++ (S ++ joinL S (q :: r ++ [[]])) = _
    rw [e]
    simp
theorem tl_text (rs : List FRow) : tl (textOf rs) = (rs.map fun r => lineL r ++ [10]).flatten := by
  unfold textOf
  rw [join_eq, tl_join, nl_tl, List.map_append, List.map_map]
  show joinL [10] (List.map (tl ∘ lineOf) rs ++ [[]]) = _
  rw [joinL_end, List.map_map]
  congr 1
  refine List.map_congr_left fun r _ => ?_
  show tl (lineOf r) ++ [10] = _
  rw [tl_line]
theorem text_nil : textOf [] = Str.empty := ext_tl (by rw [tl_text]; rfl)
theorem text_snoc (rs : List FRow) (r : FRow) : textOf (rs ++ [r]) = textOf rs ++ (⟨(lineL r ++ [10]).toArray⟩ : Str) := by
  refine ext_tl ?_
  rw [tl_append, tl_text, tl_text, tl_mk]
  simp
theorem word_ns {r : FRow} (h1 : nameOk r.1 = true) (h2 : ∀ m, r.2 = some m → nameOk m = true) : ∀ p ∈ wordsOf r, 32 ∉ tl p ∧ 10 ∉ tl p := by
  obtain ⟨n, q⟩ := r
  have nn : ∀ {x : Str}, nameOk x = true → 32 ∉ tl x ∧ 10 ∉ tl x := fun {x} h => ⟨fun z => by have := name_cps h _ z; omega, fun z => by have := name_cps h _ z; omega⟩
  have ha : 32 ∉ tl ("account" : Str) ∧ 10 ∉ tl ("account" : Str) := by rw [acc_tl]; decide
  have hi : 32 ∉ tl ("in" : Str) ∧ 10 ∉ tl ("in" : Str) := by rw [in_tl]; decide
  cases q with
  | none =>
    intro p hp
    simp only [wordsOf, List.mem_cons, List.not_mem_nil, or_false] at hp
    rcases hp with rfl | rfl
    · exact ha
    · exact nn h1
  | some m =>
    intro p hp
    simp only [wordsOf, List.mem_cons, List.not_mem_nil, or_false] at hp
    rcases hp with rfl | rfl | rfl | rfl
    · exact ha
    · exact nn h1
    · exact hi
    · exact nn (h2 _ rfl)
theorem wordsOf_ne (r : FRow) : wordsOf r ≠ [] := by
  obtain ⟨n, q⟩ := r
  cases q <;> simp [wordsOf]
theorem split_line {r : FRow} (h1 : nameOk r.1 = true) (h2 : ∀ m, r.2 = some m → nameOk m = true) : Txt.split (lineOf r) " " = wordsOf r :=
  split_join sp_tl (by decide +kernel) (wordsOf_ne r) fun p hp => (word_ns h1 h2 p hp).1
theorem line_nn {r : FRow} (h1 : nameOk r.1 = true) (h2 : ∀ m, r.2 = some m → nameOk m = true) : 10 ∉ tl (lineOf r) := by
  obtain ⟨n, q⟩ := r
  rw [tl_line]
  have w := word_ns h1 h2
  have a1 : 10 ∉ tl ("account " : Str) := by rw [accs_tl]; decide
  have a2 : 10 ∉ tl (" in " : Str) := by rw [ins_tl]; decide
  cases q with
  | none =>
    have wn := (w n (by simp [wordsOf])).2
    intro z
    rcases List.mem_append.mp (show 10 ∈ tl ("account " : Str) ++ tl n from z) with z | z
    · exact a1 z
    · exact wn z
  | some m =>
    have wn := (w n (by simp [wordsOf])).2
    have wm := (w m (by simp [wordsOf])).2
    intro z
    rcases List.mem_append.mp (show 10 ∈ tl ("account " : Str) ++ (tl n ++ (tl (" in " : Str) ++ tl m)) from z) with z | z
    · exact a1 z
    rcases List.mem_append.mp z with z | z
    · exact wn z
    rcases List.mem_append.mp z with z | z
    · exact a2 z
    · exact wm z
theorem split_text {rs : List FRow} (g : GoodF [] rs) : Txt.split (textOf rs) "\n" = rs.map lineOf ++ [Str.empty] := by
  refine split_join nl_tl (by decide +kernel) (by simp) fun p hp => ?_
  rcases List.mem_append.mp hp with h | h
  · obtain ⟨r, hr, rfl⟩ := List.mem_map.mp h
    obtain ⟨a, b⟩ := good_mem g hr
    exact line_nn a fun m hm => (b m hm).2
  · rw [List.mem_singleton.mp h]
    exact List.not_mem_nil
theorem line_len {r : FRow} (h1 : nameOk r.1 = true) (h2 : ∀ m, r.2 = some m → nameOk m = true) : (lineOf r).length ≤ 30 := by
  obtain ⟨n, q⟩ := r
  have l1 := (name_len h1).2
  have e : (lineOf (n, q)).length = (lineL (n, q)).length := by rw [← tl_line, tl_def, len_cps]
  rw [e]
  have ln : (tl n).length = n.length := len_cps n
  have la : (tl ("account " : Str)).length = 8 := by rw [accs_tl]; rfl
  have li : (tl (" in " : Str)).length = 4 := by rw [ins_tl]; rfl
  have l1 : n.length ≤ 8 := l1
  cases q with
  | none =>
    show (tl ("account " : Str) ++ tl n).length ≤ 30
    rw [List.length_append]
    omega
  | some m =>
    have l2 := (name_len (h2 m rfl)).2
    have lm : (tl m).length = m.length := len_cps m
    show (tl ("account " : Str) ++ (tl n ++ (tl (" in " : Str) ++ tl m))).length ≤ 30
    simp only [List.length_append]
    omega
/-- what a line of these words says -/
def readRow : List Str → Option FRow
  | [a, n] => if a = ("account" : Str) then some (n, none) else none
  | [a, n, i, m] => if a = ("account" : Str) ∧ i = ("in" : Str) then some (n, some m) else none
  | _ => none
theorem read_words (r : FRow) : readRow (wordsOf r) = some r := by
  obtain ⟨n, q⟩ := r
  cases q <;> simp [wordsOf, readRow]
/-- one text, one list of rows -/
theorem text_inj {rs rs' : List FRow} (g : GoodF [] rs) (g' : GoodF [] rs') (h : textOf rs = textOf rs') : rs = rs' := by
  have e := split_text g
  rw [h, split_text g'] at e
  have e2 : rs'.map lineOf = rs.map lineOf := List.append_cancel_right e
  have key : ∀ {rs : List FRow}, (∀ r ∈ rs, nameOk r.1 = true ∧ ∀ m, r.2 = some m → nameOk m = true) → (rs.map lineOf).map (fun l => readRow (Txt.split l " ")) = rs.map some := by
    intro rs hg
    rw [List.map_map]
    refine List.map_congr_left fun r hr => ?_
    obtain ⟨a, b⟩ := hg r hr
    show readRow (Txt.split (lineOf r) " ") = some r
    rw [split_line a b, read_words]
  have gg : ∀ {rs : List FRow}, GoodF [] rs → ∀ r ∈ rs, nameOk r.1 = true ∧ ∀ m, r.2 = some m → nameOk m = true := fun g r hr => ⟨(good_mem g hr).1, fun m hm => ((good_mem g hr).2 m hm).2⟩
  have k1 := key (gg g)
  have k2 := key (gg g')
  rw [e2, k1] at k2
  exact List.map_inj_right (fun _ _ e => Option.some.inj e) |>.mp k2
end Gf

set_option Elab.async false
set_option linter.all false
set_option maxRecDepth 100000
set_option maxHeartbeats 4000000
/-! tuple(dict), .. -/
namespace Gt
open PySem PySem.Spec PyProof.Rows L2 Gn Gr Gk Go
section
variable {prog : Program} {w : World} {A : Around} {E : Value → Shared → Prop} {s : Shared} {T : String} {r d : Addr} {n : Nat} {P : Nat → Value → Prop} {OK : Heap → Prop}
theorem collect_kdl {Q : List Value → Shared → Prop} (K : PySem.W.KdlSrc prog w T r d n P OK) (hh : A.handled = none) (hok : OK s.heap) (hn : n ≤ sizeLine)
    (hQ : ∀ (h' : Heap) (tk : Nat) (acc : Array Value), (∀ b o, s.heap.get? b = some o → h'.get? b = some o) → ItemsOf P acc n → Q acc.toList { s with heap := h', toks := tk }) :
    wpAny (model prog w) A (collect (.ref r)) Q E s := by
  unfold collect
  refine wpAny_bind (wpAny_runValue (codeAny_builtin F.entry_proto_collect ?_))
  rw [Around.under_plainId F.plain_proto_collect _]
  show wpAny _ A.in1 (newList [] >>= fun l => again (.builtin "list.__iadd__" ⟨[l, .ref r], []⟩)) _ _ s
  refine wpAny_bind (wpAny_newObj_type ?_)
  refine wpAny_pure ⟨plainId_quiet F.plain_list_iadd _, codeAny_builtin F.entry_list_iadd ?_⟩
  rw [Around.under_plainId F.plain_list_iadd _]
  show wpAny _ A.in1 (Builtin.List.listExtendWith (.ref s.heap.objs.size) (.ref r) (.ref s.heap.objs.size)) _ _ _
  have hS : (s.heap.push { cls := .type "list", data := .seq ([] : List Value).toArray }).get? s.heap.objs.size = some { cls := .type "list", data := .seq #[] 0 } := Heap.get?_push_size _ rfl
  have hlt := K.there _ hok
  refine wpAny_mono (PySem.W.kdl_extend (A := A) (R := fun rr s' => rr = .ok (.ret (.ref s.heap.objs.size)) ∧ ∃ (h' : Heap) (tk : Nat) (acc : Array Value) (c' : Nat), s' = { s with heap := h', toks := tk } ∧
      (∀ b o, s.heap.get? b = some o → h'.get? b = some o) ∧ h'.get? s.heap.objs.size = some { cls := .type "list", dict := none, data := .seq acc c', slots := #[] } ∧ ItemsOf P acc n)
    (s := { s with heap := s.heap.push { cls := .type "list", data := .seq ([] : List Value).toArray } }) K hh (K.keep _ _ hok fun b _ o e => Heap.get?_push_of_some _ e) s.heap.objs.size (Nat.ne_of_gt hlt.1) (Nat.ne_of_gt hlt.2) _ 0 hS
    (fun h' tk acc c' hk e hi => ⟨rfl, h', tk, acc, c', rfl, fun b o q => hk b o (Nat.ne_of_lt (Heap.lt_size q)) (Heap.get?_push_of_some _ q), e, hi⟩) hn) (fun fin s' h => ?_) (fun e s' h => ?_)
  · cases fin with
    | done f =>
      obtain ⟨e, h', tk, acc, c', rfl, hk, hS', hi⟩ := h
      cases e
      show wpAny _ A (load s.heap.objs.size >>= _) _ _ _
      exact wpAny_bind (wpAny_load hS' (wpAny_pure (hQ h' tk acc hk hi)))
    | again c' =>
      refine ⟨h.1, codeAny_mono h.2 fun rr s'' hr' => ?_⟩
      obtain ⟨rfl, h', tk, acc, c', rfl, hk, hS', hi⟩ := hr'
      show wpAny _ A (load s.heap.objs.size >>= _) _ _ _
      exact wpAny_bind (wpAny_load hS' (wpAny_pure (hQ h' tk acc hk hi)))
  · exact absurd h.1 (by simp)
theorem code_tuple_new_dict {Q₁ : Value → Shared → Prop} (K : PySem.W.KdlSrc prog w "dict" r d n P OK) (hh : A.handled = none) (hok : OK s.heap) (hn : n ≤ sizeLine)
    (h : ∀ (h' : Heap) (tk : Nat) (acc : Array Value), (∀ b o, s.heap.get? b = some o → h'.get? b = some o) → ItemsOf P acc n →
      Q₁ (.ref h'.objs.size) { s with heap := h'.push { cls := .type "tuple", data := .seq acc }, toks := tk }) :
    codeAny (model prog w) A (.call (.builtin "tuple.__new__") ⟨[.type "tuple", .ref r], []⟩) (wants Q₁ E) s := by
  refine codeAny_of_tree ?_
  show wpAny _ A.in1 (do checkBuiltinCall "tuple.__new__" ⟨[.type "tuple", .ref r], []⟩; again (.builtin "tuple.__new__" ⟨[.type "tuple", .ref r], []⟩)) _ _ s
  refine wpAny_bind (wpAny_of_eq (F.newCall_tuple_1 _) (wpAny_pure ⟨plainId_quiet F.plain_tuple_new _, codeAny_builtin F.entry_tuple_new ?_⟩))
  rw [Around.under_plainId F.plain_tuple_new _]
  have hsub := sub_tuple_self
  have hinit := init_tuple_lookup
  have hmh := madeHere_tuple
  have hTI : s.TypeIs (.ref r) "dict" := K.type _ hok
  have hh1 : A.in1.handled = none := hh
  wp_walk using wpAny_typeOf hTI, collect_kdl (A := A.in1) K hh1 hok hn
  intro h' tk acc hk hacc
  show wpAny _ _ (Builtin.Tuple.tupleExact acc.toList.toArray >>= fun v => ret v) _ _ _
  unfold Builtin.Tuple.tupleExact
  refine wpAny_bind (wpAny_newObj_type ?_ (by show acc.toList.toArray.size ≤ sizeLine; simp only [Array.toArray_toList]; rw [hacc.1]; exact hn))
  refine wpAny_pure ?_
  have e : acc.toList.toArray = acc := by simp
  rw [e]
  exact h h' tk acc hk hacc
theorem call_tuple_dict {Q : Value → Shared → Prop} (K : PySem.W.KdlSrc prog w "dict" r d n P OK) (hh : A.handled = none) (hok : OK s.heap) (hn : n ≤ sizeLine)
    (hQ : ∀ (h' : Heap) (tk : Nat) (acc : Array Value), (∀ b o, s.heap.get? b = some o → h'.get? b = some o) → ItemsOf P acc n →
      Q (.ref h'.objs.size) { s with heap := h'.push { cls := .type "tuple", data := .seq acc }, toks := tk }) :
    wpAny (model prog w) A (call (.type "tuple") [.ref r]) Q E s := by
  refine callType_codes (Q₁ := fun obj s₁ => s₁.TypeIs obj "tuple" ∧ Q obj s₁) F.called_tuple (F.typeCall_tuple_1 _) F.entry_object_init
    (code_tuple_new_dict (A := A.in1) K hh hok hn fun h' tk acc hk hacc => ⟨⟨_, Heap.get?_push_size _ rfl, rfl⟩, hQ h' tk acc hk hacc⟩) fun obj s₁ h₁ => ?_
  exact ⟨h₁.1, F.args_object_init_2 obj _, object_init_meets F.called_tuple.init.lookup F.called_tuple.made (by decide) prog w A.in1 _ s₁ ⟨h₁.1, rfl, h₁.2⟩⟩
end
/-- tuple(dict): a new tuple of its keys -/
def rTupD : List V → Hp → VK → Prop := fun xs H Q => ∃ p kvs, xs = [.ref p] ∧ H p = some (.dK kvs) ∧ ∀ q, H q = none → Q (.ref q) (upd H q (.tup (kvs.map fun kv => kV kv.1)))
theorem call_tuple_dK {X : Cx} (hc : X.calm = true) : CallR X (.type "tuple") rTupD := by
  intro pins s σ H xs us Q I r h
  obtain ⟨p, kvs, e, hk, q⟩ := h
  subst e
  obtain ⟨u, eu, rx⟩ := vals1 r
  subst eu
  obtain rfl : u = Value.ref p := rx
  obtain ⟨z, lo, vs, rk, hd⟩ := (show ObjOk X.prog X.w H s.heap p (.dK kvs) from I.hok p _ hk)
  obtain ⟨ep, hat⟩ := hd.dictAt
  have hl : kvs.length = vs.length := Paired.length rk
  refine call_tuple_dict (PySem.W.kdl_dict (knd := mixKind X.prog X.w) (kvs := vs) (ep := ep) lo) (I.ok.hd hc) hat (by rw [← hl]; exact z) fun h' tk acc hkeep hacc => ?_
  have I1 : Inv X pins σ H { s with heap := h' } := I.kept (t' := s.toks) hkeep
  have rr : Vals (kvs.map fun kv => kV kv.1) acc.toList := by
    have el : acc.toList.length = acc.size := by simp
    refine vals_of_at (by rw [List.length_map, el, hacc.1, hl]) fun j x w h1 h2 => ?_
    obtain ⟨k, y, hky, hi⟩ := hacc.2 j w (by rw [← Array.getElem?_toList]; exact h2)
    have e1 : (kvs.map (·.1))[j]? = some k := by
      rw [KV.keys rk, List.getElem?_map, hky] <;> rfl
    have e2 : (kvs.map fun kv => kV kv.1)[j]? = some (kV k) := by
      have e3 : (kvs.map fun kv => kV kv.1) = (kvs.map (·.1)).map kV := by rw [List.map_map] <;> rfl
      rw [e3, List.getElem?_map, e1] <;> rfl
    rw [e2] at h1
    cases h1
    exact keyIs_rel hi
  have I2 : Inv X pins σ (upd H h'.objs.size (.tup (kvs.map fun kv => kV kv.1))) { s with heap := h'.push { cls := .type "tuple", data := .seq acc }, toks := tk } :=
    I1.laid (t' := tk) (fun b o e => Heap.get?_push_of_some _ e) (Nat.le_refl _) (show ObjOk X.prog X.w _ _ _ (.tup (kvs.map fun kv => kV kv.1)) from ⟨by rw [List.length_map]; exact z, acc.toList, rr, by
      have := IsTup.new h' acc
      simpa using this⟩)
  exact ⟨.ref h'.objs.size, _, I2, rfl, q _ (I1.hok.fresh (Nat.le_refl _))⟩
/-- {k: v for ..} over a walk -/
theorem dc_it {J : It} {n : Nat} {G : Hp → Prop} {Y : Nat → Hp → V → Hp → Prop} (w : Walk J n G Y) {g : TG} {tt : TT} {tk tv : TE} {vs : List Nat} {σ : L2.St} {H1 : Hp} {D : Addr} {Qd : Hp → Prop} (Pv : Nat → Hp → Prop) (h0 : Pv 0 (upd H1 D (.dK []))) (hG : ∀ i H, i ≤ n → Pv i H → G H)
    (hs : ∀ i x H H', i < n → Pv i H → Y i H x H' → g x (wipe σ vs) H' fun σ2 H2 => wipe σ2 vs = wipe σ vs ∧ tt σ2 H2 fun b H3 =>
      if b = true then tk σ2 H3 fun y H4 => tv σ2 H4 fun z H5 => ∃ kvs k, y = kV k ∧ H5 D = some (.dK kvs) ∧ kvs.length < sizeLine ∧ Pv (i + 1) (upd H5 D (.dK (putK kvs k z))) else Pv (i + 1) H3) (hd : ∀ H, Pv n H → Qd H) :
    ∃ W : Nat → Nat → Hp → Prop, (∃ m, W 0 m (upd H1 D (.dK []))) ∧ ∀ i m H, W i m H →
      (J.stop i H ∧ Qd H) ∨ (J.go i H ∧ ∃ Nx : Hp → Prop, (∀ H', Nx H' → ∃ m', m' < m ∧ W (i + 1) m' H') ∧ ∀ x H', J.yld i H x H' → g x (wipe σ vs) H' fun σ2 H2 => wipe σ2 vs = wipe σ vs ∧ tt σ2 H2 fun b H3 =>
        if b = true then tk σ2 H3 fun y H4 => tv σ2 H4 fun z H5 => ∃ kvs k, y = kV k ∧ H5 D = some (.dK kvs) ∧ kvs.length < sizeLine ∧ Nx (upd H5 D (.dK (putK kvs k z))) else Nx H3) := by
  refine ⟨fun i m H => m = n - i ∧ i ≤ n ∧ Pv i H, ⟨n, by simp, Nat.zero_le _, h0⟩, ?_⟩
  rintro i m H ⟨rfl, hi, p⟩
  have q := hG i H hi p
  by_cases hlt : i < n
  · exact .inr ⟨w.goes i H hlt q, Pv (i + 1), fun H' p' => ⟨n - (i + 1), by omega, rfl, hlt, p'⟩, fun x H' y => hs i x H H' hlt p (w.yields i H x H' hlt q y)⟩
  · have e : i = n := by omega
    subst e
    exact .inl ⟨w.stops H q, hd H p⟩
end Gt

set_option Elab.async false
set_option linter.all false
set_option maxRecDepth 100000
set_option maxHeartbeats 4000000
/-! names and words, for any law -/
namespace Lw
open L2 hiding Ext
open PySem PySem.Spec PyProof.Rows Gn Gr Gk Go Gt Gf
theorem iteS {c A B : Prop} [Decidable c] (hc : c) (h : A) : if decide c = true then A else B := by
  rw [if_pos (decide_eq_true hc)]
  exact h
theorem iteN {c A B : Prop} [Decidable c] (hc : ¬ c) (h : B) : if decide c = true then A else B := by
  rw [if_neg (by rw [decide_eq_false hc]; exact Bool.false_ne_true)]
  exact h
theorem take_succ_map {α β : Type} {l : List α} {i : Nat} {c : α} (f : α → β) (h : l[i]? = some c) : (l.take (i + 1)).map f = (l.take i).map f ++ [f c] := by
  rw [List.take_add_one, h, List.map_append]
  rfl
theorem cps_at {z : Str} {i : Nat} {c : Nat} (h : z.cps[i]? = some c) : z.cps.toList[i]? = some c := by simpa using h
theorem cps_len (z : Str) : z.cps.toList.length = z.cps.size := by simp
theorem strs_flat (E : List Str) : (E.map V.str).all flatV = true := by
  rw [List.all_map]
  exact List.all_eq_true.mpr fun _ _ => rfl
theorem inV_strs (x : Str) (E : List Str) : inV (.str x) (E.map V.str) = decide (x ∈ E) := by
  unfold inV
  rw [List.any_map]
  induction E with
  | nil => simp
  | cons y r ih =>
    rw [List.any_cons, ih]
    show ((y == x) || _) = _
    by_cases e : y = x
    · subst e; simp
    · have e' : ¬ x = y := fun z => e z.symm
      simp [e, e']
theorem strlen (a b : Str) : (a ++ b).length = a.length + b.length := strLen_append a b
theorem sum_le {α : Type} (f : α → Nat) {b : Nat} : ∀ l : List α, (∀ x ∈ l, f x ≤ b) → (l.map f).sum ≤ l.length * b
  | [], _ => by simp
  | x :: r, h => by
    have h1 := h x (List.mem_cons_self ..)
    have h2 := sum_le f r fun y hy => h y (List.mem_cons_of_mem _ hy)
    rw [List.map_cons, List.sum_cons, List.length_cons, Nat.succ_mul]
    omega
/-! ### names -/
def lettersOnly (x : Str) : Prop := ∀ c ∈ x.cps.toList, c ∈ letters.cps.toList
theorem nameOk_of {x : Str} (h1 : 1 ≤ x.length) (h2 : x.length ≤ 8) (h : lettersOnly x) : nameOk x = true := by
  unfold nameOk
  rw [decide_eq_true h1, decide_eq_true h2, Bool.true_and, Bool.true_and]
  exact List.all_eq_true.mpr fun c hc => by simpa [isL] using h c hc
theorem lo_of {x : Str} (h : nameOk x = true) : lettersOnly x := by
  unfold nameOk at h
  simp only [Bool.and_eq_true, decide_eq_true_eq] at h
  intro c hc
  simpa [isL] using List.all_eq_true.mp h.2.2 c hc
theorem lo_app {x y : Str} (h : lettersOnly x) (k : lettersOnly y) : lettersOnly (x ++ y) := by
  intro c hc
  rw [cps_app] at hc
  exact (List.mem_append.mp hc).elim (h c) (k c)
theorem lo_cut {x : Str} (h : lettersOnly x) (lo hi : Option Int) : lettersOnly (cutS x lo hi) := by
  intro c hc
  unfold cutS at hc
  exact h c (List.mem_of_mem_drop (List.mem_of_mem_take (by simpa using hc)))
theorem cut6 (x : Str) : (cutS x none (some 6)).length ≤ 6 := by
  rw [← len_cps]
  unfold cutS
  show (List.take _ _).toArray.toList.length ≤ 6
  rw [List.toList_toArray, List.length_take]
  have : HT.sIx x.length x.length (some ((6 : Nat) : Int)) = min 6 x.length := HT.sIx_nat _ _ _
  have this : HT.sIx x.length x.length (some 6) = min 6 x.length := this
  rw [this]
  omega
theorem z_len : ("z" : Str).length = 1 := by decide +kernel
theorem z_lo : lettersOnly ("z" : Str) := by unfold lettersOnly; decide +kernel
def cand (x : Str) (c : Nat) : Str := cutS x none (some 6) ++ "z" ++ oneS' c
  where oneS' (c : Nat) : Str := ⟨#[c]⟩
theorem one_len (c : Nat) : (cand.oneS' c).length = 1 := rfl
theorem one_lo {c : Nat} (h : c ∈ letters.cps.toList) : lettersOnly (cand.oneS' c) := by
  intro b hb
  have : b = c := by simpa [cand.oneS'] using hb
  rw [this]
  exact h
theorem cand_ok {x : Str} (h : lettersOnly x) {c : Nat} (hc : c ∈ letters.cps.toList) : nameOk (cand x c) = true := by
  have h6 := cut6 x
  refine nameOk_of ?_ ?_ (lo_app (lo_app (lo_cut h _ _) z_lo) (one_lo hc))
  · unfold cand
    rw [strlen, strlen, z_len, one_len]
    omega
  · unfold cand
    rw [strlen, strlen, z_len, one_len]
    omega
theorem cand_inj {x : Str} {c c' : Nat} (h : cand x c = cand x c') : c = c' := by
  have e : (cand x c).cps.toList = (cand x c').cps.toList := by rw [h]
  unfold cand at e
  rw [cps_app, cps_app, cps_app, cps_app] at e
  have e2 := List.append_cancel_left e
  simpa [cand.oneS'] using e2
def cands (x : Str) : List Str := letters.cps.toList.map (cand x)
theorem nodup_map {α β : Type} {f : α → β} (hf : ∀ a b, f a = f b → a = b) : ∀ {l : List α}, l.Nodup → (l.map f).Nodup
  | [], _ => by simp
  | a :: r, h => by
    obtain ⟨h1, h2⟩ := List.nodup_cons.mp h
    refine List.nodup_cons.mpr ⟨fun z => ?_, nodup_map hf h2⟩
    obtain ⟨b, hb, e⟩ := List.mem_map.mp z
    exact h1 (hf _ _ e ▸ hb)
theorem cands_nodup (x : Str) : (cands x).Nodup := nodup_map (fun _ _ h => cand_inj h) (by decide +kernel)
theorem cands_len (x : Str) : (cands x).length = 26 := by
  unfold cands
  rw [List.length_map]
  decide +kernel
theorem pigeon : ∀ {ws fs : List Str}, ws.Nodup → (∀ x ∈ ws, x ∈ fs) → ws.length ≤ fs.length
  | [], _, _, _ => Nat.zero_le _
  | x :: ws, fs, hn, hs => by
    obtain ⟨n1, n2⟩ := List.nodup_cons.mp hn
    have hx := hs x (List.mem_cons_self ..)
    have q := pigeon (fs := fs.erase x) n2 fun y hy => (List.mem_erase_of_ne (fun e => n1 (by rw [← e]; exact hy))).mpr (hs y (List.mem_cons_of_mem _ hy))
    have := List.length_erase_of_mem hx
    have := List.length_pos_of_mem hx
    rw [List.length_cons]
    omega
theorem fresh_cand (x : Str) {fs : List Str} (h : fs.length ≤ 8) : ∃ w r, (cands x).filter (fun y => !decide (y ∈ fs)) = w :: r ∧ w ∈ cands x ∧ w ∉ fs := by
  cases e : (cands x).filter (fun y => !decide (y ∈ fs)) with
  | nil =>
    exfalso
    have := pigeon (cands_nodup x) (fs := fs) fun y hy => by
      by_cases m : y ∈ fs
      · exact m
      · have : y ∈ (cands x).filter (fun y => !decide (y ∈ fs)) := List.mem_filter.mpr ⟨hy, by simp [m]⟩
        rw [e] at this
        cases this
    rw [cands_len] at this
    omega
  | cons w r =>
    have hw : w ∈ (cands x).filter (fun y => !decide (y ∈ fs)) := by rw [e]; exact List.mem_cons_self ..
    obtain ⟨a, b⟩ := List.mem_filter.mp hw
    exact ⟨w, r, rfl, a, by simpa using b⟩
theorem join_len (ys : List Str) : (Txt.join Str.empty ys).cps.toList = (ys.map fun y => y.cps.toList).flatten := by
  show TL.tl _ = _
  rw [TL.join_eq, TL.tl_join, e_tl]
  have : ∀ ls : List (List Nat), TL.joinL [] ls = ls.flatten := by
    intro ls
    induction ls with
    | nil => rfl
    | cons p r ih =>
      cases r with
      | nil => show p = _; simp
      | cons q r =>
        show p ++ ([] ++ TL.joinL [] (q :: r)) = _
        rw [ih]
        simp
  rw [this]
theorem join_signs (cs : List Nat) : (Txt.join Str.empty (cs.map cand.oneS')).cps.toList = cs := by
  rw [join_len, List.map_map]
  induction cs with
  | nil => rfl
  | cons c r ih =>
    rw [List.map_cons, List.flatten_cons, ih]
    rfl
def ownText : Str := "account in join ask deposit release send lose copy withdraw arrive spent ideal total over"
def owns : List Str := Txt.split ownText " "
theorem owns_ok : ∀ w ∈ owns, nameOk w = true := by decide +kernel
theorem owns_len : owns.length = 15 := by decide +kernel
theorem filter_take {α : Type} {l : List α} {i : Nat} {c : α} (p : α → Bool) (h : l[i]? = some c) : (l.take (i + 1)).filter p = (l.take i).filter p ++ (if p c = true then [c] else []) := by
  rw [List.take_add_one, h, List.filter_append]
  show _ ++ List.filter p [c] = _
  cases e : p c <;> simp [e]
theorem sizes1128 : ∀ x ∈ ([.int 1, .int 1, .int 2, .int 8] : List V), ∃ j : Int, x = .int j ∧ 1 ≤ j ∧ j ≤ 8 := by
  intro x hx
  simp only [List.mem_cons, List.not_mem_nil, or_false] at hx
  rcases hx with rfl | rfl | rfl | rfl <;> exact ⟨_, rfl, by decide, by decide⟩
end Lw

set_option Elab.async false
set_option linter.all false
set_option maxRecDepth 100000
set_option maxHeartbeats 4000000
namespace Lw
open L2 hiding Ext
open PySem PySem.Spec PyProof.Rows Gn Gr Gk Go Gt Gf
section
variable {P : Program} {w : World} {K : PySem.W.Frag} {mg : Str → Option Value} {base : Heap}
/-- the built-in names, and the module's numbers and letters -/
structure Names (mg : Str → Option Value) : Prop where
  isi : mg "isinstance" = none
  str : mg "str" = none
  int : mg "int" = none
  bool : mg "bool" = none
  list : mg "list" = none
  tuple : mg "tuple" = none
  dict : mg "dict" = none
  len : mg "len" = none
  all : mg "all" = none
  enum : mg "enumerate" = none
  range : mg "range" = none
  min : mg "min" = none
  zip : mg "zip" = none
  repr : mg "repr" = none
  letters : ∃ t, mg "LETTERS" = some (.str letters t)
  longest : ∃ t, mg "LONGEST" = some (.int 8 t)
theorem scName : FnScope ["value", "letter"] ["value"] (defScope sName) := ⟨rfl, rfl, rfl, by decide +kernel, rfl, by decide +kernel, by decide +kernel⟩
theorem ok_name {f : Addr} {fd : FuncData} (F : Fun K "is_name" "is_name" sName f fd) (T : Names mg) : FnOk P w K mg base CX0 1 f fd ["value"] spName := by
  refine F.ok scName (fun vs H Q E h => ?_) (fun cdv A outer s H vs Q E hr h => ?_)
  · obtain ⟨v, r, rfl, _⟩ := h
    rfl
  · obtain ⟨v, r, rfl, hv, k⟩ := h
    have hu := hu_of hr
    have nd := scName.nd
    obtain ⟨t1, hL⟩ := T.letters
    obtain ⟨t2, hM⟩ := T.longest
    refine ⟨_, pss_cons (ps_if (pt_not (pt_val (pe_callB call_isi rfl T.isi (by decide +kernel) (pa_cons (pv 0) (pa_cons (pe_bltn (v := .ty "str") rfl T.str (by decide +kernel) rfl) pa_nil))))) (pss_one (ps_ret pe_bl)) pss_nil)
      (pss_cons (ps_if (PW.pt (pw_or (pt_cmpR op_lt (pe_callB call_len_str rfl T.len PySem.boot_len (pa_cons (pv 0) pa_nil)) pe_int (nomark _)) (pw_or1 (pt_cmpR op_gt (pe_callB call_len_str rfl T.len PySem.boot_len (pa_cons (pv 0) pa_nil)) (pe_glob (v := .int 8) rfl hM ⟨_, rfl⟩) (nomark _))))) (pss_one (ps_ret pe_bl)) pss_nil)
      (pss_one (ps_ret (pe_callB (cr_all rfl) rfl T.all (by decide +kernel) (pa_cons (pe_lc (own := [("letter", 1)]) (g := gName 1) (tt := tYes) rfl nd (pi_str (pv 0)) (blkOk_by (N := ["value", "letter"]) (sc := defScope sName) (by decide +kernel))
        (fun _ _ _ _ _ => pg_name (i := 1) nd rfl (.inl rfl)) (fun _ _ _ _ _ => pts_nil) (fun _ _ _ _ _ => pe_cmpR op_in_sign (pv 1) (pe_glob (v := .str letters) rfl hL ⟨_, rfl⟩) rfl)) pa_nil))))), ?_⟩
    rcases hv with ⟨x, rfl, hx, rfl⟩ | ⟨rfl, hv⟩
    · refine ⟨_, rfl, _, _, _, _, true, rfl, .ty _, (TyT.str x).x, kit_ty (by decide +kernel), true, rfl, iteF ?_⟩
      have hx1 := hx.1
      refine ⟨_, rfl, x, rfl, by rw [sizeLine_eq]; omega, _, _, rfl, rfl, _, rfl, ?_⟩
      unfold nameOk at k
      refine ite2 (fun e => ?_) (fun n1 => ?_)
      · refine iteT ?_
        have e : (x.length : Int) < 1 := of_decide_eq_true e
        rw [show decide (1 ≤ x.length) = false from decide_eq_false (by omega), Bool.false_and] at k
        exact k H Ext.refl
      · have n1 : ¬ (x.length : Int) < 1 := of_decide_eq_false (Bool.eq_false_iff.mpr n1)
        rw [show decide (1 ≤ x.length) = true from decide_eq_true (by omega), Bool.true_and] at k
        refine ⟨_, rfl, x, rfl, by rw [sizeLine_eq]; omega, _, _, rfl, rfl, _, rfl, ?_⟩
        refine ite2 (fun e => ?_) (fun n2 => ?_)
        · have e : (8 : Int) < x.length := of_decide_eq_true e
          rw [show decide (x.length ≤ 8) = false from decide_eq_false (by omega), Bool.false_and] at k
          exact k H Ext.refl
        · have n2 : ¬ (8 : Int) < x.length := of_decide_eq_false (Bool.eq_false_iff.mpr n2)
          rw [show decide (x.length ≤ 8) = true from decide_eq_true (by omega), Bool.true_and] at k
          refine ⟨_, rfl, x, rfl, fun D hD => ?_⟩
          refine lc_it walk_str (fun i H' => H' D = some (.lst (((x.cps.toList.take i).map isL).map V.bl)) ∧ Ext H H') ⟨upd_same, Ext.new hD⟩ (fun _ _ _ _ => trivial) ?_ ?_
          · rintro i y H1 H2 hi ⟨hd, he⟩ ⟨rfl, c, hc, rfl⟩
            refine ⟨rfl, yes_of ?_⟩
            refine ⟨_, rfl, c, _, rfl, rfl, _, hd, ?_, ?_, fun a o e => ?_⟩
            · have := len_cps x
              rw [List.length_map, List.length_map, List.length_take]
              exact small1000 (by omega)
            · rw [upd_same, take_succ_map isL (cps_at hc), List.map_append]
              rfl
            · rw [upd_ne (ne_of_none e hD)]
              exact he a o e
          · rintro H1 ⟨hd, he⟩
            refine ⟨D, _, rfl, SqL.of hd, ?_⟩
            rw [← cps_len, List.take_length, List.all_map]
            exact k H1 he
    · rcases hv with h | h | h | h | h | h <;> exact ⟨_, rfl, _, _, _, _, false, rfl, .ty _, h.x, kit_ty (by decide +kernel), false, rfl, iteT (k H Ext.refl)⟩
/-! ### is_row, of a row that may stand there -/
def RowAt (H : Hp) (v : V) (r : FRow) : Prop := ∃ p, v = V.ref p ∧ H p = some (.tup [.str r.1, parV r.2])
def RowsAt (H : Hp) (vs : List V) (rs : List FRow) : Prop := vs.length = rs.length ∧ ∀ (i : Nat) (r : FRow), rs[i]? = some r → ∃ p, vs[i]? = some (V.ref p) ∧ H p = some (.tup [.str r.1, parV r.2])
theorem RowsAt.ext {H H' : Hp} {vs : List V} {rs : List FRow} (h : RowsAt H vs rs) (k : Ext H H') : RowsAt H' vs rs :=
  ⟨h.1, fun i r hr => by obtain ⟨p, a, b⟩ := h.2 i r hr; exact ⟨p, a, k _ _ b⟩⟩
def spRow : Sp := fun vs H Q _ => ∃ (v : V) (e : Addr) (r : FRow) (E : List Str), vs = [v, .ref e] ∧ RowAt H v r ∧ H e = some (.lst (E.map V.str)) ∧ RowOk E r ∧ ∀ H', Ext H H' → Q (.bl true) H'
theorem scRow : FnScope ["value", "earlier", "name", "parent"] ["value", "earlier"] (defScope sRow) := ⟨rfl, rfl, rfl, by decide +kernel, rfl, by decide +kernel, by decide +kernel⟩
theorem ok_row {f fN : Addr} {fd fdN : FuncData} (F : Fun K "is_row" "is_row" sRow f fd) (T : Names mg) (GN : FnOk P w K mg base CX0 1 fN fdN ["value"] spName) (bN : Binds K fdN ["value"] []) (kN : PySem.W.keepIn K (.ref fN) = true) (mN : mg "is_name" = some (.ref fN)) :
    FnOk P w K mg base CX0 2 f fd ["value", "earlier"] spRow := by
  refine F.ok scRow (fun vs H Q E h => ?_) (fun cdv A outer s H vs Q E hr h => ?_)
  · obtain ⟨v, e, r, E, rfl, _⟩ := h
    rfl
  · obtain ⟨v, e, r, E, rfl, ⟨p, rfl, hp⟩, he, ⟨r1, r2, r3⟩, k⟩ := h
    have hu := hu_of hr
    have nd := scRow.nd
    refine ⟨_, pss_cons (ps_if (PW.pt (pw_or (pt_not (pt_val (pe_callB call_isi rfl T.isi (by decide +kernel) (pa_cons (pv 0) (pa_cons (pe_bltn (v := .ty "tuple") rfl T.tuple (by decide +kernel) rfl) pa_nil))))) (pw_or1 (pt_cmpR op_ne (pe_callB call_len_seq rfl T.len PySem.boot_len (pa_cons (pv 0) pa_nil)) pe_int (nomark _))))) (pss_one (ps_ret pe_bl)) pss_nil)
      (pss_cons (ps_asg (pv 0) (by exact (pg_tup rfl (pgs_cons (pg_name (i := 2) nd rfl (.inl rfl)) (pgs_cons (pg_name (i := 3) nd rfl (.inl rfl)) pgs_nil)))))
      (pss_cons (ps_if (PW.pt (pw_or (pt_not (pt_val (pe_call GN hr rfl mN kN bN .nil pass0 (pa_cons (pv 2) pa_nil)))) (pw_or1 (pt_cmpR op_in_seq (pv 2) (pv 1) rfl)))) (pss_one (ps_ret pe_bl)) pss_nil)
      (pss_one (ps_ret (pe_or (pe_cmpR op_isN (pv 3) pe_non (nomark _)) (pe_one (pe_cmpR op_in_seq (pv 3) (pv 1) rfl))))))), ?_⟩
    refine ⟨_, rfl, _, _, _, _, true, rfl, .ty _, (TyT.tup hp).x, kit_ty (by decide +kernel), true, rfl, iteF ?_⟩
    refine ⟨_, rfl, p, _, rfl, .inr (SqT.of hp), rfl, _, rfl, iteNS rfl ?_⟩
    refine ⟨_, rfl, p, _, rfl, SqT.of hp, rfl, _, _, rfl, _, _, rfl, rfl, ?_⟩
    refine ⟨_, rfl, _, _, rfl, .inl ⟨r.1, rfl, name_asc19 r1, rfl⟩, fun H1 k1 => ?_⟩
    rw [r1]
    refine ⟨true, rfl, iteF ?_⟩
    refine ⟨_, rfl, _, rfl, e, _, rfl, .inl (SqL.of (k1 _ _ he)), rfl, strs_flat E, _, rfl, ?_⟩
    rw [inV_strs, decide_eq_false r2]
    refine iteF ?_
    refine ⟨_, rfl, rfl, ?_⟩
    cases e2 : r.2 with
    | none =>
      refine ⟨true, rfl, iteT ?_⟩
      exact k _ k1
    | some m =>
      refine ⟨false, rfl, iteF ?_⟩
      refine ⟨_, rfl, _, rfl, e, _, rfl, .inl (SqL.of (k1 _ _ he)), rfl, strs_flat E, ?_⟩
      show Q (.bl (inV (.str m) (E.map V.str))) H1
      rw [inV_strs, decide_eq_true (r3 m e2)]
      exact k _ k1
/-! ### first_wrong, of rows of a forest -/
def spWrong (K : PySem.W.Frag) : Sp := fun vs H Q _ => ∃ (l : Addr) (xs : List V) (rs : List FRow), vs = [.ref l] ∧ SqL K H l xs ∧ (∀ H', Ext H H' → SqL K H' l xs) ∧ RowsAt H xs rs ∧ GoodF [] rs ∧ rs.length ≤ 1000 ∧ ∀ H', Ext H H' → Q (.int rs.length) H'
theorem scWrong : FnScope ["rows", "earlier", "at", "row"] ["rows"] (defScope sWrong) := ⟨rfl, rfl, rfl, by decide +kernel, rfl, by decide +kernel, by decide +kernel⟩
theorem ok_wrong {f fR : Addr} {fd fdR : FuncData} (F : Fun K "first_wrong" "first_wrong" sWrong f fd) (T : Names mg) (GR : FnOk P w K mg base CX0 2 fR fdR ["value", "earlier"] spRow) (bR : Binds K fdR ["value", "earlier"] []) (kR : PySem.W.keepIn K (.ref fR) = true) (mR : mg "is_row" = some (.ref fR)) :
    FnOk P w K mg base CX0 3 f fd ["rows"] (spWrong K) := by
  refine F.ok scWrong (fun vs H Q E h => ?_) (fun cdv A outer s H vs Q E hr h => ?_)
  · obtain ⟨l, xs, rs, rfl, _⟩ := h
    rfl
  · obtain ⟨l, xs, rs, rfl, hl, hlk, hR, hg, hn, k⟩ := h
    have hu := hu_of hr
    have nd := scWrong.nd
    refine ⟨_, pss_cons (ps_set (i := 1) nd rfl (.inl rfl) (pe_lst pa_nil))
      (pss_cons (ps_for PassesOwn.never rfl (pi_enum rfl T.enum (pa_cons (pv 0) pa_nil)) (by exact (pg_tup rfl (pgs_cons (pg_name (i := 2) nd rfl (.inl rfl)) (pgs_cons (pg_name (i := 3) nd rfl (.inl rfl)) pgs_nil))))
        (pss_cons (ps_if (pt_not (pt_val (pe_call GR hr rfl mR kR bR .nil pass0 (pa_cons (pv 3) (pa_cons (pv 1) pa_nil))))) (pss_one (ps_ret (pv 2))) pss_nil)
        (pss_one (ps_expr (pe_bm PySem.F.plainAttrs_list PySem.F.slot_list_append PySem.F.type_list_append mt_append (pv 1) (pa_cons (pe_ix ix_tup (pv 3) pe_int (fun _ _ => rfl)) pa_nil))))))
      (pss_one (ps_ret (pe_callB call_len_seq rfl T.len PySem.boot_len (pa_cons (pv 0) pa_nil))))), ?_⟩
    refine ⟨Nat.zero_le _, fun e he => ?_⟩
    refine ⟨_, rfl, l, xs, rfl, hlk _ (Ext.new he), ?_⟩
    refine for_it walk_enum (fun i σ H' => ∃ (v2 v3 : Option V), σ = [some (.ref l), some (.ref e), v2, v3] ∧ H' e = some (.lst ((fNames (rs.take i)).map V.str)) ∧ Ext H H') ⟨none, none, rfl, upd_same, Ext.new he⟩ (fun i σ H' _ ⟨_, _, _, _, k1⟩ => hlk _ k1) ?_ ?_
    · rintro i x σ H1 H2 hi ⟨v2, v3, rfl, e1, k1⟩ ⟨t, a, b, rfl, ht, rfl, ea, eb⟩
      have ea : some (V.int (i : Nat)) = some a := ea
      cases ea
      have hir : i < rs.length := by have := hR.1; omega
      obtain ⟨p, h1, h2⟩ := hR.2 i _ (List.getElem?_eq_getElem hir)
      have eb : xs[i]? = some b := eb
      rw [h1] at eb
      cases eb
      have ok := good_at hg (List.getElem?_eq_getElem hir)
      rw [List.nil_append] at ok
      have k2 : Ext H (upd H1 t (.tup [.int (i : Nat), .ref p])) := k1.trans (Ext.new ht)
      have e2 : (upd H1 t (.tup [.int (i : Nat), .ref p])) e = some (.lst ((fNames (rs.take i)).map V.str)) := new_same ht _ _ e1
      refine ⟨t, _, rfl, SqT.of upd_same, rfl, _, _, rfl, _, _, rfl, rfl, ?_⟩
      refine ⟨_, rfl, _, rfl, _, e, rs[i], fNames (rs.take i), rfl, ⟨p, rfl, k2 _ _ h2⟩, e2, ok, fun H3 k3 => ?_⟩
      refine ⟨true, rfl, iteF ?_⟩
      have e3 := k3 _ _ e2
      refine ⟨_, rfl, .inl ⟨rfl, _, SqL.of e3⟩, _, rfl, p, _, _, _, rfl, rfl, SqT.of ((k2.trans k3) _ _ h2), rfl, e, _, _, rfl, rfl, e3, ?_, ?_⟩
      · rw [sizeLine_eq, List.length_map, fNames, List.length_map, List.length_take]
        omega
      · refine ⟨_, _, rfl, ?_, fun a o ha => ?_⟩
        · rw [upd_same, names_take, names_take]
          show _ = some (HO.lst (((fNames rs).take (i + 1)).map V.str))
          rw [List.map_take, List.map_take, List.take_add_one]
          have : (List.map V.str (fNames rs))[i]? = some (V.str rs[i].1) := by
            rw [List.getElem?_map, fNames, List.getElem?_map, List.getElem?_eq_getElem hir]
            rfl
          rw [this]
          rfl
        · rw [upd_ne (ne_of_none ha he)]
          exact k3 _ _ (k2 _ _ ha)
    · rintro σ H1 ⟨v2, v3, rfl, e1, k1⟩
      refine ⟨_, rfl, l, xs, rfl, .inl (hlk _ k1), ?_⟩
      rw [hR.1]
      exact k _ k1
end
end Lw

set_option Elab.async false
set_option linter.all false
set_option maxRecDepth 100000
set_option maxHeartbeats 4000000
namespace Lw
open L2 hiding Ext
open PySem PySem.Spec PyProof.Rows Gn Gr Gk Go Gt Gf
/-- what of the text the class Forest has -/
structure FC (K : PySem.W.Frag) (mg : Str → Option Value) (C fI : Addr) (mc : Value) : Prop where
  cl : Cls K C
  make : Mk K C fI
  nP : NoAttr K C "_parents"
  cr : ClX.CRead K C mc
  most : ∃ u, ClX.CVal K C mc "MOST" (.int 8) u
  ha : PySem.W.findIn K (.ref C) "__class__" = some (some (.builtin "object.__class__"))
  hn : PySem.W.specialIn K (.builtin "object.__class__") "__get__" = some (some (.builtin "getset_descriptor.__get__"))
  htk : PySem.W.takesIn K (.builtin "object.__class__") = some true
  hm : PySem.W.mroIn K C (.type "object") = some true
  self : PySem.W.kitOne K (.ref C) (.ref C) = some true
  g : mg "Forest" = some (.ref C)
def kvs (rs : List FRow) : List (Key × V) := rs.map kvOf
def FoAt (C : Addr) (H : Hp) (a : Addr) (rs : List FRow) : Prop := ∃ dx q, H a = some (.ins C dx [("_parents", .ref q)]) ∧ H q = some (.dK (kvs rs))
theorem FoAt.ext {C a : Addr} {H H' : Hp} {rs : List FRow} (h : FoAt C H a rs) (k : Ext H H') : FoAt C H' a rs := by
  obtain ⟨dx, q, h1, h2⟩ := h
  exact ⟨dx, q, k _ _ h1, k _ _ h2⟩
def Good (rs : List FRow) : Prop := 1 ≤ rs.length ∧ rs.length ≤ 8 ∧ GoodF [] rs
theorem kvs_none {rs : List FRow} {n : Str} (h : n ∉ fNames rs) : valV (kvs rs) (Sum.inr n : Key) = none := by
  induction rs with
  | nil => rfl
  | cons r t ih =>
    have h1 : ¬ r.1 = n := fun e => h (by simp [fNames, e])
    have h2 : n ∉ fNames t := fun e => h (List.mem_cons_of_mem _ e)
    show valV ((Sum.inr r.1, parV r.2) :: kvs t) (Sum.inr n : Key) = none
    rw [valV_neg (fun e => h1 (Sum.inr.inj e))]
    exact ih h2
theorem kvs_some : ∀ {rs : List FRow} {r : FRow}, (fNames rs).Nodup → r ∈ rs → valV (kvs rs) (Sum.inr r.1 : Key) = some (parV r.2)
  | [], _, _, h => by cases h
  | x :: t, r, hn, h => by
    have hn' : (x.1 :: fNames t).Nodup := hn
    obtain ⟨n1, n2⟩ := List.nodup_cons.mp hn'
    show valV ((Sum.inr x.1, parV x.2) :: kvs t) (Sum.inr r.1 : Key) = _
    rcases List.mem_cons.mp h with rfl | h
    · exact valV_pos rfl
    · have ne : ¬ x.1 = r.1 := fun e => n1 (by rw [e]; exact List.mem_map.mpr ⟨r, h, rfl⟩)
      rw [valV_neg (fun e => ne (Sum.inr.inj e))]
      exact kvs_some n2 h
section
variable {P : Program} {w : World} {K : PySem.W.Frag} {mg : Str → Option Value} {base : Heap} {C fI : Addr} {mc : Value}
theorem FC.ty (T : FC K mg C fI mc) {H : Hp} {a dx : Addr} {fs : List (Str × V)} (h : H a = some (.ins C dx fs)) : TyX K H (.ref a) (.ref C) := .base (.ins h T.cl T.ha T.hn T.htk T.hm)
/-! ### Forest.__init__ -/
def spInit (C : Addr) : Sp := fun vs H Q _ => ∃ (x l dx : Addr) (xs : List V) (rs : List FRow), vs = [.ref x, .ref l] ∧ H x = some (.ins C dx []) ∧ H l = some (.lst xs) ∧ RowsAt H xs rs ∧ Good rs ∧
  ∀ H' D, (∀ a o, a ≠ x → H a = some o → H' a = some o) → H' x = some (.ins C dx [("_parents", .ref D)]) → H' D = some (.dK (kvs rs)) → Q .non H'
theorem scInit : FnScope ["self", "rows", "name", "parent"] ["self", "rows"] (defScope sInit) := ⟨rfl, rfl, rfl, by decide +kernel, rfl, by decide +kernel, by decide +kernel⟩
theorem ok_init {f fW : Addr} {fd fdW : FuncData} (F : Fun K "__init__" "Forest.__init__" sInit f fd) (T : Names mg) (Z : FC K mg C fI mc) (GW : FnOk P w K mg base CX0 3 fW fdW ["rows"] (spWrong K)) (bW : Binds K fdW ["rows"] []) (kW : PySem.W.keepIn K (.ref fW) = true) (mW : mg "first_wrong" = some (.ref fW)) :
    FnOk P w K mg base CX0 4 f fd ["self", "rows"] (spInit C) := by
  refine F.ok scInit (fun vs H Q E h => ?_) (fun cdv A outer s H vs Q E hr h => ?_)
  · obtain ⟨x, l, dx, xs, rs, rfl, _⟩ := h
    rfl
  · obtain ⟨x, l, dx, xs, rs, rfl, hx, hl, hR, ⟨g1, g8, hg⟩, k⟩ := h
    have hu := hu_of hr
    have nd := scInit.nd
    obtain ⟨um, hM⟩ := Z.most
    refine ⟨_, pss_cons (ps_if (pt_not (pt_val (pe_callB call_isiT rfl T.isi (by decide +kernel) (pa_cons (pv 1) (pa_cons (pe_tup (pa_cons (pe_bltn (v := .ty "list") rfl T.list (by decide +kernel) rfl) (pa_cons (pe_bltn (v := .ty "tuple") rfl T.tuple (by decide +kernel) rfl) pa_nil))) pa_nil))))) pss_never pss_nil)
      (pss_cons (ps_if (PW.pt (pw_or (pt_cmpR op_lt (pe_callB call_len_seq rfl T.len PySem.boot_len (pa_cons (pv 1) pa_nil)) pe_int (nomark _)) (pw_or1 (pt_cmpR op_gt (pe_callB call_len_seq rfl T.len PySem.boot_len (pa_cons (pv 1) pa_nil)) (ClX.pe_cval (pe_glob (v := .ref C) rfl Z.g rfl)) (nomark _))))) pss_never pss_nil)
      (pss_cons (ps_if (pt_cmpR op_lt (pe_call GW hr rfl mW kW bW .nil pass0 (pa_cons (pv 1) pa_nil)) (pe_callB call_len_seq rfl T.len PySem.boot_len (pa_cons (pv 1) pa_nil)) (nomark _)) pss_never pss_nil)
      (pss_one (ps_fld (pv 0) (pe_dc (own := [("name", 2), ("parent", 3)]) (g := gTup K 2 (gCons (gName 2) (gCons (gName 3) gNil))) (tt := tYes) rfl nd (pi_list (pv 1)) (blkOk_by (N := ["self", "rows", "name", "parent"]) (sc := defScope sInit) (by decide +kernel))
        (fun _ _ _ _ _ => by exact (pg_tup rfl (pgs_cons (pg_name (i := 2) nd rfl (.inl rfl)) (pgs_cons (pg_name (i := 3) nd rfl (.inl rfl)) pgs_nil)))) (fun _ _ _ _ _ => pts_nil) (fun _ _ _ _ _ => pv 2) (fun _ _ _ _ _ => pv 3)) rfl)))), ?_⟩
    have hlen : xs.length = rs.length := hR.1
    refine ⟨_, rfl, by show 2 ≤ sizeLine; decide, fun tp htp => ?_⟩
    have hx1 := new_same (o := .tup [.ty "list", .ty "tuple"]) htp _ _ hx
    have hl1 := new_same (o := .tup [.ty "list", .ty "tuple"]) htp _ _ hl
    have k1 : Ext H (upd H tp (.tup [.ty "list", .ty "tuple"])) := Ext.new htp
    have ht1 : (upd H tp (.tup [.ty "list", .ty "tuple"])) tp = some (.tup [.ty "list", .ty "tuple"]) := upd_same
    generalize upd H tp (.tup [.ty "list", .ty "tuple"]) = H1 at hx1 hl1 k1 ht1 ⊢
    refine ⟨_, tp, _, _, [.type "list", .type "tuple"], true, rfl, ht1, .cons (.ty _) (.cons (.ty _) .nil), (TyT.lst hl1).x, kitAny_cons (b := true) (kit_ty (by decide +kernel)) (fun z => by cases z) (fun _ => rfl), true, rfl, iteF ?_⟩
    refine ⟨_, rfl, l, _, rfl, .inl (SqL.of hl1), _, _, rfl, rfl, _, rfl, iteN (by omega) ?_⟩
    refine ⟨_, rfl, l, _, rfl, .inl (SqL.of hl1), C, mc, _, um, rfl, Z.cr, hM, _, _, rfl, rfl, _, rfl, iteN (by omega) ?_⟩
    refine ⟨_, rfl, l, xs, rs, rfl, SqL.of hl1, fun H' k' => SqL.of (k' _ _ hl1), hR.ext k1, hg, by omega, fun H2 k2 => ?_⟩
    have hl2 := k2 _ _ hl1
    have hx2 := k2 _ _ hx1
    refine ⟨_, rfl, l, _, rfl, .inl (SqL.of hl2), _, _, rfl, rfl, _, rfl, iteN (by omega) ?_⟩
    refine ⟨_, rfl, l, rfl, ⟨_, SqL.of hl2⟩, fun D hD => ?_⟩
    refine dc_it walk_list (fun i H' => H' D = some (.dK (kvs (rs.take i))) ∧ Ext H2 H') ⟨upd_same, Ext.new hD⟩ (fun i H' _ ⟨_, e⟩ => SqL.of (e _ _ hl2)) ?_ ?_
    · rintro i y H3 H4 hi ⟨d3, k3⟩ ⟨rfl, hy⟩
      have hir : i < rs.length := by omega
      obtain ⟨p, h1, h2⟩ := hR.2 i _ (List.getElem?_eq_getElem hir)
      rw [h1] at hy
      cases hy
      have ok := good_at hg (List.getElem?_eq_getElem hir)
      rw [List.nil_append] at ok
      refine ⟨p, _, rfl, SqT.of (k3 _ _ (k2 _ _ (k1 _ _ h2))), rfl, _, _, rfl, _, _, rfl, rfl, rfl, yes_of ?_⟩
      refine ⟨_, rfl, _, rfl, kvs (rs.take i), (Sum.inr rs[i].1 : Key), rfl, d3, ?_, ?_, fun a o ha => ?_⟩
      · rw [sizeLine_eq, kvs, List.length_map, List.length_take]
        omega
      · rw [upd_same, putK_new _ (kvs_none ok.2.1)]
        show _ = some (HO.dK ((rs.take (i + 1)).map kvOf))
        rw [take_succ_map kvOf (List.getElem?_eq_getElem hir)]
        rfl
      · rw [upd_ne (ne_of_none ha hD)]
        exact k3 _ _ ha
    · rintro H3 ⟨d3, k3⟩
      rw [hlen, List.take_length] at d3
      refine ⟨_, rfl, x, C, dx, [], rfl, k3 _ _ hx2, Z.cl, Z.nP, by decide, ?_⟩
      refine k _ D (fun a o na ha => ?_) upd_same ?_
      · rw [upd_ne na]
        exact k3 _ _ (k2 _ _ (k1 _ _ ha))
      · rw [upd_ne (ne_of_none hx2 hD).symm]
        exact d3
theorem keys_strs (rs : List FRow) : ((kvs rs).map fun kv => kV kv.1) = (fNames rs).map V.str := by
  unfold kvs fNames
  rw [List.map_map, List.map_map]
  rfl
/-! ### names -/
def spNames (C : Addr) : Sp := fun vs H Q _ => ∃ (a : Addr) (rs : List FRow), vs = [.ref a] ∧ FoAt C H a rs ∧ ∀ H' t, Ext H H' → H t = none → H' t = some (.tup ((fNames rs).map V.str)) → Q (.ref t) H'
theorem scNames : FnScope ["self"] ["self"] (defScope sNames) := ⟨rfl, rfl, rfl, by decide +kernel, rfl, by decide +kernel, by decide +kernel⟩
theorem ok_names {f : Addr} {fd : FuncData} (F : Fun K "names" "Forest.names" sNames f fd) (T : Names mg) (Z : FC K mg C fI mc) : FnOk P w K mg base CX0 1 f fd ["self"] (spNames C) := by
  refine F.ok scNames (fun vs H Q E h => ?_) (fun cdv A outer s H vs Q E hr h => ?_)
  · obtain ⟨a, rs, rfl, _⟩ := h
    rfl
  · obtain ⟨a, rs, rfl, ⟨dx, q, h1, h2⟩, k⟩ := h
    refine ⟨_, pss_one (ps_ret (pe_callTy (call_tuple_dK rfl) rfl T.tuple (by decide +kernel) (pa_cons (pe_fld (pv 0) rfl) pa_nil))), ?_⟩
    refine ⟨_, rfl, a, C, dx, _, _, rfl, h1, Z.cl, Z.nP, rfl, q, _, rfl, h2, fun t ht => ?_⟩
    rw [keys_strs]
    exact k _ t (Ext.new ht) ht upd_same
end
def parOf (rs : List FRow) (n : Str) : Option Str := (rs.find? fun r => decide (r.1 = n)).bind (·.2)
theorem parOf_at : ∀ {rs : List FRow} {r : FRow}, (fNames rs).Nodup → r ∈ rs → parOf rs r.1 = r.2
  | [], _, _, h => by cases h
  | x :: t, r, hn, h => by
    have hn' : (x.1 :: fNames t).Nodup := hn
    obtain ⟨n1, n2⟩ := List.nodup_cons.mp hn'
    unfold parOf
    rcases List.mem_cons.mp h with rfl | h
    · rw [List.find?_cons_of_pos (by simp)]
      rfl
    · have ne : ¬ x.1 = r.1 := fun e => n1 (by rw [e]; exact List.mem_map.mpr ⟨r, h, rfl⟩)
      rw [List.find?_cons_of_neg (by simpa using ne)]
      exact parOf_at n2 h
def ancF (rs : List FRow) : Nat → Str → List Str
  | 0, _ => []
  | k + 1, n => n :: match parOf rs n with
    | none => []
    | some m => ancF rs k m
def ancR (rs : List FRow) (k : Nat) : Option Str → List Str
  | none => []
  | some m => ancF rs k m
theorem ancF_s (rs : List FRow) (k : Nat) (n : Str) : ancF rs (k + 1) n = n :: ancR rs k (parOf rs n) := by
  show n :: _ = n :: _
  cases parOf rs n <;> rfl
section
variable {P : Program} {w : World} {K : PySem.W.Frag} {mg : Str → Option Value} {base : Heap} {C fI : Addr} {mc : Value}
/-! ### ancestors -/
theorem par_idx {rs : List FRow} (hg : GoodF [] rs) {j : Nat} {r : FRow} (h : rs[j]? = some r) {m : Str} (hm : r.2 = some m) : ∃ j' r', j' < j ∧ rs[j']? = some r' ∧ r'.1 = m := by
  have ok := (good_at hg h).2.2 m hm
  rw [List.nil_append] at ok
  obtain ⟨r', h1, h2⟩ := List.mem_map.mp ok
  obtain ⟨j', hj⟩ := List.mem_iff_getElem?.mp h1
  have hlt : j' < j := by
    have := (List.getElem?_eq_some_iff.mp hj).1
    rw [List.length_take] at this
    omega
  rw [List.getElem?_take_of_lt hlt] at hj
  exact ⟨j', r', hlt, hj, h2⟩
def spAnc (C : Addr) : Sp := fun vs H Q _ => ∃ (a : Addr) (rs : List FRow) (i : Nat) (r : FRow), vs = [.ref a, .str r.1] ∧ FoAt C H a rs ∧ Good rs ∧ rs[i]? = some r ∧
  ∀ H' l, Ext H H' → H l = none → H' l = some (.lst ((ancF rs (i + 1) r.1).map V.str)) → Q (.ref l) H'
theorem scAnc : FnScope ["self", "name", "found", "above"] ["self", "name"] (defScope sAnc) := ⟨rfl, rfl, rfl, by decide +kernel, rfl, by decide +kernel, by decide +kernel⟩
theorem ok_anc {f pN fN : Addr} {fd fdN : FuncData} (F : Fun K "ancestors" "Forest.ancestors" sAnc f fd) (T : Names mg) (Z : FC K mg C fI mc) (hpN : PropOf K C "names" pN fN) (GN : FnOk P w K mg base CX0 1 fN fdN ["self"] (spNames C)) (bN : Binds K fdN ["self"] []) :
    FnOk P w K mg base CX0 3 f fd ["self", "name"] (spAnc C) := by
  refine F.ok scAnc (fun vs H Q E h => ?_) (fun cdv A outer s H vs Q E hr h => ?_)
  · obtain ⟨a, rs, i, r, rfl, _⟩ := h
    rfl
  · obtain ⟨a, rs, i, r, rfl, ⟨dx, q, h1, h2⟩, ⟨g1, g8, hg⟩, hi, k⟩ := h
    have hu := hu_of hr
    have nd := scAnc.nd
    have hnd := (good_nodup hg).1
    refine ⟨_, pss_cons (ps_if (pt_cmpR op_notIn_seq (pv 1) (pe_prop (pv 0) Z.cl hpN GN hr bN .nil pass0 rfl) rfl) pss_never pss_nil)
      (pss_cons (ps_set (i := 2) nd rfl (.inl rfl) (pe_lst (pa_cons (pv 1) pa_nil)))
      (pss_cons (ps_set (i := 3) nd rfl (.inl rfl) (pe_dget hu (pe_fld (pv 0) rfl) (pv 1) (fun _ _ => rfl)))
      (pss_cons (ps_while PassesOwn.never (pt_cmpR op_notN (pv 3) pe_non (nomark _))
        (pss_cons (ps_expr (pe_bm PySem.F.plainAttrs_list PySem.F.slot_list_append PySem.F.type_list_append mt_append (pv 2) (pa_cons (pv 3) pa_nil)))
        (pss_one (ps_set (i := 3) nd rfl (.inl rfl) (pe_dget hu (pe_fld (pv 0) rfl) (pv 3) (fun _ _ => rfl))))))
      (pss_one (ps_ret (pv 2)))))), ?_⟩
    have hrm : r ∈ rs := List.mem_of_getElem? hi
    have hin : r.1 ∈ fNames rs := List.mem_map.mpr ⟨r, hrm, rfl⟩
    have hil : i < rs.length := (List.getElem?_eq_some_iff.mp hi).1
    refine ⟨_, rfl, _, rfl, a, dx, _, rfl, h1, a, rs, rfl, ⟨dx, q, h1, h2⟩, fun H1 t k1 ht0 ht => ?_⟩
    refine ⟨t, _, rfl, .inr (SqT.of ht), rfl, strs_flat _, _, rfl, ?_⟩
    rw [inV_strs, decide_eq_true hin]
    refine iteF ?_
    refine ⟨_, rfl, by show 1 ≤ sizeLine; decide, fun l hl => ?_⟩
    have hlH : H l = none := by
      cases e : H l with
      | none => rfl
      | some u => rw [k1 _ _ e] at hl; cases hl
    have k2 : Ext H (upd H1 l (.lst [.str r.1])) := k1.trans (Ext.new hl)
    have hl2 : (upd H1 l (.lst [.str r.1])) l = some (.lst ([r.1].map V.str)) := upd_same
    generalize upd H1 l (.lst [.str r.1]) = H2 at k2 hl2 ⊢
    have get : ∀ {H' : Hp} {x : FRow}, Ext H H' → x ∈ rs → DGet H' q (.str x.1) (some (parV x.2)) := by
      intro H' x kk hx
      rw [← kvs_some hnd hx]
      exact DGet.k (k := Sum.inr x.1) (kk _ _ h2)
    refine ⟨_, rfl, a, C, dx, _, _, rfl, k2 _ _ h1, Z.cl, Z.nP, rfl, _, rfl, q, _, rfl, get k2 hrm, ?_⟩
    refine while_by (fun σ H' => ∃ (pq : Option Str) (pre : List Str) (kk : Nat), σ = [some (.ref a), some (.str r.1), some (.ref l), some (parV pq)] ∧ H' l = some (.lst (pre.map V.str)) ∧ pre.length + kk = i + 1 ∧
        (∀ m, pq = some m → ∃ (j : Nat) (r' : FRow), j < kk ∧ rs[j]? = some r' ∧ r'.1 = m) ∧ pre ++ ancR rs kk pq = ancF rs (i + 1) r.1 ∧ Ext H H')
      (fun _ H' => match H' l with | some (.lst xs) => 100 - xs.length | _ => 0) ⟨r.2, [r.1], i, rfl, hl2, by simp; omega, fun m hm => ?_, ?_, k2⟩ ?_ ?_
    · obtain ⟨j', r', a1, a2, a3⟩ := par_idx hg hi hm
      exact ⟨j', r', a1, a2, a3⟩
    · rw [ancF_s, parOf_at hnd hrm]
      rfl
    · rintro σ H3 ⟨pq, pre, kk, rfl, e3, hk, hm, he, k3⟩
      cases pq with
      | none =>
        refine ⟨_, rfl, rfl, _, rfl, iteNS rfl ?_⟩
        refine ⟨_, rfl, k _ l k3 hlH ?_⟩
        rw [e3]
        have : pre = ancF rs (i + 1) r.1 := by rw [← he]; simp [ancR]
        rw [this]
      | some m =>
        obtain ⟨j, r', j1, j2, rfl⟩ := hm m rfl
        have hr' : r' ∈ rs := List.mem_of_getElem? j2
        refine ⟨_, rfl, rfl, _, rfl, ?_⟩
        show if (!decide (V.str r'.1 = V.non)) = true then _ else _
        rw [decide_eq_false (by intro z; cases z)]
        refine iteT ?_
        refine ⟨_, rfl, .inl ⟨rfl, _, SqL.of e3⟩, _, rfl, l, _, _, rfl, rfl, e3, ?_, ?_⟩
        · rw [sizeLine_eq, List.length_map]
          omega
        have k4 : Ext H (upd H3 l (.lst (pre.map V.str ++ [.str r'.1]))) := fun b o hb => by
          rw [upd_ne (ne_of_none hb hlH)]
          exact k3 _ _ hb
        refine ⟨_, rfl, a, C, dx, _, _, rfl, k4 _ _ h1, Z.cl, Z.nP, rfl, _, rfl, q, _, rfl, get k4 hr', ?_⟩
        obtain ⟨kp, rfl⟩ : ∃ kp, kk = kp + 1 := ⟨kk - 1, by omega⟩
        refine ⟨⟨r'.2, pre ++ [r'.1], kp, rfl, by rw [upd_same, List.map_append]; rfl, by rw [List.length_append]; show pre.length + 1 + kp = _; omega, fun m' hm' => ?_, ?_, k4⟩, ?_⟩
        · obtain ⟨j', r'', a1, a2, a3⟩ := par_idx hg j2 hm'
          exact ⟨j', r'', by omega, a2, a3⟩
        · rw [← he]
          show pre ++ [r'.1] ++ ancR rs kp r'.2 = pre ++ ancF rs (kp + 1) r'.1
          rw [ancF_s, parOf_at hnd hr', List.append_assoc]
          rfl
        · show (match (upd H3 l (.lst (pre.map V.str ++ [.str r'.1]))) l with | some (.lst xs) => 100 - xs.length | _ => 0) < (match H3 l with | some (.lst xs) => 100 - xs.length | _ => 0)
          rw [upd_same, e3]
          show 100 - (pre.map V.str ++ [V.str r'.1]).length < 100 - (pre.map V.str).length
          rw [List.length_append, List.length_map]
          show 100 - (pre.length + 1) < _
          omega
    · exact fun σ H Q Q' hq ⟨v, e1, e2, b, e3, h⟩ => ⟨v, e1, e2, b, e3, hq _ _ h⟩
end
end Lw

set_option Elab.async false
set_option linter.all false
set_option maxRecDepth 100000
set_option maxHeartbeats 4000000
namespace Lw
open L2 hiding Ext
open PySem PySem.Spec PyProof.Rows Gn Gr Gk Go Gt Gf
section
variable {P : Program} {w : World} {K : PySem.W.Frag} {mg : Str → Option Value} {base : Heap}
/-- the two defs that draw, as they stand -/
structure Draw (P : Program) (w : World) (K : PySem.W.Frag) (mg : Str → Option Value) (base : Heap) (ns : List Int) (fT fP : Addr) (fdT fdP : FuncData) : Prop where
  GT : FnOk P w K mg base CX0 2 fT fdT ["_law_state", "_law_size"] (spTake ns)
  bT : Binds K fdT ["_law_state", "_law_size"] []
  kT : PySem.W.keepIn K (.ref fT) = true
  mT : mg "_law_take" = some (.ref fT)
  GP : FnOk P w K mg base CX0 3 fP fdP ["_law_state", "_law_some"] (spPick K ns)
  bP : Binds K fdP ["_law_state", "_law_some"] []
  kP : PySem.W.keepIn K (.ref fP) = true
  mP : mg "_law_pick" = some (.ref fP)
  len : mg "len" = none
  range : mg "range" = none
/-! ### _law_words -/
abbrev nWords : List Str := ["_law_state", "_law_size", "_law_own", "_law_letters", "_law_found", "_law_k", "_law_word", "_law_j", "_law_letter", "_law_other"]
def spWords (ns : List Int) : Sp := fun vs H Q _ => ∃ (d g c : Addr) (b : Nat) (z : Int), vs = [.ref d, .int z] ∧ Dw ns d g c b H ∧ b ≤ 900000000 ∧ 0 ≤ z ∧ z ≤ 8 ∧
  ∀ (l : Addr) (ws : List Str) (H' : Hp), H l = none → l ≠ d → l ≠ g → H' l = some (.lst (ws.map V.str)) → ws.length = z.toNat → ws.Nodup → (∀ x ∈ ws, nameOk x = true) → Dw ns d g c (b + 200) H' → Kp d g H H' → Q (.ref l) H'
theorem scWords : FnScope nWords ["_law_state", "_law_size"] (defScope sWords) := ⟨rfl, rfl, rfl, by decide +kernel, rfl, by decide +kernel, by decide +kernel⟩
theorem ok_words {f fT fP : Addr} {fd fdT fdP : FuncData} (ns : List Int) (F : Fun K "_law_words" "_law_words" sWords f fd) (R : Draw P w K mg base ns fT fP fdT fdP) : FnOk P w K mg base CX0 4 f fd ["_law_state", "_law_size"] (spWords ns) := by
  refine F.ok scWords (fun vs H Q E h => ?_) (fun cdv A outer s H vs Q E hr h => ?_)
  · obtain ⟨d, g, c, b, z, rfl, _⟩ := h
    rfl
  · obtain ⟨d, g, c, b, z, rfl, D, hb, z0, z8, k⟩ := h
    have hu := hu_of hr
    have nd := scWords.nd
    have hr2 : Room 2 (A.deeper (envOfC "_law_words" (defScope sWords) s.heap.objs.size f cdv)) := hr.mono (by decide)
    refine ⟨_, pss_cons (ps_set (i := 2) nd rfl (.inl rfl) (pe_split pe_str pe_str))
      (pss_cons (ps_asg (pe_tup (pa_cons pe_str (pa_cons (pe_lst pa_nil) pa_nil))) (by exact (pg_tup rfl (pgs_cons (pg_name (i := 3) nd rfl (.inr rfl)) (pgs_cons (pg_name (i := 4) nd rfl (.inr rfl)) pgs_nil)))))
      (pss_cons (ps_for PassesOwn.never rfl (pi_range1 rfl R.range (pa_cons (pv 1) pa_nil)) (pg_name (i := 5) nd rfl (.inl rfl))
        (pss_cons (ps_set (i := 6) nd rfl (.inr rfl) (pe_call R.GP hr rfl R.mP R.kP R.bP .nil pass0 (pa_cons (pv 0) (pa_cons (pv 2) pa_nil))))
        (pss_cons (ps_if (pt_cmpR op_gt (pe_call R.GT hr2 rfl R.mT R.kT R.bT .nil pass0 (pa_cons (pv 0) (pa_cons pe_int pa_nil))) pe_int (nomark _))
          (pss_one (ps_set (i := 6) nd rfl (.inr rfl) (pe_join pe_str (pe_lc (own := [("_law_j", 7)]) (g := gName 7) (tt := tYes) rfl nd (pi_range1 rfl R.range (pa_cons (pe_call R.GP hr rfl R.mP R.kP R.bP .nil pass0 (pa_cons (pv 0) (pa_cons (pe_lst (pa_cons pe_int (pa_cons pe_int (pa_cons pe_int (pa_cons pe_int pa_nil))))) pa_nil))) pa_nil)) (blkOk_by (N := nWords) (sc := defScope sWords) (by decide +kernel))
            (fun _ _ _ _ _ => pg_name (i := 7) nd rfl (.inl rfl)) (fun _ _ _ _ _ => pts_nil) (fun _ _ _ _ _ => pe_call R.GP hr rfl R.mP R.kP R.bP .nil pass0 (pa_cons (pv 0) (pa_cons (pv 3) pa_nil))))))) pss_nil)
        (pss_cons (ps_if (pt_cmpR op_in_seq (pv 6) (pv 4) rfl)
          (pss_one (ps_set (i := 6) nd rfl (.inr rfl) (pe_ix ix_list (pe_lc (own := [("_law_other", 9)]) (g := gName 9) rfl nd (pi_list
              (pe_lc (own := [("_law_letter", 8)]) (g := gName 8) (tt := tYes) rfl nd (pi_str (pv 3)) (blkOk_by (N := nWords) (sc := defScope sWords) (by decide +kernel))
                (fun _ _ _ _ _ => pg_name (i := 8) nd rfl (.inl rfl)) (fun _ _ _ _ _ => pts_nil) (fun _ _ _ _ _ => pe_op op_add_str (pe_op op_add_str (pe_slice sl_str (pv 6) po_none (po_some pe_int)) pe_str) (pv 8)))) (blkOk_by (N := nWords) (sc := defScope sWords) (by decide +kernel))
              (fun _ _ _ _ _ => pg_name (i := 9) nd rfl (.inl rfl)) (fun _ _ _ _ _ => pts_one (pt_cmpR (r := rIn K true) op_notIn_seq (pv 9) (pv 4) rfl)) (fun _ _ _ _ _ => pv 9)) pe_int (fun _ _ => rfl)))) pss_nil)
        (pss_one (ps_expr (pe_bm PySem.F.plainAttrs_list PySem.F.slot_list_append PySem.F.type_list_append mt_append (pv 4) (pa_cons (pv 6) pa_nil))))))))
      (pss_one (ps_ret (pv 4))))), ?_⟩
    have ho1 : (ownText.length : Nat) ≤ 100 := by decide +kernel
    refine ⟨⟨_, rfl⟩, ownText, _, rfl, rfl, by decide +kernel, by rw [sizeLine_eq]; omega, fun o hoN => ?_⟩
    have Do := D.new (o := .lst (owns.map V.str)) hoN
    have hno : o ≠ d := D.nd hoN
    have hgo : o ≠ g := D.ng hoN
    have ho : (upd H o (.lst (owns.map V.str))) o = some (.lst (owns.map V.str)) := upd_same
    have ko : Kp d g H (upd H o (.lst (owns.map V.str))) := Kp.new hoN
    show tSeq _ _ _ _ (upd H o (.lst (owns.map V.str)))
    generalize upd H o (.lst (owns.map V.str)) = H1 at Do ho ko ⊢
    refine ⟨Nat.zero_le _, fun l hl => ?_⟩
    have Dl := Do.new (o := .lst []) hl
    have hnl : l ≠ d := Do.nd hl
    have hgl : l ≠ g := Do.ng hl
    have hcl : l ≠ c := fun e => by rw [e, Do.cl] at hl; cases hl
    have hol : l ≠ o := (ne_of_none ho hl).symm
    have hlH : H l = none := D.free Do ko hl
    have kl : Kp d g H (upd H1 l (.lst [])) := ko.trans (Kp.new hl)
    have ho2 := new_same (o := .lst []) hl _ _ ho
    have hl2 : (upd H1 l (.lst [])) l = some (.lst (([] : List Str).map V.str)) := upd_same
    generalize upd H1 l (.lst []) = H2 at Dl kl ho2 hl2 ⊢
    refine ⟨by show 2 ≤ sizeLine; decide, fun t ht => ?_⟩
    have Dt := Dl.new (o := .tup [.str letters, .ref l]) ht
    have kt : Kp d g H (upd H2 t (.tup [.str letters, .ref l])) := kl.trans (Kp.new ht)
    have ho3 := new_same (o := .tup [.str letters, .ref l]) ht _ _ ho2
    have hl3 := new_same (o := .tup [.str letters, .ref l]) ht _ _ hl2
    refine ⟨t, _, rfl, SqT.of upd_same, rfl, _, _, rfl, _, _, rfl, rfl, ?_⟩
    show tSeq _ _ _ _ (upd H2 t (.tup [.str letters, .ref l]))
    generalize upd H2 t (.tup [.str letters, .ref l]) = H3 at Dt kt ho3 hl3 ⊢
    refine ⟨_, rfl, z, rfl, by omega, by omega, for_range (lo := 0) (n := z.toNat) (fun i σ H' => ∃ (v5 v6 : Option V) (ws : List Str), σ = [some (.ref d), some (.int z), some (.ref o), some (.str letters), some (.ref l), v5, v6, none, none, none] ∧
        H' o = some (.lst (owns.map V.str)) ∧ H' l = some (.lst (ws.map V.str)) ∧ ws.length = i ∧ ws.Nodup ∧ (∀ x ∈ ws, nameOk x = true) ∧ Dw ns d g c (b + 20 * i) H' ∧ Kp d g H H')
      ⟨none, none, [], rfl, ho3, hl3, rfl, List.nodup_nil, (fun x hx => by cases hx), Dt, kt⟩ ?_ ?_⟩
    · rintro i σ H4 hi ⟨v5, v6, ws, rfl, o4, l4, wl, wn, wok, D4, k4⟩
      refine ⟨_, rfl, _, rfl, d, g, c, _, D4, by omega, .inl ⟨o, _, rfl, o4, hno, hgo, by rw [List.length_map, owns_len]; decide, by rw [List.length_map, owns_len]; decide, fun y H5 hy D5 k5 => ?_⟩⟩
      obtain ⟨w0, hw0, rfl⟩ := List.mem_map.mp hy
      have hw0 := owns_ok w0 hw0
      refine ⟨_, rfl, d, g, c, _, 3, rfl, D5, by omega, by decide, by decide, fun r H6 r0 r1 D6 k6 => ?_⟩
      have l6 := k6 _ _ hnl hgl (k5 _ _ hnl hgl l4)
      have o6 := k6 _ _ hno hgo (k5 _ _ hno hgo o4)
      have k46 : Kp d g H H6 := (k4.trans k5).trans k6
      have fin : ∀ (wd : Str) (H' : Hp) (v5' : Option V), nameOk wd = true → wd ∉ ws → H' o = some (.lst (owns.map V.str)) → H' l = some (.lst (ws.map V.str)) → Dw ns d g c (b + 20 * i + 20) H' → Kp d g H H' →
          ∃ (v5 v6 : Option V) (ws' : List Str), [some (.ref d), some (.int z), some (.ref o), some (.str letters), some (.ref l), v5', some (.str wd), none, none, none] = [some (.ref d), some (.int z), some (.ref o), some (.str letters), some (.ref l), v5, v6, none, none, none] ∧
            (upd H' l (.lst (ws.map V.str ++ [V.str wd]))) o = some (.lst (owns.map V.str)) ∧ (upd H' l (.lst (ws.map V.str ++ [V.str wd]))) l = some (.lst (ws'.map V.str)) ∧ ws'.length = i + 1 ∧ ws'.Nodup ∧ (∀ x ∈ ws', nameOk x = true) ∧ Dw ns d g c (b + 20 * (i + 1)) (upd H' l (.lst (ws.map V.str ++ [V.str wd]))) ∧ Kp d g H (upd H' l (.lst (ws.map V.str ++ [V.str wd]))) := by
        intro wd H' v5' h1 h2 h3 h4 h5 h6
        refine ⟨_, _, ws ++ [wd], rfl, by rw [upd_ne hol.symm]; exact h3, by rw [upd_same, List.map_append]; rfl, by rw [List.length_append, wl]; rfl, ?_, fun x hx => ?_, (h5.put h4 hnl hgl hcl).mono (by omega), fun a u n1 n2 ha => ?_⟩
        · refine List.nodup_append.mpr ⟨wn, by simp, fun a ha a' ha' => ?_⟩
          rw [List.mem_singleton] at ha'
          subst ha'
          exact fun e => h2 (e ▸ ha)
        · rcases List.mem_append.mp hx with hx | hx
          · exact wok x hx
          · rw [List.mem_singleton.mp hx]
            exact h1
        · rw [upd_ne (ne_of_none ha hlH)]
          exact h6 a u n1 n2 ha
      refine ⟨_, _, rfl, rfl, _, rfl, ?_⟩
      refine ite2 (fun e => ?A) (fun e => ?B)
      case' A =>
        refine ⟨⟨_, rfl⟩, _, rfl, by show 4 ≤ sizeLine; decide, fun q hq => ?_⟩
        have D7 := D6.new (o := .lst [.int 1, .int 1, .int 2, .int 8]) hq
        refine ⟨d, g, c, _, D7, by omega, .inl ⟨q, _, rfl, upd_same, D6.nd hq, D6.ng hq, by show 0 < 4; decide, by show 4 ≤ 1000000; decide, fun y2 H8 hy2 D8 k8 => ?_⟩⟩
        obtain ⟨j, rfl, j1, j8⟩ := sizes1128 _ hy2
        have l8 := k8 _ _ hnl hgl (new_same (o := .lst [.int 1, .int 1, .int 2, .int 8]) hq _ _ l6)
        have o8 := k8 _ _ hno hgo (new_same (o := .lst [.int 1, .int 1, .int 2, .int 8]) hq _ _ o6)
        have k48 : Kp d g H H8 := (k46.trans (Kp.new hq)).trans k8
        refine ⟨j, rfl, by omega, by omega, fun L hL => ?_⟩
        have nL : L ≠ d := D8.nd hL
        have gL : L ≠ g := D8.ng hL
        have cL : L ≠ c := fun e => by rw [e, D8.cl] at hL; cases hL
        refine lc_range (lo := 0) (n := j.toNat) (fun i' H' => ∃ cs : List Nat, H' L = some (.lst ((cs.map cand.oneS').map V.str)) ∧ cs.length = i' ∧ (∀ x ∈ cs, x ∈ letters.cps.toList) ∧ Dw ns d g c (b + 20 * i + 3 + i') H' ∧ Kp d g H8 H')
          ⟨[], upd_same, rfl, (fun x hx => by cases hx), (D8.new hL).mono (by omega), Kp.new hL⟩ ?_ ?_
        · rintro i' H9 hi' ⟨cs, d9, cl, cok, D9, k9⟩
          refine ⟨rfl, yes_of ?_⟩
          refine ⟨_, rfl, _, rfl, d, g, c, _, D9, by omega, .inr ⟨_, rfl, by decide +kernel, by decide +kernel, fun y3 H10 hy3 D10 k10 => ?_⟩⟩
          have d10 := k10 _ _ nL gL d9
          refine ⟨_, d10, ?_, cs ++ [y3], ?_, by rw [List.length_append, cl]; rfl, fun x hx => ?_, (D10.put d10 nL gL cL).mono (by omega), fun a u n1 n2 ha => ?_⟩
          · rw [List.length_map, List.length_map]
            exact small1000 (by omega)
          · rw [upd_same, List.map_append, List.map_append]
            rfl
          · rcases List.mem_append.mp hx with hx | hx
            · exact cok x hx
            · rw [List.mem_singleton.mp hx]
              exact hy3
          · rw [upd_ne (ne_of_none ha hL)]
            exact k10 _ _ n1 n2 (k9 _ _ n1 n2 ha)
        rintro H9 ⟨cs, d9, cl, cok, D9, k9⟩
        have jw : nameOk (Txt.join Str.empty (cs.map cand.oneS')) = true := by
          have e9 := join_signs cs
          refine nameOk_of ?_ ?_ (fun x hx => ?_)
          · rw [← len_cps, e9]; omega
          · rw [← len_cps, e9]; omega
          · rw [e9] at hx
            exact cok x hx
        refine ⟨_, L, cs.map cand.oneS', rfl, rfl, .inl (SqL.of d9), ?_, ?_⟩
        · have e0 : ("" : Str).length = 0 := by decide +kernel
          have hs := sum_le (fun y : Str => y.length) (b := 1) (cs.map cand.oneS') fun x hx => by
            obtain ⟨x', _, rfl⟩ := List.mem_map.mp hx
            exact Nat.le_refl 1
          rw [List.length_map] at hs ⊢
          rw [e0]
          omega
        rw [e_eq]
        obtain ⟨wd, hwd, hwk⟩ : ∃ wd, wd = Txt.join Str.empty (cs.map cand.oneS') ∧ nameOk wd = true := ⟨_, rfl, jw⟩
        rw [← hwd]
        have lT := k9 _ _ hnl hgl l8
        have oT := k9 _ _ hno hgo o8
        have kT : Kp d g H H9 := k48.trans k9
        have DT : Dw ns d g c (b + 20 * i + 15) H9 := D9.mono (by omega)
        generalize H9 = HT at lT oT kT DT ⊢
      case' B =>
        obtain ⟨wd, hwd, hwk⟩ : ∃ wd, wd = w0 ∧ nameOk wd = true := ⟨_, rfl, hw0⟩
        rw [← hwd]
        have lT := l6
        have oT := o6
        have kT := k46
        have DT : Dw ns d g c (b + 20 * i + 15) H6 := D6.mono (by omega)
        generalize H6 = HT at lT oT kT DT ⊢
      all_goals
        refine ⟨_, rfl, _, rfl, l, _, rfl, .inl (SqL.of lT), rfl, strs_flat ws, _, rfl, ?_⟩
        rw [inV_strs]
        refine ite2 (fun e => ?_) (fun e => ?_)
        · have hwl := (name_len hwk).2
          refine ⟨_, rfl, letters, rfl, fun D1 hD1 => ?_⟩
          refine lc_it walk_str (fun i' H' => H' D1 = some (.lst (((letters.cps.toList.take i').map (cand wd)).map V.str)) ∧ Ext HT H') ⟨upd_same, Ext.new hD1⟩ (fun _ _ _ _ => trivial) ?_ ?_
          · rintro i' y H1' H2' hi' ⟨hd', he'⟩ ⟨rfl, c', hc', rfl⟩
            have hc2 := cps_at hc'
            refine ⟨rfl, yes_of ?_⟩
            have h6 := cut6 wd
            refine ⟨_, rfl, 6, rfl, wd, rfl, by rw [sizeLine_eq]; omega, _, _, rfl, rfl, by rw [z_len, sizeLine_eq]; omega, _, rfl, _, _, rfl, rfl, by rw [strlen, z_len, sizeLine_eq]; show _ + 1 + 1 ≤ _; omega, _, hd', ?_, ?_, fun a u ha => ?_⟩
            · have : letters.cps.toList.length = 26 := by decide +kernel
              rw [List.length_map, List.length_map, List.length_take]
              exact small1000 (by omega)
            · rw [upd_same, take_succ_map (cand wd) hc2, List.map_append]
              rfl
            · rw [upd_ne (ne_of_none ha hD1)]
              exact he' _ _ ha
          rintro H1' ⟨hd', he'⟩
          rw [← cps_len, List.take_length] at hd'
          have hd' : H1' D1 = some (.lst ((cands wd).map V.str)) := hd'
          have oT1 := he' _ _ oT
          have lT1 := he' _ _ lT
          refine ⟨D1, rfl, ⟨_, SqL.of hd'⟩, fun D2 hD2 => ?_⟩
          refine lc_it walk_list (fun i' H' => H' D2 = some (.lst ((((cands wd).take i').filter (fun y => !decide (y ∈ ws))).map V.str)) ∧ Ext H1' H') ⟨upd_same, Ext.new hD2⟩ (fun i H' _ ⟨_, e⟩ => SqL.of (e _ _ hd')) ?_ ?_
          · rintro i' y H2' H3' hi' ⟨d2, k2⟩ ⟨rfl, hy⟩
            rw [List.getElem?_map] at hy
            obtain ⟨x, hx, rfl⟩ := Option.map_eq_some_iff.mp hy
            have ef := filter_take (fun y => !decide (y ∈ ws)) hx
            refine ⟨rfl, _, rfl, _, rfl, l, _, rfl, .inl (SqL.of (k2 _ _ lT1)), rfl, strs_flat ws, ?_⟩
            show ∃ b, V.bl (!inV (.str x) (ws.map V.str)) = V.bl b ∧ _
            rw [inV_strs]
            refine ⟨_, rfl, ite2 (fun e => ?_) (fun e => ?_)⟩
            · rw [if_pos e] at ef
              refine ⟨_, rfl, _, d2, ?_, ?_, fun a u ha => ?_⟩
              · have h1 := List.length_filter_le (fun y => !decide (y ∈ ws)) ((cands wd).take i')
                rw [List.length_take, cands_len] at h1
                rw [List.length_map]
                exact small1000 (by omega)
              · rw [upd_same, ef, List.map_append]
                rfl
              · rw [upd_ne (ne_of_none ha hD2)]
                exact k2 _ _ ha
            · rw [if_neg e, List.append_nil] at ef
              exact ⟨by rw [ef]; exact d2, k2⟩
          rintro H2' ⟨d2, k2⟩
          rw [List.length_map, List.take_length] at d2
          obtain ⟨w1, rst, e1, m1, n1⟩ := fresh_cand wd (fs := ws) (by omega)
          rw [e1] at d2
          have w1ok : nameOk w1 = true := by
            obtain ⟨c', hc', rfl⟩ := List.mem_map.mp m1
            exact cand_ok (lo_of hwk) hc'
          refine ⟨D2, _, _, V.str w1, rfl, rfl, SqL.of d2, (show atI (V.str w1 :: rst.map V.str) ((0 : Nat) : Int) = some (V.str w1) from atI_nat rfl), ?_⟩
          have lT2 := k2 _ _ lT1
          refine ⟨_, rfl, .inl ⟨rfl, _, SqL.of lT2⟩, _, rfl, l, _, _, rfl, rfl, lT2, by rw [List.length_map]; exact small1000 (by omega), ?_⟩
          exact fin _ _ _ w1ok n1 (k2 _ _ oT1) lT2 ((DT.keep fun a u ha => k2 _ _ (he' _ _ ha)).mono (by omega)) (kT.trans (Kp.of fun a u ha => k2 _ _ (he' _ _ ha)))
        · have e : wd ∉ ws := fun m => e (decide_eq_true m)
          refine ⟨_, rfl, .inl ⟨rfl, _, SqL.of lT⟩, _, rfl, l, _, _, rfl, rfl, lT, by rw [List.length_map]; exact small1000 (by omega), ?_⟩
          exact fin _ _ _ hwk e oT lT (DT.mono (by omega)) kT
    · rintro σ H4 ⟨v5, v6, ws, rfl, o4, l4, wl, wn, wok, D4, k4⟩
      exact ⟨_, rfl, k l ws H4 hlH hnl hgl l4 wl wn wok (D4.mono (by omega)) k4⟩
end
theorem RowsAt.kp {ns : List Int} {d g c : Addr} {b : Nat} {H H' : Hp} {vs : List V} {rs : List FRow} (h : RowsAt H vs rs) (D : Dw ns d g c b H) (k : Kp d g H H') : RowsAt H' vs rs := by
  obtain ⟨⟨gs, l, t, hd, hg, _, _⟩, _⟩ := D
  exact ⟨h.1, fun i r hr => by
    obtain ⟨p, a, e⟩ := h.2 i r hr
    exact ⟨p, a, k _ _ (ne_of e hd (by intro z; cases z)) (ne_of e hg (by intro z; cases z)) e⟩⟩
theorem RowsAt.snoc {H : Hp} {vs : List V} {rs : List FRow} {p : Addr} {r : FRow} (h : RowsAt H vs rs) (hp : H p = some (.tup [.str r.1, parV r.2])) : RowsAt H (vs ++ [V.ref p]) (rs ++ [r]) := by
  refine ⟨by rw [List.length_append, List.length_append, h.1]; rfl, fun i x hx => ?_⟩
  by_cases e : i < rs.length
  · rw [List.getElem?_append_left e] at hx
    rw [List.getElem?_append_left (by rw [h.1]; exact e)]
    exact h.2 i x hx
  · rw [List.getElem?_append_right (by omega)] at hx
    rw [List.getElem?_append_right (by rw [h.1]; omega), h.1]
    have z : i - rs.length = 0 := by
      have := (List.getElem?_eq_some_iff.mp hx).1
      simpa using this
    rw [z] at hx ⊢
    cases hx
    exact ⟨p, rfl, hp⟩
section
variable {P : Program} {w : World} {K : PySem.W.Frag} {mg : Str → Option Value} {base : Heap}
/-! ### _law_forest -/
def spForest (ns : List Int) : Sp := fun vs H Q _ => ∃ (d g c : Addr) (b : Nat) (m : Int), vs = [.ref d, .int m] ∧ Dw ns d g c b H ∧ b ≤ 800000000 ∧ 1 ≤ m ∧ m ≤ 8 ∧
  ∀ (l : Addr) (xs : List V) (rs : List FRow) (H' : Hp), H l = none → l ≠ d → l ≠ g → H' l = some (.lst xs) → RowsAt H' xs rs → Good rs → Dw ns d g c (b + 300) H' → Kp d g H H' → Q (.ref l) H'
abbrev nForest : List Str := ["_law_state", "_law_most", "_law_rows", "_law_word", "_law_parents", "_law_row"]
theorem scForest : FnScope nForest ["_law_state", "_law_most"] (defScope sForest) := ⟨rfl, rfl, rfl, by decide +kernel, rfl, by decide +kernel, by decide +kernel⟩
theorem ok_forest {f fT fP fW : Addr} {fd fdT fdP fdW : FuncData} (ns : List Int) (F : Fun K "_law_forest" "_law_forest" sForest f fd) (R : Draw P w K mg base ns fT fP fdT fdP)
    (GW : FnOk P w K mg base CX0 4 fW fdW ["_law_state", "_law_size"] (spWords ns)) (bW : Binds K fdW ["_law_state", "_law_size"] []) (kW : PySem.W.keepIn K (.ref fW) = true) (mW : mg "_law_words" = some (.ref fW)) :
    FnOk P w K mg base CX0 5 f fd ["_law_state", "_law_most"] (spForest ns) := by
  refine F.ok scForest (fun vs H Q E h => ?_) (fun cdv A outer s H vs Q E hr h => ?_)
  · obtain ⟨d, g, c, b, m, rfl, _⟩ := h
    rfl
  · obtain ⟨d, g, c, b, m, rfl, D, hb, m1, m8, k⟩ := h
    have hu := hu_of hr
    have nd := scForest.nd
    have hr2 : Room 2 (A.deeper (envOfC "_law_forest" (defScope sForest) s.heap.objs.size f cdv)) := hr.mono (by decide)
    have hr3 : Room 3 (A.deeper (envOfC "_law_forest" (defScope sForest) s.heap.objs.size f cdv)) := hr.mono (by decide)
    refine ⟨_, pss_cons (ps_set (i := 2) nd rfl (.inl rfl) (pe_lst pa_nil))
      (pss_cons (ps_for PassesOwn.never rfl (pi_list (pe_call GW hr rfl mW kW bW .nil pass0 (pa_cons (pv 0) (pa_cons (pe_op op_add pe_int (pe_call R.GT hr2 rfl R.mT R.kT R.bT .nil pass0 (pa_cons (pv 0) (pa_cons (pv 1) pa_nil)))) pa_nil)))) (pg_name (i := 3) nd rfl (.inl rfl))
        (pss_cons (ps_set (i := 4) nd rfl (.inl rfl) (pe_op op_cat (pe_lst (pa_cons pe_non pa_nil)) (pe_lc (own := [("_law_row", 5)]) (g := gName 5) (tt := tYes) rfl nd (pi_list (pv 2)) (blkOk_by (N := nForest) (sc := defScope sForest) (by decide +kernel))
            (fun _ _ _ _ _ => pg_name (i := 5) nd rfl (.inl rfl)) (fun _ _ _ _ _ => pts_nil) (fun _ _ _ _ _ => pe_ix (r := rIxT K) ix_tup (pv 5) pe_int (fun _ _ => rfl)))))
        (pss_one (ps_expr (pe_bm PySem.F.plainAttrs_list PySem.F.slot_list_append PySem.F.type_list_append mt_append (pv 2) (pa_cons (pe_tup (pa_cons (pv 3) (pa_cons (pe_call R.GP hr3 rfl R.mP R.kP R.bP .nil pass0 (pa_cons (pv 0) (pa_cons (pv 4) pa_nil))) pa_nil))) pa_nil))))))
      (pss_one (ps_ret (pv 2)))), ?_⟩
    refine ⟨Nat.zero_le _, fun l hl => ?_⟩
    have Dl := D.new (o := .lst []) hl
    have hnl : l ≠ d := D.nd hl
    have hgl : l ≠ g := D.ng hl
    have hcl : l ≠ c := fun e => by rw [e, D.cl] at hl; cases hl
    have kl : Kp d g H (upd H l (.lst [])) := Kp.new hl
    have hl1 : (upd H l (.lst [])) l = some (.lst []) := upd_same
    show tSeq _ _ _ _ (upd H l (.lst []))
    generalize upd H l (.lst []) = H1 at Dl kl hl1 ⊢
    refine ⟨_, rfl, _, rfl, _, rfl, d, g, c, _, m, rfl, Dl, by omega, by omega, by omega, fun r H2 r0 r1 D2 k2 => ?_⟩
    refine ⟨1, r, rfl, rfl, d, g, c, _, 1 + r, rfl, D2, by omega, by omega, by omega, fun lw ws H3 lw0 lwd lwg hlw wl wn wok D3 k3 => ?_⟩
    have l3 := k3 _ _ hnl hgl (k2 _ _ hnl hgl hl1)
    have k03 : Kp d g H H3 := (kl.trans k2).trans k3
    refine ⟨lw, rfl, ⟨_, SqL.of hlw⟩, for_it walk_list (fun i σ H' => ∃ (v3 v4 : Option V) (xs : List V) (rs : List FRow), σ = [some (.ref d), some (.int m), some (.ref l), v3, v4, none] ∧ H' l = some (.lst xs) ∧ H' lw = some (.lst (ws.map V.str)) ∧
        RowsAt H' xs rs ∧ fNames rs = ws.take i ∧ GoodF [] rs ∧ Dw ns d g c (b + 1 + 200 + 2 * i) H' ∧ Kp d g H H')
      ⟨none, none, [], [], rfl, l3, hlw, ⟨rfl, fun i r h => by simp at h⟩, rfl, trivial, D3, k03⟩ (fun i σ H' _ ⟨_, _, _, _, _, _, e, _⟩ => SqL.of e) ?_ ?_⟩
    · rintro i y σ H4 H5 hi ⟨v3, v4, xs, rs, rfl, l4, lw4, R4, fn, gf, D4, k4⟩ ⟨rfl, hy⟩
      rw [List.length_map] at hi
      rw [List.getElem?_map, List.getElem?_eq_getElem hi] at hy
      cases hy
      have hrl : rs.length = i := by
        have := congrArg List.length fn
        rw [fNames, List.length_map, List.length_take] at this
        omega
      have hi8 : i ≤ 8 := by omega
      refine ⟨by show 1 ≤ sizeLine; decide, fun a ha => ?_⟩
      have Da := D4.new (o := .lst [.non]) ha
      have nda : a ≠ d := D4.nd ha
      have nga : a ≠ g := D4.ng ha
      have ka : Ext H5 (upd H5 a (.lst [.non])) := Ext.new ha
      have ha1 : (upd H5 a (.lst [.non])) a = some (.lst [.non]) := upd_same
      have l5 := ka _ _ l4
      have R5 := R4.ext ka
      refine ⟨_, rfl, l, rfl, ⟨_, SqL.of l5⟩, fun D' hD' => ?_⟩
      refine lc_it walk_list (fun i' H' => H' D' = some (.lst (((fNames rs).take i').map V.str)) ∧ Ext (upd H5 a (.lst [.non])) H') ⟨upd_same, Ext.new hD'⟩ (fun i' H' _ ⟨_, e⟩ => SqL.of (e _ _ l5)) ?_ ?_
      · rintro i' y H6 H7 hi' ⟨d6, k6⟩ ⟨rfl, hy⟩
        have hir : i' < rs.length := by have := R4.1; omega
        obtain ⟨p, h1, h2⟩ := R5.2 i' _ (List.getElem?_eq_getElem hir)
        rw [h1] at hy
        cases hy
        refine ⟨rfl, yes_of ?_⟩
        refine ⟨_, rfl, p, _, _, _, rfl, rfl, SqT.of (k6 _ _ h2), (show atI [V.str rs[i'].1, parV rs[i'].2] ((0 : Nat) : Int) = some (V.str rs[i'].1) from atI_nat rfl), _, d6, ?_, ?_, fun b' o hb' => ?_⟩
        · rw [List.length_map, List.length_take, fNames, List.length_map]
          exact small1000 (by omega)
        · rw [upd_same, List.take_add_one, List.map_append]
          have : (fNames rs)[i']? = some rs[i'].1 := by rw [fNames, List.getElem?_map, List.getElem?_eq_getElem hir]; rfl
          rw [this]
          rfl
        · rw [upd_ne (ne_of_none hb' hD')]
          exact k6 _ _ hb'
      rintro H6 ⟨d6, k6⟩
      have e0 : (fNames rs).take xs.length = fNames rs := by
        rw [R4.1]
        exact List.take_of_length_le (by rw [fNames, List.length_map]; exact Nat.le_refl _)
      rw [e0] at d6
      refine ⟨a, D', _, _, rfl, rfl, k6 _ _ ha1, d6, ?_, fun q hq => ?_⟩
      · rw [List.length_map, fNames, List.length_map, sizeLine_eq]
        show 1 + _ ≤ _
        omega
      have D6 : Dw ns d g c (b + 1 + 200 + 2 * i) H6 := Da.keep k6
      have k56 : Ext H5 H6 := ka.trans k6
      have Dq := D6.new (o := .lst ([.non] ++ (fNames rs).map V.str)) hq
      have hq1 : (upd H6 q (.lst ([.non] ++ (fNames rs).map V.str))) q = some (.lst ([.non] ++ (fNames rs).map V.str)) := upd_same
      have kq : Ext H5 (upd H6 q (.lst ([.non] ++ (fNames rs).map V.str))) := k56.trans (Ext.new hq)
      have ndq : q ≠ d := D6.nd hq
      have ngq : q ≠ g := D6.ng hq
      show tSeq _ _ _ _ (upd H6 q (.lst ([.non] ++ (fNames rs).map V.str)))
      generalize upd H6 q (.lst ([.non] ++ (fNames rs).map V.str)) = H7 at Dq hq1 kq ⊢
      refine ⟨_, rfl, .inl ⟨rfl, _, SqL.of (kq _ _ l4)⟩, _, rfl, _, rfl, _, rfl, d, g, c, _, Dq, by omega, .inl ⟨q, _, rfl, hq1, ndq, ngq, ?_, ?_, fun x H8 hx D8 k8 => ?_⟩⟩
      · show 0 < _ + 1
        omega
      · rw [List.length_append, List.length_map, fNames, List.length_map]
        show 1 + _ ≤ _
        omega
      obtain ⟨pq, rfl, hpq⟩ : ∃ pq : Option Str, x = parV pq ∧ ∀ mm, pq = some mm → mm ∈ fNames rs := by
        rcases List.mem_append.mp hx with hx | hx
        · rw [List.mem_singleton.mp hx]
          exact ⟨none, rfl, fun mm e => by cases e⟩
        · obtain ⟨mm, hm, rfl⟩ := List.mem_map.mp hx
          exact ⟨some mm, rfl, fun m' e => by cases e; exact hm⟩
      refine ⟨by show 2 ≤ sizeLine; decide, fun t ht => ?_⟩
      have R8 : RowsAt H8 xs rs := (R4.ext kq).kp Dq k8
      have R9 := RowsAt.snoc (r := (ws[i], pq)) (R8.ext (Ext.new (o := .tup [.str ws[i], parV pq]) ht)) upd_same
      have l8 := k8 _ _ hnl hgl (kq _ _ l4)
      have l9 := new_same (o := .tup [.str ws[i], parV pq]) ht _ _ l8
      have lw8 := k8 _ _ lwd lwg (kq _ _ lw4)
      have lw9 := new_same (o := .tup [.str ws[i], parV pq]) ht _ _ lw8
      have D9 := D8.new (o := .tup [.str ws[i], parV pq]) ht
      have nlw : lw ≠ l := fun e => by rw [e] at lw0; rw [k2 _ _ hnl hgl hl1] at lw0; cases lw0
      have k9 : Kp d g H (upd H8 t (.tup [.str ws[i], parV pq])) := ((k4.trans (Kp.of kq)).trans k8).trans (Kp.new ht)
      generalize upd H8 t (.tup [.str ws[i], parV pq]) = H9 at R9 l9 lw9 D9 k9 ⊢
      have xl : xs.length = rs.length := R4.1
      refine ⟨l, _, _, rfl, rfl, l9, small1000 (by omega), ?_⟩
      refine ⟨_, _, xs ++ [.ref t], rs ++ [(ws[i], pq)], rfl, upd_same, by rw [upd_ne nlw]; exact lw9, ⟨R9.1, fun j r' hj => ?_⟩, ?_, good_snoc gf ?_, (D9.put l9 hnl hgl hcl).mono (by omega), fun a' o n1 n2 ha' => ?_⟩
      · obtain ⟨p, b1, b2⟩ := R9.2 j r' hj
        refine ⟨p, b1, ?_⟩
        rw [upd_ne (ne_of b2 l9 (by intro z; cases z))]
        exact b2
      · show fNames (rs ++ [(ws[i], pq)]) = _
        rw [fNames, List.map_append, List.take_add_one, List.getElem?_eq_getElem hi]
        show fNames rs ++ [ws[i]] = _
        rw [fn]
        rfl
      · rw [List.nil_append, fn]
        refine ⟨wok _ (List.getElem_mem hi), fun hm => ?_, fun mm e => by rw [← fn]; exact hpq mm e⟩
        have hm : ws[i] ∈ ws.take i := hm
        obtain ⟨j, hj⟩ := List.mem_iff_getElem?.mp hm
        have hji : j < i := by
          have := (List.getElem?_eq_some_iff.mp hj).1
          rw [List.length_take] at this
          omega
        rw [List.getElem?_take_of_lt hji] at hj
        have hjl : j < ws.length := by omega
        rw [List.getElem?_eq_getElem hjl] at hj
        exact (List.pairwise_iff_getElem.mp wn) j i hjl hi hji (Option.some.inj hj)
      · rw [upd_ne (ne_of_none ha' hl)]
        exact k9 _ _ n1 n2 ha'
    · rintro σ H4 ⟨v3, v4, xs, rs, rfl, l4, lw4, R4, fn, gf, D4, k4⟩
      refine ⟨_, rfl, ?_⟩
      have hrl : rs.length = ws.length := by
        have := congrArg List.length fn
        rw [fNames, List.length_map, List.length_take, List.length_map] at this
        omega
      rw [List.length_map] at D4
      exact k l xs rs H4 hl hnl hgl l4 R4 ⟨by omega, by omega, gf⟩ (D4.mono (by omega)) k4
end
end Lw

set_option Elab.async false
set_option linter.all false
set_option maxRecDepth 100000
set_option maxHeartbeats 4000000
/-! readings that ask more than they need; a list or a tuple walked; dicts of numbers by names -/
namespace Gu
open L2 hiding Ext
open PySem PySem.Spec PyProof.Rows Gn Gk
theorem wT {X : Cx} {e : Expr} {t t' : TT} (h : PT X e t) (w : ∀ σ H k, t' σ H k → t σ H k) : PT X e t' :=
  ⟨fun pins s σ H Q I z => h.run pins s σ H Q I (w _ _ _ z)⟩
theorem wE {X : Cx} {e : Expr} {t t' : TE} (h : PE X e t) (w : ∀ σ H k, t' σ H k → t σ H k) : PE X e t' :=
  ⟨fun pins s σ H Q I z => h.run pins s σ H Q I (w _ _ _ z)⟩
theorem wS {X : Cx} {e : Stmt} {t t' : TS} (h : PS X e t) (w : ∀ D σ H, t' D σ H → t D σ H) : PS X e t' :=
  ⟨fun pins s σ H D I z => h.run pins s σ H D I (w _ _ _ z)⟩
theorem wI {X : Cx} {tg e : Expr} {t t' : TI} (h : PI X tg e t) (w : ∀ σ H R, t' σ H R → t σ H R) : PI X tg e t' :=
  ⟨fun pins s σ H R I z => h.run pins s σ H R I (w _ _ _ z)⟩
theorem iOr {X : Cx} {tg e : Expr} {t t' : TI} (h : PI X tg e t) (h' : PI X tg e t') : PI X tg e (fun σ H R => t σ H R ∨ t' σ H R) :=
  ⟨fun pins s σ H R I z => z.elim (h.run pins s σ H R I) (h'.run pins s σ H R I)⟩
/-- a list or a tuple -/
def ClAt (H : Hp) (a : Addr) (xs : List V) : Prop := H a = some (.lst xs) ∨ H a = some (.tup xs)
theorem ClAt.ext {H H' : Hp} {a : Addr} {xs : List V} (h : ClAt H a xs) (k : Ext H H') : ClAt H' a xs := h.elim (fun e => .inl (k _ _ e)) (fun e => .inr (k _ _ e))
theorem ClAt.sq {K : PySem.W.Frag} {H : Hp} {a : Addr} {xs : List V} (h : ClAt H a xs) : SqL K H a xs ∨ SqT K H a xs := h.elim (fun e => .inl (SqL.of e)) (fun e => .inr (SqT.of e))
theorem wW {J : It} {n : Nat} {G G' : Hp → Prop} {Y : Nat → Hp → V → Hp → Prop} (h : Walk J n G Y) (k : ∀ H, G' H → G H) : Walk J n G' Y :=
  ⟨fun i H hi g => h.goes i H hi (k H g), fun H g => h.stops H (k H g), fun i H x H' hi g y => h.yields i H x H' hi (k H g) y⟩
/-- what a walk over it gives, wherever it stands as it did -/
def iSeqV (i : Nat) : TI := fun σ H R => ∃ (a : Addr) (xs : List V), σ[i]? = some (some (.ref a)) ∧ ClAt H a xs ∧ ∀ J, Walk J xs.length (fun H' => H' a = H a) (YAt xs) → R J H
theorem pi_seqV {X : Cx} {tg e : Expr} {i : Nat} (h : PE X e (tVar i)) : PI X tg e (iSeqV i) := by
  refine wI (iOr (pi_list h) (pi_tup h)) fun σ H R ⟨a, xs, hi, hc, k⟩ => ?_
  rcases hc with hc | hc
  · exact .inl ⟨_, hi, a, rfl, ⟨_, SqL.of hc⟩, k _ (wW walk_list fun H' e => SqL.of (e.trans hc))⟩
  · exact .inr ⟨_, hi, a, rfl, ⟨_, SqT.of hc⟩, k _ (wW walk_tup fun H' e => SqT.of (e.trans hc))⟩
/-- a dict of numbers, by the names in their order -/
def dN (ns : List Str) (t : Str → Int) : List (Key × V) := ns.map fun n => ((Sum.inr n : Key), V.int (t n))
def at_ (t : Str → Int) (n : Str) (z : Int) : Str → Int := fun m => if m = n then z else t m
theorem at_same {t : Str → Int} {n : Str} {z : Int} : at_ t n z n = z := if_pos rfl
theorem at_ne {t : Str → Int} {n m : Str} {z : Int} (h : m ≠ n) : at_ t n z m = t m := if_neg h
theorem dN_get {t : Str → Int} {n : Str} : ∀ {ns : List Str}, n ∈ ns → valV (dN ns t) (Sum.inr n : Key) = some (.int (t n))
  | [], h => by cases h
  | m :: r, h => by
    show valV (((Sum.inr m : Key), V.int (t m)) :: dN r t) _ = _
    by_cases e : m = n
    · subst e; exact valV_pos rfl
    · rw [valV_neg (fun z => e (Sum.inr.inj z))]
      exact dN_get ((List.mem_cons.mp h).resolve_left fun z => e z.symm)
theorem dN_put {t : Str → Int} {n : Str} {z : Int} {ns : List Str} (h : n ∈ ns) : putK (dN ns t) (Sum.inr n : Key) (.int z) = dN ns (at_ t n z) := by
  have e : ((dN ns t).any fun kv => decide (kv.1 = (Sum.inr n : Key))) = true := by
    unfold dN
    rw [List.any_map, List.any_eq_true]
    exact ⟨n, h, by simp⟩
  unfold putK
  rw [if_pos e]
  unfold dN
  rw [List.map_map]
  refine List.map_congr_left fun m hm => ?_
  show (if (Sum.inr m : Key) = Sum.inr n then ((Sum.inr m : Key), V.int z) else ((Sum.inr m : Key), V.int (t m))) = _
  by_cases em : m = n
  · subst em
    rw [if_pos rfl, at_same]
  · rw [if_neg (fun z => em (Sum.inr.inj z)), at_ne em]
theorem dN_len {ns : List Str} {t : Str → Int} : (dN ns t).length = ns.length := by unfold dN; rw [List.length_map]
/-- a dict of numbers, by some names -/
def dB (bs : List (Str × Int)) : List (Key × V) := bs.map fun p => ((Sum.inr p.1 : Key), V.int p.2)
theorem dB_dN (ns : List Str) (t : Str → Int) : dB (ns.map fun n => (n, t n)) = dN ns t := by unfold dB dN; rw [List.map_map]; rfl
theorem dB_get : ∀ {bs : List (Str × Int)} {p : Str × Int}, (bs.map (·.1)).Nodup → p ∈ bs → valV (dB bs) (Sum.inr p.1 : Key) = some (.int p.2)
  | [], _, _, h => by cases h
  | q :: r, p, hn, h => by
    show valV (((Sum.inr q.1 : Key), V.int q.2) :: dB r) _ = _
    obtain ⟨n1, n2⟩ := List.nodup_cons.mp (show (q.1 :: r.map (·.1)).Nodup from hn)
    rcases List.mem_cons.mp h with rfl | h
    · exact valV_pos rfl
    · have ne : ¬ q.1 = p.1 := fun e => n1 (by rw [e]; exact List.mem_map.mpr ⟨p, h, rfl⟩)
      rw [valV_neg (fun z => ne (Sum.inr.inj z))]
      exact dB_get n2 h
theorem dB_none {n : Str} : ∀ {bs : List (Str × Int)}, n ∉ bs.map (·.1) → valV (dB bs) (Sum.inr n : Key) = none
  | [], _ => rfl
  | q :: r, h => by
    show valV (((Sum.inr q.1 : Key), V.int q.2) :: dB r) _ = _
    have ne : ¬ q.1 = n := fun e => h (by rw [← e]; exact List.mem_cons_self ..)
    rw [valV_neg (fun z => ne (Sum.inr.inj z))]
    exact dB_none fun m => h (List.mem_cons_of_mem _ m)
/-- pairs of a name and a number, as tuples in the heap -/
def CsAt (H : Hp) (vs : List V) (cs : List (Str × Int)) : Prop := vs.length = cs.length ∧ ∀ (i : Nat) (c : Str × Int), cs[i]? = some c → ∃ p, vs[i]? = some (V.ref p) ∧ H p = some (.tup [.str c.1, .int c.2])
theorem CsAt.ext {H H' : Hp} {vs : List V} {cs : List (Str × Int)} (h : CsAt H vs cs) (k : Ext H H') : CsAt H' vs cs :=
  ⟨h.1, fun i c hc => by obtain ⟨p, a, b⟩ := h.2 i c hc; exact ⟨p, a, k _ _ b⟩⟩
theorem CsAt.get {H : Hp} {vs : List V} {cs : List (Str × Int)} (h : CsAt H vs cs) {i : Nat} {x : V} (hx : vs[i]? = some x) : ∃ (c : Str × Int) (p : Addr), cs[i]? = some c ∧ x = .ref p ∧ H p = some (.tup [.str c.1, .int c.2]) := by
  have hi : i < cs.length := by rw [← h.1]; exact (List.getElem?_eq_some_iff.mp hx).1
  obtain ⟨p, a, b⟩ := h.2 i _ (List.getElem?_eq_getElem hi)
  rw [hx] at a
  cases a
  exact ⟨_, p, List.getElem?_eq_getElem hi, rfl, b⟩
theorem CsAt.nil {H : Hp} : CsAt H [] [] := ⟨rfl, fun i c h => by cases h⟩
theorem CsAt.snoc {H : Hp} {vs : List V} {cs : List (Str × Int)} {p : Addr} {c : Str × Int} (h : CsAt H vs cs) (hp : H p = some (.tup [.str c.1, .int c.2])) : CsAt H (vs ++ [V.ref p]) (cs ++ [c]) := by
  refine ⟨by rw [List.length_append, List.length_append, h.1]; rfl, fun i c' hc => ?_⟩
  rcases Nat.lt_or_ge i cs.length with hi | hi
  · rw [List.getElem?_append_left hi] at hc
    rw [List.getElem?_append_left (by rw [h.1]; exact hi)]
    exact h.2 i c' hc
  · rw [List.getElem?_append_right hi] at hc
    rw [List.getElem?_append_right (by rw [h.1]; exact hi), h.1]
    cases e : i - cs.length with
    | zero => rw [e] at hc; cases hc; exact ⟨p, rfl, hp⟩
    | succ k => rw [e] at hc; cases hc
theorem CsAt.kp {ns : List Int} {d g c : Addr} {b : Nat} {H H' : Hp} {vs : List V} {cs : List (Str × Int)} (h : CsAt H vs cs) (D : Dw ns d g c b H) (k : Kp d g H H') : CsAt H' vs cs := by
  obtain ⟨⟨gs, l, t, hd, hg, _, _⟩, _⟩ := D
  exact ⟨h.1, fun i r hr => by
    obtain ⟨p, a, e⟩ := h.2 i r hr
    exact ⟨p, a, k _ _ (ne_of e hd (by intro z; cases z)) (ne_of e hg (by intro z; cases z)) e⟩⟩
/-- a dict that is walked is locked meanwhile -/
theorem lock_ext {H H' : Hp} {d : Addr} {u : HO} {od : Obj} (hd : H d = some u) (k : Ext (upd H d (.frz od u)) H') : Ext H (upd H' d u) := fun a o e => by
  by_cases n : a = d
  · subst n
    rw [upd_same, ← hd, e]
  · rw [upd_ne n]
    exact k _ _ (by rw [upd_ne n]; exact e)
theorem lock_in {H : Hp} {d a : Addr} {u o : HO} {od : Obj} (n : a ≠ d) (e : H a = some o) : upd H d (.frz od u) a = some o := by rw [upd_ne n]; exact e
theorem keys_none : ∀ {kvs : List (Key × V)} {k : Key}, k ∉ kvs.map (·.1) → valV kvs k = none
  | [], _, _ => rfl
  | p :: r, k, h => by
    have h1 : ¬ p.1 = k := fun e => h (by rw [← e]; exact List.mem_cons_self ..)
    rw [valV_neg h1]
    exact keys_none fun m => h (List.mem_cons_of_mem _ m)
theorem merge_app : ∀ (more acc : List (Key × V)), ((acc ++ more).map (·.1)).Nodup → mergeK acc more = acc ++ more
  | [], acc, _ => by rw [List.append_nil]; rfl
  | p :: r, acc, h => by
    have hn : p.1 ∉ acc.map (·.1) := by
      intro m
      rw [List.map_append] at h
      exact (List.nodup_append.mp h).2.2 _ m p.1 (List.mem_cons_self ..) rfl
    show mergeK (putK acc p.1 p.2) r = _
    rw [putK_new _ (keys_none hn), merge_app r (acc ++ [(p.1, p.2)]) (by rw [List.append_assoc]; exact h), List.append_assoc]
    rfl
theorem merge_self {kvs : List (Key × V)} (h : (kvs.map (·.1)).Nodup) : mergeK [] kvs = kvs := merge_app kvs [] h
theorem nodup_inr {α : Type} (f : α → Str) : ∀ {l : List α}, (l.map f).Nodup → (l.map fun x => (Sum.inr (f x) : Key)).Nodup
  | [], _ => List.nodup_nil
  | a :: r, h => by
    obtain ⟨h1, h2⟩ := List.nodup_cons.mp (show (f a :: r.map f).Nodup from h)
    refine List.nodup_cons.mpr ⟨fun m => ?_, nodup_inr f h2⟩
    obtain ⟨b, hb, e⟩ := List.mem_map.mp m
    exact h1 (List.mem_map.mpr ⟨b, hb, Sum.inr.inj e⟩)
theorem ix_pos {n : Nat} {r : Int} (h0 : 0 ≤ r) (h1 : r < n) : seqIndex? r n = some r.toNat := (ixN_seq (by unfold ixN; rw [if_pos h0, if_pos h1])).1
end Gu

set_option Elab.async false
set_option linter.all false
set_option maxRecDepth 100000
set_option maxHeartbeats 4000000
/-! y = {k: v for ..}: a dict comprehension whose name is stored within its frame -/
namespace Gd
open L2 hiding Ext
open PySem PySem.Spec PyProof.Rows Gn Gk Gu
theorem ps_setDc {X : Cx} {i : Nat} {y : Str} {py : Pos} {kx vx tg iter : Expr} {ifs : List Expr} {scope : Scope} {own : List (Str × Nat)} {pos spos : Pos} {wi : TI} {g : TG} {tt : TT} {tk tv : TE}
    (hc : X.calm = true) (hN : X.N.Nodup) (hy : X.N[i]? = some y) (hyl : X.env.scope.names.lookup y = some .local)
    (hsw : swapsWith (.DictComp kx vx [{ target := tg, iter := iter, ifs := ifs, is_async := 0 }] scope pos) (some (.Name y py)) spos.line X.env = pure true)
    (hi : PI X tg iter wi) (ok : BlkOk X.N X.env.scope scope own)
    (hg : ∀ (s : Shared) (H : Hp) (C : Addr) (cl : List (Str × Addr)) (fp : List Addr), PG (X.blk s H scope (compEnvC scope cl C X.env) fp) tg g)
    (ht : ∀ (s : Shared) (H : Hp) (C : Addr) (cl : List (Str × Addr)) (fp : List Addr), PTs (X.blk s H scope (compEnvC scope cl C X.env) fp) ifs tt)
    (hk : ∀ (s : Shared) (H : Hp) (C : Addr) (cl : List (Str × Addr)) (fp : List Addr), PE (X.blk s H scope (compEnvC scope cl C X.env) fp) kx tk)
    (hv : ∀ (s : Shared) (H : Hp) (C : Addr) (cl : List (Str × Addr)) (fp : List Addr), PE (X.blk s H scope (compEnvC scope cl C X.env) fp) vx tv)
    (hf : ∀ (x : Value), foldedSetIterable iter X.env x = pure x := by intro x; rfl) :
    PS X (.Assign [.Name y py] (.DictComp kx vx [{ target := tg, iter := iter, ifs := ifs, is_async := 0 }] scope pos) spos) (tAsg (tDc wi g tt tk tv (own.map (·.2))) (gName i)) := by
  refine ⟨fun pins s σ H D I h => ?_⟩
  rw [exec_Assign_Name_used _ _ _ _ hsw]
  refine wpAny_bind (wpAny_standAt ?_)
  refine wpAny_bind ?_
  rw [arm_evalThenUse_DictComp]
  refine wpAny_bind ?_
  refine dc_core (Q := fun v H' => D.nx (σ.set i (some v)) H') hc hN I hi ok hg ht hk hv hf h fun Da C s' m H' J q hm fp => ?_
  obtain ⟨o, es, ep, ho, hd, r⟩ := id hm
  obtain ⟨f1, f2, f3, f4, f5, f6⟩ := fp
  have J' : L2.Inv X ((C, o) :: pins) σ H' s' := J.pins_of fun p hp => by
    rcases List.mem_cons.mp hp with rfl | hp
    · exact ⟨ho, f1, f2, f3, fun v e => by
        have e : o.data = Data.cell v := e
        rw [hd] at e; cases e⟩
    · exact J.pin p (List.mem_append.mpr (.inr hp))
  have G := (pg_name (X := X) (pos := py) (i := i) hN hy (.inl hyl) (.inr hyl)).run ((C, o) :: pins) s' σ H' (.ref Da) (.ref Da) D.nx J' rfl q
  refine wpAny_mono G (fun x s'' hh => ?_) (fun _ _ h => h)
  obtain ⟨σ2, H2, J2, q2⟩ := hh
  obtain ⟨p1, p2, _⟩ := J2.pin (C, o) (List.mem_append.mpr (.inr (List.mem_cons_self ..)))
  refine ⟨m, ⟨o, es, ep, p1, hd, r⟩, fun h' sb => ?_⟩
  have J3 : L2.Inv X pins σ2 H2 s'' := J2.pins_of fun p hp => J2.pin p (List.mem_append.mpr (.inr (List.mem_cons_of_mem _ hp)))
  refine wpAny_pure (wpAny_pure ⟨σ2, H2, ?_, q2⟩)
  exact J3.turned (it := C) (fun b u n e => by rw [sb.2 b n]; exact e) p2 f2 f4 f5 f6
/-- when the name is stored within -/
theorem sw_trueD {kx vx : Expr} {gs : List Comprehension} {scope : Scope} {pos py : Pos} {y : Str} {l : Nat} {env : Env}
    (hk : env.scope.kind = ScopeKind.function) (hy : env.scope.names.lookup y = some .local) (hl : (py.line == pos.line) = true)
    (ha : (scope.names.any fun x => match x with | (n, k) => n == y && (k == NameKind.local || k == NameKind.cell)) = false) :
    swapsWith (.DictComp kx vx gs scope pos) (some (.Name y py)) l env = pure true := by
  have h := sw_true (elt := kx) (gs := gs) (scope := scope) (pos := pos) (py := py) (y := y) (l := l) (env := env) hk hy hl ha
  exact h
end Gd

set_option Elab.async false
set_option linter.all false
set_option maxRecDepth 100000
set_option maxHeartbeats 4000000
namespace Lw
open L2 hiding Ext
open PySem PySem.Spec PyProof.Rows Gn Gr Gk Go Gt Gf Gu
/-! ### the mathematics: ancestors, totals, entitlements -/
def anc (rs : List FRow) (n : Str) : List Str := ancF rs 8 n
theorem ancF_fuel {rs : List FRow} (g : GoodF [] rs) : ∀ (k k' i : Nat) (r : FRow), rs[i]? = some r → i < k → i < k' → ancF rs k r.1 = ancF rs k' r.1
  | 0, _, _, _, _, h, _ => by omega
  | _ + 1, 0, _, _, _, _, h => by omega
  | k + 1, k' + 1, i, r, hi, h1, h2 => by
    rw [ancF_s, ancF_s, parOf_at (good_nodup g).1 (List.mem_of_getElem? hi)]
    cases e : r.2 with
    | none => rfl
    | some m =>
      obtain ⟨j, r', hj, hr, rfl⟩ := par_idx g hi e
      show r.1 :: ancF rs k r'.1 = r.1 :: ancF rs k' r'.1
      rw [ancF_fuel g k k' j r' hr (by omega) (by omega)]
theorem anc_call {rs : List FRow} (g : Good rs) {n : Str} (h : n ∈ fNames rs) : ∃ (i : Nat) (r : FRow), rs[i]? = some r ∧ r.1 = n ∧ ancF rs (i + 1) r.1 = anc rs n := by
  obtain ⟨r, hr, e⟩ := List.mem_map.mp h
  obtain ⟨i, hi⟩ := List.mem_iff_getElem?.mp hr
  have hl := (List.getElem?_eq_some_iff.mp hi).1
  refine ⟨i, r, hi, e, ?_⟩
  rw [← e]
  exact ancF_fuel g.2.2 _ _ i r hi (by omega) (by have := g.2.1; omega)
theorem ancF_mem {rs : List FRow} (g : GoodF [] rs) : ∀ (k : Nat) (r : FRow), r ∈ rs → ∀ m ∈ ancF rs k r.1, m ∈ fNames rs
  | 0, _, _, m, hm => by cases hm
  | k + 1, r, hr, m, hm => by
    rw [ancF_s, parOf_at (good_nodup g).1 hr] at hm
    rcases List.mem_cons.mp hm with rfl | hm
    · exact List.mem_map.mpr ⟨r, hr, rfl⟩
    · cases e : r.2 with
      | none => rw [e] at hm; cases hm
      | some p =>
        rw [e] at hm
        obtain ⟨i, hi⟩ := List.mem_iff_getElem?.mp hr
        obtain ⟨j, r', _, hr', rfl⟩ := par_idx g hi e
        exact ancF_mem g k r' (List.mem_of_getElem? hr') m hm
theorem anc_mem {rs : List FRow} (g : Good rs) {n m : Str} (h : n ∈ fNames rs) (hm : m ∈ anc rs n) : m ∈ fNames rs := by
  obtain ⟨r, hr, rfl⟩ := List.mem_map.mp h
  exact ancF_mem g.2.2 _ r hr m hm
theorem ancF_len (rs : List FRow) : ∀ (k : Nat) (n : Str), (ancF rs k n).length ≤ k
  | 0, _ => Nat.le_refl _
  | k + 1, n => by
    rw [ancF_s, List.length_cons]
    cases parOf rs n with
    | none => exact Nat.succ_le_succ (Nat.zero_le _)
    | some m => exact Nat.succ_le_succ (ancF_len rs k m)
theorem anc_len (rs : List FRow) (n : Str) : (anc rs n).length ≤ 8 := ancF_len rs 8 n
def addL (t : Str → Int) (ns : List Str) (z : Int) : Str → Int := ns.foldl (fun t n => at_ t n (t n + z)) t
theorem take_snoc {α : Type} {l : List α} {i : Nat} {c : α} (h : l[i]? = some c) : l.take (i + 1) = l.take i ++ [c] := by
  rw [List.take_add_one, h]; rfl
theorem addL_take {t : Str → Int} {ns : List Str} {z : Int} {i : Nat} {n : Str} (h : ns[i]? = some n) : addL t (ns.take (i + 1)) z = at_ (addL t (ns.take i) z) n (addL t (ns.take i) z n + z) := by
  rw [take_snoc h]
  unfold addL
  rw [List.foldl_append]
  rfl
def totF (rs : List FRow) (bs : List (Str × Int)) : Str → Int := bs.foldl (fun t p => addL t (anc rs p.1) p.2) (fun _ => 0)
theorem totF_take {rs : List FRow} {bs : List (Str × Int)} {i : Nat} {p : Str × Int} (h : bs[i]? = some p) : totF rs (bs.take (i + 1)) = addL (totF rs (bs.take i)) (anc rs p.1) p.2 := by
  rw [take_snoc h]
  unfold totF
  rw [List.foldl_append]
  rfl
def minL (c : Int) (l : List Int) : Int := l.foldl min c
theorem minL_mem : ∀ (l : List Int) (c : Int), minL c l = c ∨ minL c l ∈ l
  | [], c => .inl rfl
  | x :: r, c => by
    show minL (min c x) r = c ∨ minL (min c x) r ∈ x :: r
    rcases minL_mem r (min c x) with e | e
    · rw [e]
      by_cases h : c ≤ x
      · exact .inl (Int.min_eq_left h)
      · exact .inr (by rw [Int.min_eq_right (by omega)]; exact List.mem_cons_self ..)
    · exact .inr (List.mem_cons_of_mem _ e)
theorem minL_le : ∀ (l : List Int) (c : Int), minL c l ≤ c ∧ ∀ x ∈ l, minL c l ≤ x
  | [], c => ⟨Int.le_refl _, fun x h => by cases h⟩
  | y :: r, c => by
    obtain ⟨h1, h2⟩ := minL_le r (min c y)
    have a : min c y ≤ c := Int.min_le_left ..
    have b : min c y ≤ y := Int.min_le_right ..
    refine ⟨Int.le_trans h1 a, fun x hx => ?_⟩
    rcases List.mem_cons.mp hx with rfl | hx
    · exact Int.le_trans h1 b
    · exact h2 x hx
theorem minL_is {c m : Int} {l : List Int} (h : m ∈ c :: l) (k : ∀ y ∈ c :: l, m ≤ y) : m = minL c l := by
  obtain ⟨a, b⟩ := minL_le l c
  have h1 : minL c l ≤ m := by
    rcases List.mem_cons.mp h with rfl | h
    · exact a
    · exact b m h
  have h2 : m ≤ minL c l := by
    rcases minL_mem l c with e | e
    · rw [e]; exact k c (List.mem_cons_self ..)
    · exact k _ (List.mem_cons_of_mem _ e)
  omega
def eStep (rs : List FRow) (s : (Str → Int) × List Int) (c : Str × Int) : (Str → Int) × List Int :=
  (addL s.1 (anc rs c.1) (-minL c.2 ((anc rs c.1).map s.1)), s.2 ++ [minL c.2 ((anc rs c.1).map s.1)])
def eRun (rs : List FRow) (t : Str → Int) (cs : List (Str × Int)) : (Str → Int) × List Int := cs.foldl (eStep rs) (t, [])
theorem eRun_take {rs : List FRow} {t : Str → Int} {cs : List (Str × Int)} {i : Nat} {c : Str × Int} (h : cs[i]? = some c) : eRun rs t (cs.take (i + 1)) = eStep rs (eRun rs t (cs.take i)) c := by
  rw [take_snoc h]
  unfold eRun
  rw [List.foldl_append]
  rfl
theorem eRun_len {rs : List FRow} {t : Str → Int} : ∀ {cs : List (Str × Int)} {o : List Int}, (cs.foldl (eStep rs) (t, o)).2.length = o.length + cs.length := by
  intro cs
  induction cs generalizing t with
  | nil => intro o; rfl
  | cons c r ih =>
    intro o
    show (r.foldl (eStep rs) (eStep rs (t, o) c)).2.length = _
    have := ih (t := (eStep rs (t, o) c).1) (o := (eStep rs (t, o) c).2)
    rw [this]
    show (o ++ [_]).length + r.length = _
    rw [List.length_append, List.length_cons, List.length_cons]
    show o.length + (0 + 1) + _ = _
    omega
def entF (rs : List FRow) (bs : List (Str × Int)) (cs : List (Str × Int)) : List Int := (eRun rs (totF rs bs) cs).2
theorem ent_len {rs : List FRow} {bs cs : List (Str × Int)} : (entF rs bs cs).length = cs.length := by
  unfold entF eRun
  rw [eRun_len]
  simp
/-- claims and balances as the document has them -/
def CsOk (rs : List FRow) (cs : List (Str × Int)) : Prop := cs.length ≤ 20 ∧ ∀ c ∈ cs, c.1 ∈ fNames rs ∧ 0 ≤ c.2 ∧ c.2 ≤ 1000000000
def BsN (rs : List FRow) (bs : List (Str × Int)) : Prop := (bs.map (·.1)).Nodup ∧ ∀ p ∈ bs, p.1 ∈ fNames rs
def BsOk (rs : List FRow) (bs : List (Str × Int)) : Prop := BsN rs bs ∧ ∀ p ∈ bs, 0 ≤ p.2 ∧ p.2 ≤ 1000000000000
theorem dN_none {t : Str → Int} {n : Str} {ns : List Str} (h : n ∉ ns) : valV (dN ns t) (Sum.inr n : Key) = none := by
  rw [← dB_dN]
  exact dB_none fun m => h (by rw [List.map_map] at m; simpa using m)
theorem dN_snoc {t : Str → Int} {n : Str} {ns : List Str} : dN (ns ++ [n]) t = dN ns t ++ [((Sum.inr n : Key), V.int (t n))] := by
  unfold dN; rw [List.map_append]; rfl
theorem nodup_at {ns : List Str} (h : ns.Nodup) {i : Nat} {n : Str} (hi : ns[i]? = some n) : n ∉ ns.take i := by
  intro hm
  obtain ⟨j, hj⟩ := List.mem_iff_getElem?.mp hm
  have hl := (List.getElem?_eq_some_iff.mp hj).1
  rw [List.length_take] at hl
  have hji : j < i := by omega
  rw [List.getElem?_take_of_lt hji] at hj
  obtain ⟨hil, ei⟩ := List.getElem?_eq_some_iff.mp hi
  obtain ⟨hjl, ej⟩ := List.getElem?_eq_some_iff.mp hj
  exact (List.pairwise_iff_getElem.mp h) j i hjl hil hji (by rw [ei, ej])
/-- all but one stands -/
def ExtD (D : Addr) (H H' : Hp) : Prop := ∀ x o, x ≠ D → H x = some o → H' x = some o
theorem ExtD.refl {D : Addr} {H : Hp} : ExtD D H H := fun _ _ _ e => e
theorem ExtD.trans {D : Addr} {H H' H2 : Hp} (h : ExtD D H H') (k : ExtD D H' H2) : ExtD D H H2 := fun x o n e => k x o n (h x o n e)
theorem ExtD.of {D : Addr} {H H' : Hp} (h : Ext H H') : ExtD D H H' := fun x o _ e => h x o e
theorem ExtD.at {D : Addr} {H : Hp} {o : HO} : ExtD D H (upd H D o) := fun x u n e => by rw [upd_ne n]; exact e
/-- the class Forest, its names and ancestors, as they stand -/
structure Fo (P : Program) (w : World) (K : PySem.W.Frag) (mg : Str → Option Value) (base : Heap) (C fI pN fN fA : Addr) (mc : Value) (fdN fdA : FuncData) : Prop where
  Z : FC K mg C fI mc
  hpN : PropOf K C "names" pN fN
  GN : FnOk P w K mg base CX0 1 fN fdN ["self"] (spNames C)
  bN : Binds K fdN ["self"] []
  mA : Meth K C "ancestors" fA
  GA : FnOk P w K mg base CX0 3 fA fdA ["self", "name"] (spAnc C)
  bA : Binds K fdA ["self", "name"] []
theorem fo_ne {H : Hp} {q b : Addr} {rs : List FRow} {bs : List (Str × Int)} (g : Good rs) (h1 : H q = some (.dK (kvs rs))) (h2 : H b = some (.dK (dB bs))) : q ≠ b := fun e => by
  rw [e, h2] at h1
  injection h1 with h1
  injection h1 with h1
  cases rs with
  | nil => have := g.1; simp at this
  | cons r rs =>
    cases bs with
    | nil => cases h1
    | cons p bs =>
      have h1 : ((Sum.inr p.1 : Key), V.int p.2) = (Sum.inr r.1, parV r.2) := (List.cons.inj h1).1
      have h3 : V.int p.2 = parV r.2 := (Prod.mk.inj h1).2
      cases e2 : r.2 with
      | none => rw [e2] at h3; cases h3
      | some m => rw [e2] at h3; cases h3
theorem fo_keep {C : Addr} {H H' : Hp} {a b D : Addr} {rs : List FRow} {bs : List (Str × Int)} (h : FoAt C H a rs) (g : Good rs) (hb : H b = some (.dK (dB bs))) (hD : H D = none) (k : ∀ x o, x ≠ b → x ≠ D → H x = some o → H' x = some o) : FoAt C H' a rs := by
  obtain ⟨dx, q, h1, h2⟩ := h
  exact ⟨dx, q, k _ _ (ne_of h1 hb (by intro z; cases z)) (ne_of_none h1 hD) h1, k _ _ (fo_ne g h2 hb) (ne_of_none h2 hD) h2⟩
theorem get_dN {H : Hp} {D : Addr} {ns : List Str} {t : Str → Int} {n : Str} (h : H D = some (.dK (dN ns t)) ∨ ∃ o, H D = some (.frz o (.dK (dN ns t)))) (hn : n ∈ ns) : DGet H D (.str n) (some (.int (t n))) := by
  rw [← dN_get (t := t) hn]
  exact .inl ⟨_, Sum.inr n, h, rfl, rfl⟩
theorem get_dB {H : Hp} {D : Addr} {bs : List (Str × Int)} {p : Str × Int} (h : H D = some (.dK (dB bs)) ∨ ∃ o, H D = some (.frz o (.dK (dB bs)))) (hn : (bs.map (·.1)).Nodup) (hp : p ∈ bs) : DGet H D (.str p.1) (some (.int p.2)) := by
  rw [← dB_get hn hp]
  exact .inl ⟨_, Sum.inr p.1, h, rfl, rfl⟩
theorem put_dN {H : Hp} {D : Addr} {ns : List Str} {t : Str → Int} {n : Str} {z : Int} (h : H D = some (.dK (dN ns t))) (hn : n ∈ ns) (hl : ns.length ≤ 8) : DPut H D (.str n) (.int z) (upd H D (.dK (dN ns (at_ t n z)))) := by
  rw [← dN_put hn]
  exact .inl ⟨_, Sum.inr n, h, rfl, by rw [dN_len, sizeLine_eq]; omega, rfl⟩
theorem item_dB {bs : List (Str × Int)} {i : Nat} {x1 x2 : V} (e1 : Option.map (fun kv : Key × V => kV kv.1) (dB bs)[i]? = some x1) (e2 : Option.map Prod.snd (dB bs)[i]? = some x2) : ∃ p, bs[i]? = some p ∧ V.str p.1 = x1 ∧ V.int p.2 = x2 := by
  obtain ⟨kv, hk, e⟩ := Option.map_eq_some_iff.mp e1
  rw [hk] at e2
  cases e2
  unfold dB at hk
  rw [List.getElem?_map] at hk
  obtain ⟨p, hp, rfl⟩ := Option.map_eq_some_iff.mp hk
  exact ⟨p, hp, e, rfl⟩
end Lw

set_option Elab.async false
set_option linter.all false
set_option maxRecDepth 100000
set_option maxHeartbeats 4000000
namespace Lw
open L2 hiding Ext
open PySem PySem.Spec PyProof.Rows Gn Gr Gk Go Gt Gf Gu
theorem none_of {H H' : Hp} {p : Addr} (k : Ext H H') (h : H' p = none) : H p = none := by
  cases e : H p with
  | none => rfl
  | some u => rw [k _ _ e] at h; cases h
theorem rows_refs {K : PySem.W.Frag} {H : Hp} : ∀ {xs : List V} {rs : List FRow}, RowsAt H xs rs → ∃ ps : List Addr, xs = ps.map V.ref ∧ Paired (fun p kv => SqT K H p [kV kv.1, kv.2]) ps (kvs rs)
  | [], [], _ => ⟨[], rfl, .nil⟩
  | [], _ :: _, h => by have := h.1; simp at this
  | _ :: _, [], h => by have := h.1; simp at this
  | x :: xs, r :: rs, h => by
    obtain ⟨p, h1, h2⟩ := h.2 0 r rfl
    have h1 : some x = some (V.ref p) := h1
    cases h1
    obtain ⟨ps, e, k⟩ := rows_refs (K := K) (H := H) (xs := xs) (rs := rs) ⟨by have := h.1; simpa using this, fun i r' hr => h.2 (i + 1) r' (by simpa using hr)⟩
    exact ⟨p :: ps, by rw [e]; rfl, .cons (SqT.of h2) k⟩
theorem merge_rows {rs : List FRow} (h : (fNames rs).Nodup) : mergeK [] (kvs rs) = kvs rs := merge_self (by
  unfold kvs
  rw [List.map_map]
  exact nodup_inr (fun r : FRow => r.1) h)
theorem merge_dN {ns : List Str} {t : Str → Int} (h : ns.Nodup) : mergeK [] (dN ns t) = dN ns t := merge_self (by
  unfold dN
  rw [List.map_map]
  exact nodup_inr (fun n : Str => n) (by rw [List.map_id']; exact h))
section
variable {P : Program} {w : World} {K : PySem.W.Frag} {mg : Str → Option Value} {base : Heap}
theorem RowsAt.get {H : Hp} {vs : List V} {rs : List FRow} (h : RowsAt H vs rs) {i : Nat} {x : V} (hx : vs[i]? = some x) : ∃ (r : FRow) (p : Addr), rs[i]? = some r ∧ x = .ref p ∧ H p = some (.tup [.str r.1, parV r.2]) := by
  have hi : i < rs.length := by rw [← h.1]; exact (List.getElem?_eq_some_iff.mp hx).1
  obtain ⟨p, a, b⟩ := h.2 i _ (List.getElem?_eq_getElem hi)
  rw [hx] at a
  cases a
  exact ⟨_, p, List.getElem?_eq_getElem hi, rfl, b⟩
/-! ### _law_up -/
abbrev nUp : List Str := ["_law_rows", "_law_word", "_law_parents", "_law_found"]
def spUp : Sp := fun vs H Q _ => ∃ (l : Addr) (xs : List V) (rs : List FRow) (n : Str), vs = [.ref l, .str n] ∧ H l = some (.lst xs) ∧ RowsAt H xs rs ∧ Good rs ∧ n ∈ fNames rs ∧
  ∀ H' p, Ext H H' → H p = none → H' p = some (.lst ((anc rs n).map V.str)) → Q (.ref p) H'
theorem scUp : FnScope nUp ["_law_rows", "_law_word"] (defScope sLUp) := ⟨rfl, rfl, rfl, by decide +kernel, rfl, by decide +kernel, by decide +kernel⟩
theorem ok_up {f : Addr} {fd : FuncData} (F : Fun K "_law_up" "_law_up" sLUp f fd) (T : Names mg) : FnOk P w K mg base CX0 1 f fd ["_law_rows", "_law_word"] spUp := by
  refine F.ok scUp (fun vs H Q E h => ?_) (fun cdv A outer s H vs Q E hr h => ?_)
  · obtain ⟨l, xs, rs, n, rfl, _⟩ := h
    rfl
  · obtain ⟨l, xs, rs, n, rfl, hl, hR, hG, hn, k⟩ := h
    have hu := hu_of hr
    have nd := scUp.nd
    refine ⟨_, pss_cons (ps_par (i := 2) (j := 3) (by rfl) nd rfl rfl (by decide) rfl rfl (pa_cons (pe_callTy (call_dictP rfl) rfl T.dict (by decide +kernel) (pa_cons (pv 0) pa_nil)) (pa_cons (pe_lst pa_nil) pa_nil)) (by rfl))
(pss_cons (ps_while PassesOwn.never (pt_cmpR op_notN (pv 1) pe_non (nomark _))
(pss_cons (ps_expr (pe_bm PySem.F.plainAttrs_list PySem.F.slot_list_append PySem.F.type_list_append mt_append (pv 3) (pa_cons (pv 1) pa_nil)))
(pss_one (ps_set (i := 1) nd rfl (.inl rfl) (pe_dget hu (pv 2) (pv 1) (fun _ _ => rfl))))))
(pss_one (ps_ret (pv 3)))), ?_⟩
    have hg := hG.2.2
    have hnd := (good_nodup hg).1
    obtain ⟨i, r, hi, rfl, hanc⟩ := anc_call hG hn
    rw [← hanc] at k
    have hil := (List.getElem?_eq_some_iff.mp hi).1
    have g8 := hG.2.1
    obtain ⟨ps, rfl, hps⟩ := rows_refs (K := K) hR
    refine ⟨_, rfl, l, ps, kvs rs, rfl, SqL.of hl, hps, fun q hq => ?_⟩
    rw [merge_rows hnd]
    refine ⟨Nat.zero_le _, fun L hL => ?_⟩
    refine ⟨_, _, rfl, ?_⟩
    have k1 : Ext H (upd (upd H q (.dK (kvs rs))) L (.lst [])) := (Ext.new hq).trans (Ext.new hL)
    have hL0 : H L = none := none_of (Ext.new (o := .dK (kvs rs)) hq) hL
    have q1 := new_same (o := .lst []) hL _ _ (upd_same (H := H) (a := q) (o := .dK (kvs rs)))
    have L1 : (upd (upd H q (.dK (kvs rs))) L (.lst [])) L = some (.lst []) := upd_same
    generalize upd (upd H q (.dK (kvs rs))) L (.lst []) = H1 at k1 q1 L1 ⊢
    have hqL : q ≠ L := fun e => by rw [e, L1] at q1; cases q1
    have get : ∀ {H' : Hp} {x : FRow}, ExtD L H1 H' → x ∈ rs → DGet H' q (.str x.1) (some (parV x.2)) := by
      intro H' x kk hx
      rw [← kvs_some hnd hx]
      exact DGet.k (k := Sum.inr x.1) (kk _ _ hqL q1)
    refine while_by (fun σ H' => ∃ (pq : Option Str) (pre : List Str) (kk : Nat), σ = [some (.ref l), some (parV pq), some (.ref q), some (.ref L)] ∧ H' L = some (.lst (pre.map V.str)) ∧ pre.length + kk = i + 1 ∧
        (∀ m, pq = some m → ∃ (j : Nat) (r' : FRow), j < kk ∧ rs[j]? = some r' ∧ r'.1 = m) ∧ pre ++ ancR rs kk pq = ancF rs (i + 1) r.1 ∧ ExtD L H1 H')
      (fun _ H' => match H' L with | some (.lst xs) => 100 - xs.length | _ => 0) ⟨some r.1, [], i + 1, rfl, L1, by simp, fun m hm => ?_, rfl, ExtD.refl⟩ ?_ ?_
    · cases hm
      exact ⟨i, r, by omega, hi, rfl⟩
    · rintro σ H3 ⟨pq, pre, kk, rfl, e3, hk, hm, he, k3⟩
      cases pq with
      | none =>
        refine ⟨_, rfl, rfl, _, rfl, iteNS rfl ?_⟩
        refine ⟨_, rfl, k _ L (fun x o hx => k3 _ _ (ne_of_none hx hL0) (k1 _ _ hx)) hL0 ?_⟩
        rw [e3]
        have : pre = ancF rs (i + 1) r.1 := by rw [← he]; simp [ancR]
        rw [this]
      | some m =>
        obtain ⟨j, r', j1, j2, rfl⟩ := hm m rfl
        have hr' : r' ∈ rs := List.mem_of_getElem? j2
        refine ⟨_, rfl, rfl, _, rfl, ?_⟩
        show if (!decide (V.str r'.1 = V.non)) = true then _ else _
        rw [decide_eq_false (by intro z; cases z)]
        refine iteT ?_
        refine ⟨_, rfl, .inl ⟨rfl, _, SqL.of e3⟩, _, rfl, L, _, _, rfl, rfl, e3, ?_, ?_⟩
        · rw [sizeLine_eq, List.length_map]
          omega
        have k4 : ExtD L H1 (upd H3 L (.lst (pre.map V.str ++ [.str r'.1]))) := k3.trans ExtD.at
        refine ⟨_, rfl, _, rfl, q, _, rfl, get k4 hr', ?_⟩
        obtain ⟨kp, rfl⟩ : ∃ kp, kk = kp + 1 := ⟨kk - 1, by omega⟩
        refine ⟨⟨r'.2, pre ++ [r'.1], kp, rfl, by rw [upd_same, List.map_append]; rfl, by rw [List.length_append]; show pre.length + 1 + kp = _; omega, fun m' hm' => ?_, ?_, k4⟩, ?_⟩
        · obtain ⟨j', r'', a1, a2, a3⟩ := par_idx hg j2 hm'
          exact ⟨j', r'', by omega, a2, a3⟩
        · rw [← he]
          show pre ++ [r'.1] ++ ancR rs kp r'.2 = pre ++ ancF rs (kp + 1) r'.1
          rw [ancF_s, parOf_at hnd hr', List.append_assoc]
          rfl
        · show (match (upd H3 L (.lst (pre.map V.str ++ [.str r'.1]))) L with | some (.lst xs) => 100 - xs.length | _ => 0) < (match H3 L with | some (.lst xs) => 100 - xs.length | _ => 0)
          rw [upd_same, e3]
          show 100 - (pre.map V.str ++ [V.str r'.1]).length < 100 - (pre.map V.str).length
          rw [List.length_append, List.length_map]
          show 100 - (pre.length + 1) < _
          omega
    · exact fun σ H Q Q' hq ⟨v, e1, e2, b, e3, h⟩ => ⟨v, e1, e2, b, e3, hq _ _ h⟩
end
end Lw

set_option Elab.async false
set_option linter.all false
set_option maxRecDepth 100000
set_option maxHeartbeats 4000000
/-! zip of two lists or of two tuples at two slots -/
namespace Gv
open L2 hiding Ext
open PySem PySem.Spec PyProof.Rows Gn Gk Gu
theorem walk_zipT {K : PySem.W.Frag} {a b : Addr} {xs ys : List V} {n : Nat} (h : n = min xs.length ys.length) : Walk (RZ.ItzT K a b) n (fun H => SqT K H a xs ∧ SqT K H b ys) (YPair (fun i => xs[i]?) fun i => ys[i]?) := by
  refine ⟨fun i H hi g => ?_, fun H g => ?_, fun i H x H' hi g y => ?_⟩
  · exact ⟨xs, ys, _, _, g.1, g.2, List.getElem?_eq_getElem (by omega), List.getElem?_eq_getElem (by omega)⟩
  · exact ⟨xs, ys, g.1, g.2, by omega⟩
  · obtain ⟨T, x1, x2, e, hT, e2, k1, k2⟩ := y
    exact ⟨T, x1, x2, e, hT, e2, k1 xs g.1, k2 ys g.2⟩
def SameK (H : Hp) (a b : Addr) (xs ys : List V) : Prop := (H a = some (.lst xs) ∧ H b = some (.lst ys)) ∨ (H a = some (.tup xs) ∧ H b = some (.tup ys))
theorem SameK.ext {H H' : Hp} {a b : Addr} {xs ys : List V} (h : SameK H a b xs ys) (k : Ext H H') : SameK H' a b xs ys := h.elim (fun e => .inl ⟨k _ _ e.1, k _ _ e.2⟩) (fun e => .inr ⟨k _ _ e.1, k _ _ e.2⟩)
theorem SameK.c1 {H : Hp} {a b : Addr} {xs ys : List V} (h : SameK H a b xs ys) : ClAt H a xs := h.elim (fun e => .inl e.1) (fun e => .inr e.1)
theorem SameK.c2 {H : Hp} {a b : Addr} {xs ys : List V} (h : SameK H a b xs ys) : ClAt H b ys := h.elim (fun e => .inl e.2) (fun e => .inr e.2)
def iZipV (i j : Nat) : TI := fun σ H R => ∃ (a b : Addr) (xs ys : List V), σ[i]? = some (some (.ref a)) ∧ σ[j]? = some (some (.ref b)) ∧ SameK H a b xs ys ∧ ∀ J, Walk J (min xs.length ys.length) (fun H' => H' a = H a ∧ H' b = H b) (YPair (fun i => xs[i]?) fun i => ys[i]?) → R J H
theorem iZip_ok {K : PySem.W.Frag} {i j : Nat} : ∀ (σ : L2.St) (H : Hp) (R : It → Hp → Prop), iZipV i j σ H R → RZ.iZipA K (tCons (tVar i) (tCons (tVar j) tNil)) σ H R := by
  rintro σ H R ⟨a, b, xs, ys, h1, h2, hc, k⟩
  rcases hc with ⟨h3, h4⟩ | ⟨h3, h4⟩
  · exact ⟨_, h1, _, h2, a, b, xs, ys, rfl, .inl ⟨SqL.of h3, SqL.of h4, k _ (wW (walk_zip rfl) fun H' e => ⟨SqL.of (e.1.trans h3), SqL.of (e.2.trans h4)⟩)⟩⟩
  · exact ⟨_, h1, _, h2, a, b, xs, ys, rfl, .inr ⟨SqT.of h3, SqT.of h4, k _ (wW (walk_zipT rfl) fun H' e => ⟨SqT.of (e.1.trans h3), SqT.of (e.2.trans h4)⟩)⟩⟩
end Gv

set_option Elab.async false
set_option linter.all false
set_option maxRecDepth 100000
set_option maxHeartbeats 4000000
/-! zip of two lists, of two tuples, or of a tuple and a list -/
namespace Gm
open L2 hiding Ext
open PySem PySem.Spec PyProof.Rows Gn Gk Gu
def ItM (K : PySem.W.Frag) (a b : Addr) : It where
  go := fun i H => ∃ xs ys x y, SqT K H a xs ∧ SqL K H b ys ∧ xs[i]? = some x ∧ ys[i]? = some y
  yld := fun i H v H' => ∃ T x y, v = V.ref T ∧ H T = none ∧ H' = upd H T (.tup [x, y]) ∧ (∀ xs, SqT K H a xs → xs[i]? = some x) ∧ ∀ ys, SqL K H b ys → ys[i]? = some y
  stop := fun i H => ∃ xs ys, SqT K H a xs ∧ SqL K H b ys ∧ i = min xs.length ys.length
def tnM (a b z TI TO i1 i2 : Addr) (i : Nat) (h : Heap) : Prop :=
  IsZip h z TI TO Value.none ∧ IsTupOf2 h TI (Value.ref i1) (Value.ref i2) ∧ (∃ x y, IsTupOf2 h TO x y) ∧ h.IsTupleIter i1 a i ∧ h.IsListIter i2 b i
theorem lt_of_get {h : Heap} {a : Addr} {o : Obj} (e : h.get? a = some o) : a < h.objs.size := Heap.lt_size e
theorem turn_zipM {P : Program} {w : World} {K : PySem.W.Frag} {elts : List Expr} {kk : Nat} {tpos : Pos} {a b z TI TO i1 i2 : Addr} (h : ZipApart z TI TO i1 i2 a b) :
    Turn P w K (Expr.Tuple elts kk tpos) (ItM K a b) [z, TI, TO, i1, i2] z (tnM a b z TI TO i1 i2) := by
  have sep : ZipSep2 z TI TO i1 i2 [i1, a] [i2, b] := by
    refine ⟨h.TIz, h.TOz, h.TITO, h.TIi1, by simp, ?_, ?_, h.TIi2, by simp, ?_, ?_, ?_, ?_⟩ <;>
      simp only [List.mem_cons, List.not_mem_nil, or_false, not_or]
    · exact ⟨h.i1z.symm, h.l1z.symm⟩
    · exact ⟨h.TOi1, h.l1TO.symm⟩
    · exact ⟨h.i2z.symm, h.l2z.symm⟩
    · exact ⟨h.TOi2, h.l2TO.symm⟩
    · exact ⟨h.i12, h.l2i1.symm⟩
    · exact ⟨h.i12.symm, h.l1i2.symm⟩
  refine ⟨by simp, ?_, ?_, ?_, ?_, ?_⟩
  · rintro i hp ⟨h1, h2, ⟨x, y, h3⟩, ⟨o4, h4, _, d4⟩, ⟨o5, h5, _, d5⟩⟩ b' hb
    simp only [List.mem_cons, List.not_mem_nil, or_false] at hb
    rcases hb with rfl | rfl | rfl | rfl | rfl
    · exact ⟨_, h1, fun v e => by cases e⟩
    · exact ⟨_, h2, fun v e => by cases e⟩
    · exact ⟨_, h3, fun v e => by cases e⟩
    · exact ⟨_, h4, fun v e => by rw [d4] at e; cases e⟩
    · exact ⟨_, h5, fun v e => by rw [d5] at e; cases e⟩
  · rintro i hp hp' ⟨h1, h2, ⟨x, y, h3⟩, ⟨o4, h4, c4, d4⟩, ⟨o5, h5, c5, d5⟩⟩ k
    exact ⟨k _ (by simp) _ h1, k _ (by simp) _ h2, ⟨x, y, k _ (by simp) _ h3⟩, ⟨o4, k _ (by simp) _ h4, c4, d4⟩, ⟨o5, k _ (by simp) _ h5, c5, d5⟩⟩
  · rintro X rfl rfl rfl hc i pins s σ H E I fp ⟨t1, t2, t3, t4, t5⟩ ⟨xs, ys, x, y, hx, hy, ex, ey⟩
    obtain ⟨its1, v1, p1, _⟩ := I.tuple hx
    obtain ⟨its2, v2, p2, _⟩ := I.list hy
    have hd : X.A.in1.handled = none := I.ok.hd hc
    have G := GoesN.zip2 (elts := elts) (x1 := kk) (pos := tpos) sep (Draws.tuple (prog := X.prog) (w := X.w) hd i1 a h.l1i1 its1.toArray) (Draws.list (prog := X.prog) (w := X.w) hd i2 b h.l2i2 its2.toArray)
    have hi1 := (List.getElem?_eq_some_iff.mp ex).1
    have hi2 := (List.getElem?_eq_some_iff.mp ey).1
    have l1 := v1.length
    have l2 := v2.length
    refine G.goes i s (fun u s2 => ∃ x H', L2.Inv X pins σ H' s2 ∧ L2.RelV x u ∧ (ItM X.K a b).yld i H x H' ∧ tnM a b z TI TO i1 i2 (i + 1) s2.heap ∧ ∀ b ∈ [z, TI, TO, i1, i2], H' b = none) E (by simp; omega) ⟨t1, t2, t3, ⟨t4, p1⟩, ⟨t5, p2.isList⟩⟩ ?_
    rintro v h' tk ⟨T, x', y', rfl, hT, e1, e2, tup⟩ ⟨s1, s2, s3, ⟨s4, _⟩, ⟨s5, _⟩⟩ keep _
    obtain ⟨u1, g1, r1⟩ := v1.get ex
    obtain ⟨u2, g2, r2⟩ := v2.get ey
    have e1 : its1[i]? = some x' := by simpa using e1
    have e2 : its2[i]? = some y' := by simpa using e2
    rw [g1] at e1
    rw [g2] at e2
    cases e1
    cases e2
    have fr := I.hok.fresh hT
    refine ⟨V.ref T, upd H T (.tup [x, y]), ?_, rfl, ⟨T, x, y, rfl, fr, rfl, fun xs' hx' => ?_, fun ys' hy' => ?_⟩, ⟨s1, s2, s3, s4, s5⟩, fun b' hb' => ?_⟩
    · refine I.turnedNew keep (fun b' hb' => fp b' ?_) hT ?_
      · simp only [List.mem_cons, List.not_mem_nil, or_false] at hb' ⊢
        rcases hb' with rfl | rfl | rfl | rfl <;> simp
      · exact ⟨by show 2 ≤ sizeLine; decide, _, .cons r1 (.cons r2 .nil), tup⟩
    · rw [I.tuple_inj hx' hx]; exact ex
    · rw [I.list_inj hy' hy]; exact ey
    · have : b' < s.heap.objs.size := by
        obtain ⟨x, y, t3⟩ := t3
        obtain ⟨o4, t4, _, _⟩ := t4
        obtain ⟨o5, t5, _, _⟩ := t5
        simp only [List.mem_cons, List.not_mem_nil, or_false] at hb'
        rcases hb' with rfl | rfl | rfl | rfl | rfl
        · exact lt_of_get t1
        · exact lt_of_get t2
        · exact lt_of_get t3
        · exact lt_of_get t4
        · exact lt_of_get t5
      rw [upd_ne (Nat.ne_of_lt (Nat.lt_of_lt_of_le this hT))]
      exact (fp b' hb').1
  · rintro X rfl rfl rfl hc i pins s σ H E I fp ⟨t1, t2, t3, t4, t5⟩ ⟨xs, ys, hx, hy, rfl⟩
    obtain ⟨its1, v1, p1, _⟩ := I.tuple hx
    obtain ⟨its2, v2, p2, _⟩ := I.list hy
    have hd : X.A.in1.handled = none := I.ok.hd hc
    have G := GoesN.zip2 (elts := elts) (x1 := kk) (pos := tpos) sep (Draws.tuple (prog := X.prog) (w := X.w) hd i1 a h.l1i1 its1.toArray) (Draws.list (prog := X.prog) (w := X.w) hd i2 b h.l2i2 its2.toArray)
    have l1 := v1.length
    have l2 := v2.length
    have en : min its1.toArray.size its2.toArray.size = min xs.length ys.length := by simp; omega
    rw [en] at G
    refine G.stops s (fun s1 => L2.Inv X pins σ H s1) E ⟨t1, t2, t3, ⟨t4, p1⟩, ⟨t5, p2.isList⟩⟩ fun h' tk keep _ => ?_
    exact I.turnedL keep fun b' hb' => fp b' (by
      simp only [List.mem_cons, List.not_mem_nil, or_false] at hb' ⊢
      rcases hb' with rfl | rfl | rfl | rfl <;> simp)
  · rintro A i s Q E ⟨t1, _⟩ q
    exact wpAny_pyIter_zip t1 q
/-- two lists, two tuples, or a tuple and a list -/
def iZipM (K : PySem.W.Frag) (ta : TA) : TI := fun σ H R => ta σ H fun vs H1 => ∃ a b xs ys, vs = [V.ref a, V.ref b] ∧
  ((SqL K H1 a xs ∧ SqL K H1 b ys ∧ R (Itz K a b) H1) ∨ (SqT K H1 a xs ∧ SqT K H1 b ys ∧ R (RZ.ItzT K a b) H1) ∨ (SqT K H1 a xs ∧ SqL K H1 b ys ∧ R (ItM K a b) H1))
theorem fp5 {X : Cx} {pins : List (Addr × Obj)} {σ : L2.St} {H : Hp} {s : Shared} (I : L2.Inv X pins σ H s) : ∀ b ∈ [s.heap.objs.size + 4, s.heap.objs.size + 2, s.heap.objs.size + 3, s.heap.objs.size, s.heap.objs.size + 1], FpOk X pins H b := fun b hb => by
  simp only [List.mem_cons, List.not_mem_nil, or_false] at hb
  have h : s.heap.objs.size ≤ b := by rcases hb with rfl | rfl | rfl | rfl | rfl <;> first | exact Nat.le_add_right _ _ | exact Nat.le_refl _
  exact I.fpOk h (I.hok.fresh h)
theorem pi_zipM {X : Cx} {e e2 : Expr} {ta : TA} {p pos tpos : Pos} {elts : List Expr} {kk : Nat} (hg : Gl X "zip") (hm : X.mg "zip" = none) (ha : PA X [e, e2] ta)
    (hs : starEach [e, e2] X.env = (false, eval e X.env) :: starEach [e2] X.env := by rfl) (hpl : ((backTo pos (starEach [e2] X.env)).any fun x => x.1) = false := by rfl) :
    PI X (Expr.Tuple elts kk tpos) ((Expr.Name "zip" p).Call [e, e2] [] pos) (iZipM X.K ta) := by
  refine ⟨fun pins s σ H R I h => Call_ (ld_blt I hg hm boot_zip (PyProof.Rows.callWith_type1 (thn (ha.run pos pins s σ H _ I h) ?_) hs hpl))⟩
  rintro us s1 ⟨vs, H1, I1, r1, a, b, xs, ys, rfl, q1⟩
  cases r1 with
  | cons r1 rr => cases rr with
    | cons r2 rr =>
      cases rr
      cases r1
      cases r2
      rcases q1 with ⟨hx, hy, hR⟩ | ⟨hx, hy, hR⟩ | ⟨hx, hy, hR⟩
      · obtain ⟨its1, v1, p1, _⟩ := I1.list hx
        obtain ⟨its2, v2, p2, _⟩ := I1.list hy
        refine zip_begins2 (begins_list a its1.toArray) (begins_list b its2.toArray) p1.isList p2.isList fun h' z1 z2 z3 z4 z5 z6 z7 => wpAny_pyIter_zip z1 ?_
        exact ⟨_, _, _, _, H1, rfl, I1.kept z7, turn_zip (PySem.W.ktu_apart _ a b p1.lt p2.lt), ⟨z1, z2, ⟨_, _, z3⟩, ⟨_, z4, rfl, rfl⟩, ⟨_, z5, rfl, rfl⟩⟩, fp5 I1, hR⟩
      · obtain ⟨its1, v1, p1, _⟩ := I1.tuple hx
        obtain ⟨its2, v2, p2, _⟩ := I1.tuple hy
        refine zip_begins2 (begins_tuple a its1.toArray) (begins_tuple b its2.toArray) p1 p2 fun h' z1 z2 z3 z4 z5 z6 z7 => wpAny_pyIter_zip z1 ?_
        obtain ⟨o1, g1, _⟩ := p1
        obtain ⟨o2, g2, _⟩ := p2
        exact ⟨_, _, _, _, H1, rfl, I1.kept z7, RZ.turn_zipT (PySem.W.ktu_apart _ a b (lt_of_get g1) (lt_of_get g2)), ⟨z1, z2, ⟨_, _, z3⟩, ⟨_, z4, rfl, rfl⟩, ⟨_, z5, rfl, rfl⟩⟩, fp5 I1, hR⟩
      · obtain ⟨its1, v1, p1, _⟩ := I1.tuple hx
        obtain ⟨its2, v2, p2, _⟩ := I1.list hy
        refine zip_begins2 (begins_tuple a its1.toArray) (begins_list b its2.toArray) p1 p2.isList fun h' z1 z2 z3 z4 z5 z6 z7 => wpAny_pyIter_zip z1 ?_
        obtain ⟨o1, g1, _⟩ := p1
        exact ⟨_, _, _, _, H1, rfl, I1.kept z7, turn_zipM (PySem.W.ktu_apart _ a b (lt_of_get g1) p2.lt), ⟨z1, z2, ⟨_, _, z3⟩, ⟨_, z4, rfl, rfl⟩, ⟨_, z5, rfl, rfl⟩⟩, fp5 I1, hR⟩
theorem walk_zipM {K : PySem.W.Frag} {a b : Addr} {xs ys : List V} {n : Nat} (h : n = min xs.length ys.length) : Walk (ItM K a b) n (fun H => SqT K H a xs ∧ SqL K H b ys) (YPair (fun i => xs[i]?) fun i => ys[i]?) := by
  refine ⟨fun i H hi g => ?_, fun H g => ?_, fun i H x H' hi g y => ?_⟩
  · exact ⟨xs, ys, _, _, g.1, g.2, List.getElem?_eq_getElem (by omega), List.getElem?_eq_getElem (by omega)⟩
  · exact ⟨xs, ys, g.1, g.2, h⟩
  · obtain ⟨T, x1, x2, e, hT, e2, k1, k2⟩ := y
    exact ⟨T, x1, x2, e, hT, e2, k1 xs g.1, k2 ys g.2⟩
/-- of one kind, or a tuple beside a list -/
def Mix (H : Hp) (a b : Addr) (xs ys : List V) : Prop := Gv.SameK H a b xs ys ∨ (H a = some (.tup xs) ∧ H b = some (.lst ys))
theorem Mix.ext {H H' : Hp} {a b : Addr} {xs ys : List V} (h : Mix H a b xs ys) (k : Ext H H') : Mix H' a b xs ys := h.elim (fun e => .inl (e.ext k)) (fun e => .inr ⟨k _ _ e.1, k _ _ e.2⟩)
def iZipV (i j : Nat) : TI := fun σ H R => ∃ (a b : Addr) (xs ys : List V), σ[i]? = some (some (.ref a)) ∧ σ[j]? = some (some (.ref b)) ∧ Mix H a b xs ys ∧ ∀ J, Walk J (min xs.length ys.length) (fun H' => H' a = H a ∧ H' b = H b) (YPair (fun i => xs[i]?) fun i => ys[i]?) → R J H
theorem iZip_ok {K : PySem.W.Frag} {i j : Nat} : ∀ (σ : L2.St) (H : Hp) (R : It → Hp → Prop), iZipV i j σ H R → iZipM K (tCons (tVar i) (tCons (tVar j) tNil)) σ H R := by
  rintro σ H R ⟨a, b, xs, ys, h1, h2, hc, k⟩
  rcases hc with (⟨h3, h4⟩ | ⟨h3, h4⟩) | ⟨h3, h4⟩
  · exact ⟨_, h1, _, h2, a, b, xs, ys, rfl, .inl ⟨SqL.of h3, SqL.of h4, k _ (wW (walk_zip rfl) fun H' e => ⟨SqL.of (e.1.trans h3), SqL.of (e.2.trans h4)⟩)⟩⟩
  · exact ⟨_, h1, _, h2, a, b, xs, ys, rfl, .inr (.inl ⟨SqT.of h3, SqT.of h4, k _ (wW (Gv.walk_zipT rfl) fun H' e => ⟨SqT.of (e.1.trans h3), SqT.of (e.2.trans h4)⟩)⟩)⟩
  · exact ⟨_, h1, _, h2, a, b, xs, ys, rfl, .inr (.inr ⟨SqT.of h3, SqL.of h4, k _ (wW (walk_zipM rfl) fun H' e => ⟨SqT.of (e.1.trans h3), SqL.of (e.2.trans h4)⟩)⟩)⟩
end Gm

set_option Elab.async false
set_option linter.all false
set_option maxRecDepth 100000
set_option maxHeartbeats 4000000
/-! enumerate of a list or of a tuple; `is not` of two truth values -/
namespace Gq
open L2 hiding Ext
open PySem PySem.Spec PyProof.Rows Gn Gk Gu
theorem wp_ite {α : Type} {M : Model} {A : Around} {E : Value → Shared → Prop} {s : Shared} {c : Prop} [Decidable c] {a b : Sem α} {Q : α → Shared → Prop} (h1 : wpAny M A a Q E s) (h2 : wpAny M A b Q E s) : wpAny M A (if c then a else b) Q E s := by
  by_cases h : c
  · rw [if_pos h]; exact h1
  · rw [if_neg h]; exact h2
theorem meets_enum1 {v : Value} {o : Obj} {H : Heap → Prop} (B : Begins v o H) :
    Meets (Builtin.«enumerate.__new__» { pos := [Value.type "enumerate", v] }) fun x R s =>
          H s.heap ∧
            R (Except.ok (Flow.ret (Value.ref (s.heap.push o).objs.size)))
              { heap := (s.heap.push o).push { cls := Value.type "enumerate", data := Data.fields #[Value.none, Value.bool false, Value.ref s.heap.objs.size, rawInt 0, Value.none, Value.none] },
                gens := s.gens, drawn := s.drawn, toks := s.toks, os := s.os } := by
  refine Meets.of_wp fun prog w A R s h => ?_
  obtain ⟨hp, g, d, tk, os⟩ := s
  obtain ⟨h1, h⟩ := h
  have q1 := fun {A'} {E Q} q => B.iter prog w A' E { heap := hp, gens := g, drawn := d, toks := tk, os := os } Q h1 q
  have hsub := sub_enumerate
  refine wpAny_bind ?_
  unfold Builtin.SmallTypes.newClass
  refine wpAny_bind ?_
  refine wpAny_pure ?_
  refine wpAny_ite_false rfl ?_
  refine wpAny_bind ?_
  refine wpAny_of_eq hsub ?_
  refine wpAny_ite_false rfl ?_
  refine wpAny_pure ?_
  refine wpAny_ite_true rfl ?_
  refine wpAny_bind ?_
  unfold Builtin.SmallTypes.calledThroughType
  refine wpAny_bind ?_
  refine wpAny_stack_any fun st => wpAny_pure ?_
  refine wp_ite ?_ ?_
  all_goals
    refine wpAny_bind ?_
    refine wpAny_pure ?_
    refine wpAny_bind (q1 ?_)
    refine wpAny_bind ?_
    unfold Builtin.SmallTypes.newRecord
    unfold newObj
    refine wpAny_bind (wpAny_alloc ?_)
    refine wpAny_pure ?_
    refine wpAny_pure ?_
    exact ⟨_, rfl, h⟩
theorem call_enum1 {prog : Program} {w : World} {A : Around} {E : Value → Shared → Prop} {s : Shared} {v : Value} {o : Obj} {H : Heap → Prop} {Q : Value → Shared → Prop} (B : Begins v o H) (h1 : H s.heap)
    (h : ∀ h' : Heap, IsEnum h' (s.heap.objs.size + 1) s.heap.objs.size 0 Value.none → h'.get? s.heap.objs.size = some o → h'.objs.size = s.heap.objs.size + 2 → (∀ (b : Addr) (o : Obj), s.heap.get? b = some o → h'.get? b = some o) →
      Q (Value.ref (s.heap.objs.size + 1)) { heap := h', gens := s.gens, drawn := s.drawn, toks := s.toks, os := s.os }) : wpAny (model prog w) A (call (Value.type "enumerate") [v]) Q E s := by
  refine callType_new F.called_enumerate (by decide) (F.typeCall_enumerate_1 v) (F.newCall_enumerate_1 v) (fun obj => F.args_object_init_2 obj v) F.entry_enumerate_new (meets_enum1 B) ⟨h1, ?_⟩
  have hz := Heap.size_push s.heap o
  have he : ((s.heap.push o).push { cls := Value.type "enumerate", data := Data.fields #[Value.none, Value.bool false, Value.ref s.heap.objs.size, rawInt 0, Value.none, Value.none] }).get? (s.heap.push o).objs.size = some { cls := Value.type "enumerate", data := Data.fields #[Value.none, Value.bool false, Value.ref s.heap.objs.size, rawInt 0, Value.none, Value.none] } := Heap.get?_push_size (s.heap.push o) rfl
  show _ ∧ _
  rw [hz] at he ⊢
  refine ⟨⟨_, he, rfl⟩, h _ he (Heap.get?_push_of_some _ (Heap.get?_push_size s.heap B.free)) (by rw [Heap.size_push, hz]) fun b o' x => Heap.get?_push_of_some _ (Heap.get?_push_of_some o x)⟩
def ItE (K : PySem.W.Frag) (a : Addr) : It where
  go := fun i H => ∃ xs x, SqT K H a xs ∧ xs[i]? = some x
  yld := fun i H v H' => ∃ T x, v = V.ref T ∧ H T = none ∧ H' = upd H T (.tup [.int (i : Nat), x]) ∧ ∀ xs, SqT K H a xs → xs[i]? = some x
  stop := fun i H => ∃ xs, SqT K H a xs ∧ i = xs.length
def tnE (a e it : Addr) (i : Nat) (h : Heap) : Prop := (∃ old, IsEnum h e it ((0 : Int) + (i : Nat)) old) ∧ h.IsTupleIter it a i
theorem turn_enumT {P : Program} {w : World} {K : PySem.W.Frag} {elts : List Expr} {kk : Nat} {tpos : Pos} {a e it : Addr} (h1 : e ≠ it) (h2 : a ≠ e) (h3 : a ≠ it) :
    Turn P w K (Expr.Tuple elts kk tpos) (ItE K a) [e, it] e (tnE a e it) := by
  refine ⟨by simp, ?_, ?_, ?_, ?_, ?_⟩
  · rintro i hp ⟨⟨old, h1⟩, ⟨o4, h4, _, d4⟩⟩ b' hb
    simp only [List.mem_cons, List.not_mem_nil, or_false] at hb
    rcases hb with rfl | rfl
    · exact ⟨_, h1, fun v e => by cases e⟩
    · exact ⟨_, h4, fun v e => by rw [d4] at e; cases e⟩
  · rintro i hp hp' ⟨⟨old, h1⟩, ⟨o4, h4, c4, d4⟩⟩ k
    exact ⟨⟨old, k _ (by simp) _ h1⟩, ⟨o4, k _ (by simp) _ h4, c4, d4⟩⟩
  · rintro X rfl rfl rfl hc i pins s σ H E I fp ⟨t1, t4⟩ ⟨xs, x, hx, ex⟩
    obtain ⟨its1, v1, p1, _⟩ := I.tuple hx
    have hd : X.A.in1.handled = none := I.ok.hd hc
    have G := GoesN.enumFrom (elts := elts) (x1 := kk) (pos := tpos) 0 (Draws.tuple (prog := X.prog) (w := X.w) hd it a h3 its1.toArray) e h1 (by simp only [List.mem_cons, List.not_mem_nil, or_false, not_or]; exact ⟨h1, h2.symm⟩) (by simp)
    have hi1 := (List.getElem?_eq_some_iff.mp ex).1
    have l1 := v1.length
    refine G.goes i s (fun u s2 => ∃ x H', L2.Inv X pins σ H' s2 ∧ L2.RelV x u ∧ (ItE X.K a).yld i H x H' ∧ tnE a e it (i + 1) s2.heap ∧ ∀ b ∈ [e, it], H' b = none) E (by simp; omega) ⟨t1, t4, p1⟩ ?_
    rintro v h' tk ⟨T, t, x', rfl, hT, e1, tup⟩ ⟨s1, s4, _⟩ keep _
    obtain ⟨u1, g1, r1⟩ := v1.get ex
    have e1 : its1[i]? = some x' := by simpa using e1
    rw [g1] at e1
    cases e1
    have fr := I.hok.fresh hT
    refine ⟨V.ref T, upd H T (.tup [.int (i : Nat), x]), ?_, rfl, ⟨T, x, rfl, fr, rfl, fun xs' hx' => ?_⟩, ⟨s1, s4⟩, fun b' hb' => ?_⟩
    · refine I.turnedNew keep (fun b' hb' => fp b' hb') hT ?_
      refine ⟨by show 2 ≤ sizeLine; decide, _, .cons (b := Value.int (0 + (i : Nat)) t) ⟨t, ?_⟩ (.cons r1 .nil), tup⟩
      rw [Int.zero_add]
    · rw [I.tuple_inj hx' hx]; exact ex
    · have : b' < s.heap.objs.size := by
        obtain ⟨old, t1⟩ := t1
        obtain ⟨o4, t4, _, _⟩ := t4
        simp only [List.mem_cons, List.not_mem_nil, or_false] at hb'
        rcases hb' with rfl | rfl
        · exact Gm.lt_of_get t1
        · exact Gm.lt_of_get t4
      rw [upd_ne (Nat.ne_of_lt (Nat.lt_of_lt_of_le this hT))]
      exact (fp b' hb').1
  · rintro X rfl rfl rfl hc i pins s σ H E I fp ⟨t1, t4⟩ ⟨xs, hx, rfl⟩
    obtain ⟨its1, v1, p1, _⟩ := I.tuple hx
    have hd : X.A.in1.handled = none := I.ok.hd hc
    have G := GoesN.enumFrom (elts := elts) (x1 := kk) (pos := tpos) 0 (Draws.tuple (prog := X.prog) (w := X.w) hd it a h3 its1.toArray) e h1 (by simp only [List.mem_cons, List.not_mem_nil, or_false, not_or]; exact ⟨h1, h2.symm⟩) (by simp)
    have l1 := v1.length
    have en : its1.toArray.size = xs.length := by simp; omega
    rw [en] at G
    refine G.stops s (fun s1 => L2.Inv X pins σ H s1) E ⟨t1, t4, p1⟩ fun h' tk keep _ => ?_
    exact I.turnedL keep fun b' hb' => fp b' hb'
  · rintro A i s Q E ⟨⟨old, t1⟩, _⟩ q
    exact wpAny_pyIter_enum t1 q
theorem fp2 {X : Cx} {pins : List (Addr × Obj)} {σ : L2.St} {H : Hp} {s : Shared} (I : L2.Inv X pins σ H s) : ∀ b ∈ [s.heap.objs.size + 1, s.heap.objs.size], FpOk X pins H b := fun b hb => by
  simp only [List.mem_cons, List.not_mem_nil, or_false] at hb
  have h : s.heap.objs.size ≤ b := by rcases hb with rfl | rfl <;> first | exact Nat.le_add_right _ _ | exact Nat.le_refl _
  exact I.fpOk h (I.hok.fresh h)
/-- a list or a tuple -/
def iEnumM (K : PySem.W.Frag) (ta : TA) : TI := fun σ H R => ta σ H fun vs H1 => ∃ a xs, vs = [V.ref a] ∧ ((SqL K H1 a xs ∧ R (Ite K a) H1) ∨ (SqT K H1 a xs ∧ R (ItE K a) H1))
theorem ne_lt {a N : Nat} (h : a < N) : a ≠ N + 1 ∧ a ≠ N := by omega
theorem pi_enumM {X : Cx} {e : Expr} {ta : TA} {p pos tpos : Pos} {elts : List Expr} {kk : Nat} (hg : Gl X "enumerate") (hm : X.mg "enumerate" = none) (ha : PA X [e] ta)
    (hs : starEach [e] X.env = (false, eval e X.env) :: starEach [] X.env := by rfl) (hpl : ((backTo pos (starEach [] X.env)).any fun x => x.1) = false := by rfl) :
    PI X (Expr.Tuple elts kk tpos) ((Expr.Name "enumerate" p).Call [e] [] pos) (iEnumM X.K ta) := by
  refine ⟨fun pins s σ H R I h => Call_ (ld_blt I hg hm boot_enumerate (PyProof.Rows.callWith_type1 (thn (ha.run pos pins s σ H _ I h) ?_) hs hpl))⟩
  rintro us s1 ⟨vs, H1, I1, r1, a, xs, rfl, q1⟩
  cases r1 with
  | cons r1 rr =>
    cases rr
    cases r1
    rcases q1 with ⟨hx, hR⟩ | ⟨hx, hR⟩
    · obtain ⟨its1, v1, p1, _⟩ := I1.list hx
      refine call_enum1 (begins_list a its1.toArray) p1.isList fun h' z1 z2 z3 z4 => wpAny_pyIter_enum z1 ?_
      exact ⟨_, _, _, _, H1, rfl, I1.kept z4, turn_enum a _ _, ⟨⟨_, z1⟩, ⟨_, z2, rfl, rfl⟩, Nat.succ_ne_self _⟩, fp2 I1, hR⟩
    · obtain ⟨its1, v1, p1, _⟩ := I1.tuple hx
      refine call_enum1 (begins_tuple a its1.toArray) p1 fun h' z1 z2 z3 z4 => wpAny_pyIter_enum z1 ?_
      obtain ⟨o1, g1, _⟩ := p1
      obtain ⟨n1, n2⟩ := ne_lt (Gm.lt_of_get g1)
      exact ⟨_, _, _, _, H1, rfl, I1.kept z4, turn_enumT (Nat.succ_ne_self _) n1 n2, ⟨⟨_, z1⟩, ⟨_, z2, rfl, rfl⟩⟩, fp2 I1, hR⟩
theorem walk_enumT {K : PySem.W.Frag} {a : Addr} {xs : List V} : Walk (ItE K a) xs.length (fun H => SqT K H a xs) (YPair (fun i => some (V.int (i : Nat))) fun i => xs[i]?) := by
  refine ⟨fun i H hi g => ?_, fun H g => ?_, fun i H x H' hi g y => ?_⟩
  · exact ⟨xs, _, g, List.getElem?_eq_getElem (by omega)⟩
  · exact ⟨xs, g, rfl⟩
  · obtain ⟨T, x1, e, hT, e2, k1⟩ := y
    exact ⟨T, _, x1, e, hT, e2, rfl, k1 xs g⟩
def iEnumV (i : Nat) : TI := fun σ H R => ∃ (a : Addr) (xs : List V), σ[i]? = some (some (.ref a)) ∧ ClAt H a xs ∧ ∀ J, Walk J xs.length (fun H' => H' a = H a) (YPair (fun i => some (V.int (i : Nat))) fun i => xs[i]?) → R J H
theorem iEnum_ok {K : PySem.W.Frag} {i : Nat} : ∀ (σ : L2.St) (H : Hp) (R : It → Hp → Prop), iEnumV i σ H R → iEnumM K (tCons (tVar i) tNil) σ H R := by
  rintro σ H R ⟨a, xs, h1, hc, k⟩
  rcases hc with h3 | h3
  · exact ⟨_, h1, a, xs, rfl, .inl ⟨SqL.of h3, k _ (wW walk_enum fun H' e => SqL.of (e.trans h3))⟩⟩
  · exact ⟨_, h1, a, xs, rfl, .inr ⟨SqT.of h3, k _ (wW walk_enumT fun H' e => SqT.of (e.trans h3))⟩⟩
theorem same_bool (b c : Bool) : isSame (Value.bool b) (Value.bool c) = pure (b == c) := by cases b <;> cases c <;> rfl
theorem op_isnotB {X : Cx} : OpR X (compareOp CmpOp.IsNot) fun x y H Q => ∃ b c, x = V.bl b ∧ y = V.bl c ∧ Q (V.bl (!(b == c))) H := by
  rintro pins s σ H x y v u Q I r1 r2 ⟨b, c, rfl, rfl, q⟩
  cases r1
  cases r2
  unfold compareOp
  refine wpAny_bind ?_
  refine wpAny_of_eq (same_bool b c) ?_
  refine wpAny_pure ?_
  exact fin_bl I q rfl
end Gq

set_option Elab.async false
set_option linter.all false
set_option maxRecDepth 100000
set_option maxHeartbeats 4000000
/-! a value of any kind beside texts; a list of anything beside an empty one -/
namespace Gj
open L2 hiding Ext
open PySem PySem.Spec PyProof.Rows Gn Gk Gu SeqAt
theorem dict_not_str (a : Addr) (ob : Obj) (b : Str) (u : Tok) (hc : ob.cls = .type "dict") :
    Meets (Builtin.«dict.__eq__» ⟨[.ref a, .str b u], []⟩) (fun _ R s => s.heap.get? a = some ob ∧ R (.ok (.ret .notImplemented)) s) :=
  .of_wp fun prog w A R s h => by
    obtain ⟨hp, g, d, tk, os⟩ := s
    obtain ⟨hl, h⟩ := h
    have f1 := F.sub_str_dict
    unfold Builtin.«dict.__eq__»
    wp_walk using wpAny_loadPart' hl
    exact ⟨_, rfl, h⟩
theorem str_not_dict (b : Str) (u : Tok) (a : Addr) (ob : Obj) :
    Meets (Builtin.«str.__eq__» ⟨[.str b u, .ref a], []⟩) (fun _ R s => s.heap.get? a = some ob ∧ (∃ es ep, ob.data = .dict es ep) ∧ R (.ok (.ret .notImplemented)) s) :=
  .of_wp fun prog w A R s h => by
    obtain ⟨hp, g, d, tk, os⟩ := s
    obtain ⟨hl, ⟨es, ep, hd⟩, h⟩ := h
    obtain ⟨c, dd, data, sl⟩ := ob
    subst hd
    wp_walk using wpAny_loadPart' hl, wpAny_load hl
    exact ⟨_, rfl, h⟩
theorem rc_str_dict {A : Around} {s : Shared} {a : Addr} {ob : Obj} (b : Str) (u : Tok) (hl : s.heap.get? a = some ob) (hc : ob.cls = .type "dict") (hd : ∃ es ep, ob.data = .dict es ep) (hu : A.units < cLine) : RcAt A s (.str b u) (.ref a) false := fun prog w E Q h =>
  rc_eq_decline_or (k := false) (typeIs_str s b u) ⟨_, hl, hc⟩ (by decide) F.sub_dict_str F.slot_str_eq F.slot_dict_eq_refl
    (fun _ hq => call_meets F.slot_str_eq (typeIs_str s b u) F.entry_str_eq (F.args_str_eq_2 _ _) (str_not_dict b u a ob) ⟨hl, hd, hq⟩)
    (fun _ hq => call_meets F.slot_dict_eq_refl ⟨_, hl, hc⟩ F.entry_dict_eq (F.args_dict_eq_2 _ _) (dict_not_str a ob b u hc) ⟨hl, hq⟩)
    (fun _ hq => wpAny_of_eq (rfl : isSame (.str b u) (.ref a) = pure false) hq) (.inr hu) h
theorem eq_str_dict {A : Around} {s : Shared} {a : Addr} {ob : Obj} (b : Str) (u : Tok) (hl : s.heap.get? a = some ob) (hc : ob.cls = .type "dict") (hd : ∃ es ep, ob.data = .dict es ep) (hu : A.units < cLine) : EqAt A s (.str b u) (.ref a) false := fun prog w E Q h => by
  unfold eqBool
  refine wpAny_holding (wpAny_ite_split (fun hab => absurd (eq_of_beq hab) nofun) fun _ => ?_)
  exact wpAny_bind (rc_str_dict b u hl hc hd hu prog w E _ (wpAny_truthy_bool h))
/-- a list, a tuple or a dict -/
def Cont (H : Hp) (a : Addr) : Prop := (∃ xs, H a = some (.lst xs)) ∨ (∃ xs, H a = some (.tup xs)) ∨ ∃ kvs, H a = some (.dK kvs)
theorem Cont.ext {H H' : Hp} {a : Addr} (h : Cont H a) (k : ∀ b o, H b = some o → H' b = some o) : Cont H' a :=
  h.elim (fun ⟨x, e⟩ => .inl ⟨x, k _ _ e⟩) fun h => h.elim (fun ⟨x, e⟩ => .inr (.inl ⟨x, k _ _ e⟩)) fun ⟨x, e⟩ => .inr (.inr ⟨x, k _ _ e⟩)
theorem str_cont {X : Cx} {pins : List (Addr × Obj)} {σ : L2.St} {H : Hp} {s : Shared} (I : L2.Inv X pins σ H s) {a : Addr} (h : Cont H a) {A : Around} (hu : A.units < cLine) (b : Str) (u : Tok) : EqAt A s (.str b u) (.ref a) false := by
  rcases h with ⟨xs, h⟩ | ⟨xs, h⟩ | ⟨kvs, h⟩
  · obtain ⟨its, _, p, _⟩ := I.list (SqL.of h)
    exact EqAt.str_list b u p.isList hu
  · obtain ⟨its, _, p, _⟩ := I.tuple (SqT.of h)
    exact EqAt.str_tuple b u p hu
  · obtain ⟨_, _, vs, _, d⟩ := I.hok a _ h
    obtain ⟨o, es, ep, ho, hx, hdt, _⟩ := d
    exact eq_str_dict b u ho hx.1 ⟨es, ep, hdt⟩ hu
theorem str_flat (ws : List Str) : (ws.map V.str).all flatV = true := by
  rw [List.all_eq_true]
  intro x hx
  obtain ⟨w, _, rfl⟩ := List.mem_map.mp hx
  rfl
/-- x in a list or a tuple of texts, x of any kind -/
def rInO (neg : Bool) : R2 := fun x y H Q => ∃ (p : Addr) (ws : List Str), y = .ref p ∧ (H p = some (.lst (ws.map V.str)) ∨ H p = some (.tup (ws.map V.str))) ∧
  ((flatV x = true ∧ Q (.bl (if neg then !inV x (ws.map V.str) else inV x (ws.map V.str))) H) ∨ ∃ a, x = .ref a ∧ Cont H a ∧ Q (.bl neg) H)
theorem strs_false {X : Cx} {pins : List (Addr × Obj)} {σ : L2.St} {H : Hp} {s : Shared} (I : L2.Inv X pins σ H s) {a : Addr} (h : Cont H a) {A : Around} (hu : A.units < cLine) : ∀ {ws : List Str} {us : List Value}, Vals (ws.map V.str) us → ∀ y ∈ us, EqAt A s y (.ref a) false
  | [], _, .nil, y, hy => by cases hy
  | w :: ws, _, .cons r t, y, hy => by
    obtain ⟨tk, rfl⟩ := r
    rcases List.mem_cons.mp hy with rfl | hy
    · exact str_cont I h hu w tk
    · exact strs_false I h hu t y hy
section
variable {X : Cx} (h64 : X.A.units + 64 < cLine)
include h64 in
theorem op_inO : OpR X (compareOp .In) (rInO false) := by
  have hu : X.A.in1.units < cLine := by show X.A.units + 1 < cLine; omega
  have hu0 : X.A.units < cLine := by omega
  intro pins s σ H x y v u Q I rx ry h
  obtain ⟨p, ws, rfl, hp, h⟩ := h
  rcases h with ⟨fx, q⟩ | ⟨a, rfl, hc, q⟩
  · refine op_in_seq pins s σ H x _ v u Q I rx ry ⟨p, _, rfl, hp.elim (fun e => .inl (SqL.of e)) (fun e => .inr (SqT.of e)), fx, str_flat _, q⟩
  · cases rx
    cases ry
    rcases hp with hp | hp
    · obtain ⟨its, r, pl, _⟩ := I.list (SqL.of hp)
      refine in_listAt (fun _ => false) pl.isList (fun w hw => strs_false I hc hu r w (by simpa using hw)) ⟨.bl _, H, I, rfl, ?_⟩
      rw [show its.toArray.any (fun _ => false) = false by simp]
      exact q
    · obtain ⟨its, r, pl, _⟩ := I.tuple (SqT.of hp)
      refine in_tupleAt (fun _ => false) pl (fun w hw => strs_false I hc hu r w (by simpa using hw)) ⟨.bl _, H, I, rfl, ?_⟩
      rw [show its.toArray.any (fun _ => false) = false by simp]
      exact q
include h64 in
theorem op_notInO : OpR X (compareOp .NotIn) (rInO true) := by
  have hu : X.A.in1.units < cLine := by show X.A.units + 1 < cLine; omega
  have hu0 : X.A.units < cLine := by omega
  intro pins s σ H x y v u Q I rx ry h
  obtain ⟨p, ws, rfl, hp, h⟩ := h
  rcases h with ⟨fx, q⟩ | ⟨a, rfl, hc, q⟩
  · refine op_notIn_seq pins s σ H x _ v u Q I rx ry ⟨p, _, rfl, hp.elim (fun e => .inl (SqL.of e)) (fun e => .inr (SqT.of e)), fx, str_flat _, q⟩
  · cases rx
    cases ry
    rcases hp with hp | hp
    · obtain ⟨its, r, pl, _⟩ := I.list (SqL.of hp)
      refine notIn_listAt (fun _ => false) pl.isList (fun w hw => strs_false I hc hu r w (by simpa using hw)) ⟨.bl _, H, I, rfl, ?_⟩
      rw [show its.toArray.any (fun _ => false) = false by simp]
      exact q
    · obtain ⟨its, r, pl, _⟩ := I.tuple (SqT.of hp)
      refine notIn_tupleAt (fun _ => false) pl (fun w hw => strs_false I hc hu r w (by simpa using hw)) ⟨.bl _, H, I, rfl, ?_⟩
      rw [show its.toArray.any (fun _ => false) = false by simp]
      exact q
/-- a list of anything == a list of no item -/
def rEqE (K : PySem.W.Frag) (neg : Bool) : R2 := fun x y H Q => ∃ (a b : Addr) (xs : List V), x = .ref a ∧ y = .ref b ∧ SqL K H a xs ∧ SqL K H b [] ∧ Q (.bl (if neg then !xs.isEmpty else xs.isEmpty)) H
include h64 in
theorem op_eqE : OpR X (compareOp .Eq) (rEqE X.K false) := by
  have hu : X.A.in1.units < cLine := by show X.A.units + 1 < cLine; omega
  have hu0 : X.A.units < cLine := by omega
  intro pins s σ H x y v u Q I rx ry h
  obtain ⟨a, b, xs, rfl, rfl, ha, hb, q⟩ := h
  cases rx
  cases ry
  obtain ⟨its, r, pa, _⟩ := I.list ha
  obtain ⟨its2, r2, pb, _⟩ := I.list hb
  cases r2
  cases r with
  | nil =>
    refine eq_listAt (e := fun _ => true) pa.isList pb.isList rfl hu0 (fun j h1 => absurd h1 (Nat.not_lt_zero j)) ⟨.bl _, H, I, rfl, ?_⟩
    exact q
  | cons r t =>
    refine eq_list_lengthsAt pa.isList pb.isList (by simp) hu0 ⟨.bl _, H, I, rfl, ?_⟩
    exact q
include h64 in
theorem op_neE : OpR X (compareOp .NotEq) (rEqE X.K true) := by
  have hu0 : X.A.units < cLine := by omega
  intro pins s σ H x y v u Q I rx ry h
  obtain ⟨a, b, xs, rfl, rfl, ha, hb, q⟩ := h
  cases rx
  cases ry
  obtain ⟨its, r, pa, _⟩ := I.list ha
  obtain ⟨its2, r2, pb, _⟩ := I.list hb
  cases r2
  cases r with
  | nil => exact RcNeAt.lists (e := fun _ => true) pa.isList pb.isList rfl hu0 (fun j h1 => absurd h1 (Nat.not_lt_zero j)) _ _ _ _ ⟨.bl _, H, I, rfl, q⟩
  | cons r t => exact RcNeAt.lists_lengths pa.isList pb.isList (by simp) hu0 _ _ _ _ ⟨.bl _, H, I, rfl, q⟩
end
end Gj

set_option Elab.async false
set_option linter.all false
set_option maxRecDepth 100000
set_option maxHeartbeats 4000000
/-! enumerate(.., start=k) of a tuple -/
namespace Gs
open L2 hiding Ext
open PySem PySem.Spec PyProof.Rows Gn Gk Gu Gq
section
variable {M : Model} {A : Around} {E : Value → Shared → Prop} {s : Shared} {env : Env}
theorem callWith_type_kwB {pos : Pos} {T : String} {first : List Value} {args : List (Bool × Sem Value)} {keywords : List (Option Str × Sem Value)} {Q : Value → Shared → Prop}
    (hplain : args.any (·.1) = false) (hkw : keywords.any (·.1.isNone) = false)
    (h : wpAny M A (evalArgs (.type T) true args keywords) (fun a s₁ => wpAny M A (call (.type T) (first ++ a.pos) a.kw) Q E s₁) E s) :
    wpAny M A (callWith pos (.type T) first args keywords) Q E s := by
  unfold callWith
  refine wpAny_bind (wpAny_holding (wpAny_mono h (fun a s₁ h₁ => wpAny_bind (wpAny_standAt ?_)) fun _ _ x => x))
  simp only [hplain, hkw, Bool.or_false]
  refine wpAny_bind (wpAny_pure ?_)
  exact wpAny_bind (wpAny_mono h₁ (fun r s₂ hr => wpAny_bind (wpAny_holding (wpAny_point (wpAny_pure hr)))) fun _ _ x => x)
theorem callWith_typeKw {pos : Pos} {T : String} {e : Expr} {rest : List Expr} {kws : List Keyword} {Q : Value → Shared → Prop}
    (h : wpAny M A (spliced (backTo pos (starEach (e :: rest) env))) (fun vs s₁ => wpAny M A (evalAll ((backToKw pos (keywordEach kws env)).map (·.2)))
      (fun kvs s₂ => wpAny M A (call (.type T) vs (((backToKw pos (keywordEach kws env)).filterMap (·.1)).zip kvs)) Q E s₂) E s₁) E s)
    (he : backTo pos (starEach (e :: rest) env) = (false, eval e env) :: backTo pos (starEach rest env))
    (hplain : (backTo pos (starEach (e :: rest) env)).any (·.1) = false)
    (hall : (backToKw pos (keywordEach kws env)).all (·.1.isSome) = true)
    (hkw : (backToKw pos (keywordEach kws env)).any (·.1.isNone) = false) :
    wpAny M A (callWith pos (.type T) [] (backTo pos (starEach (e :: rest) env)) (backToKw pos (keywordEach kws env))) Q E s := by
  refine callWith_type_kwB hplain hkw ?_
  rw [he] at h ⊢
  exact evalArgs_kwB hall h
end
def ItS (K : PySem.W.Frag) (a : Addr) (k0 : Int) : It where
  go := fun i H => ∃ xs x, SqT K H a xs ∧ xs[i]? = some x
  yld := fun i H v H' => ∃ T x, v = V.ref T ∧ H T = none ∧ H' = upd H T (.tup [.int (k0 + (i : Nat)), x]) ∧ ∀ xs, SqT K H a xs → xs[i]? = some x
  stop := fun i H => ∃ xs, SqT K H a xs ∧ i = xs.length
def tnS (k0 : Int) (a e it : Addr) (i : Nat) (h : Heap) : Prop := (∃ old, IsEnum h e it (k0 + (i : Nat)) old) ∧ h.IsTupleIter it a i
theorem turn_enumS {P : Program} {w : World} {K : PySem.W.Frag} {elts : List Expr} {kk : Nat} {tpos : Pos} {a e it : Addr} {k0 : Int} (h1 : e ≠ it) (h2 : a ≠ e) (h3 : a ≠ it) :
    Turn P w K (Expr.Tuple elts kk tpos) (ItS K a k0) [e, it] e (tnS k0 a e it) := by
  refine ⟨by simp, ?_, ?_, ?_, ?_, ?_⟩
  · rintro i hp ⟨⟨old, h1⟩, ⟨o4, h4, _, d4⟩⟩ b' hb
    simp only [List.mem_cons, List.not_mem_nil, or_false] at hb
    rcases hb with rfl | rfl
    · exact ⟨_, h1, fun v e => by cases e⟩
    · exact ⟨_, h4, fun v e => by rw [d4] at e; cases e⟩
  · rintro i hp hp' ⟨⟨old, h1⟩, ⟨o4, h4, c4, d4⟩⟩ k
    exact ⟨⟨old, k _ (by simp) _ h1⟩, ⟨o4, k _ (by simp) _ h4, c4, d4⟩⟩
  · rintro X rfl rfl rfl hc i pins s σ H E I fp ⟨t1, t4⟩ ⟨xs, x, hx, ex⟩
    obtain ⟨its1, v1, p1, _⟩ := I.tuple hx
    have hd : X.A.in1.handled = none := I.ok.hd hc
    have G := GoesN.enumFrom (elts := elts) (x1 := kk) (pos := tpos) k0 (Draws.tuple (prog := X.prog) (w := X.w) hd it a h3 its1.toArray) e h1 (by simp only [List.mem_cons, List.not_mem_nil, or_false, not_or]; exact ⟨h1, h2.symm⟩) (by simp)
    have hi1 := (List.getElem?_eq_some_iff.mp ex).1
    have l1 := v1.length
    refine G.goes i s (fun u s2 => ∃ x H', L2.Inv X pins σ H' s2 ∧ L2.RelV x u ∧ (ItS X.K a k0).yld i H x H' ∧ tnS k0 a e it (i + 1) s2.heap ∧ ∀ b ∈ [e, it], H' b = none) E (by simp; omega) ⟨t1, t4, p1⟩ ?_
    rintro v h' tk ⟨T, t, x', rfl, hT, e1, tup⟩ ⟨s1, s4, _⟩ keep _
    obtain ⟨u1, g1, r1⟩ := v1.get ex
    have e1 : its1[i]? = some x' := by simpa using e1
    rw [g1] at e1
    cases e1
    have fr := I.hok.fresh hT
    refine ⟨V.ref T, upd H T (.tup [.int (k0 + (i : Nat)), x]), ?_, rfl, ⟨T, x, rfl, fr, rfl, fun xs' hx' => ?_⟩, ⟨s1, s4⟩, fun b' hb' => ?_⟩
    · refine I.turnedNew keep (fun b' hb' => fp b' hb') hT ?_
      refine ⟨by show 2 ≤ sizeLine; decide, _, .cons (b := Value.int (k0 + (i : Nat)) t) ⟨t, rfl⟩ (.cons r1 .nil), tup⟩
    · rw [I.tuple_inj hx' hx]; exact ex
    · have : b' < s.heap.objs.size := by
        obtain ⟨old, t1⟩ := t1
        obtain ⟨o4, t4, _, _⟩ := t4
        simp only [List.mem_cons, List.not_mem_nil, or_false] at hb'
        rcases hb' with rfl | rfl
        · exact Gm.lt_of_get t1
        · exact Gm.lt_of_get t4
      rw [upd_ne (Nat.ne_of_lt (Nat.lt_of_lt_of_le this hT))]
      exact (fp b' hb').1
  · rintro X rfl rfl rfl hc i pins s σ H E I fp ⟨t1, t4⟩ ⟨xs, hx, rfl⟩
    obtain ⟨its1, v1, p1, _⟩ := I.tuple hx
    have hd : X.A.in1.handled = none := I.ok.hd hc
    have G := GoesN.enumFrom (elts := elts) (x1 := kk) (pos := tpos) k0 (Draws.tuple (prog := X.prog) (w := X.w) hd it a h3 its1.toArray) e h1 (by simp only [List.mem_cons, List.not_mem_nil, or_false, not_or]; exact ⟨h1, h2.symm⟩) (by simp)
    have l1 := v1.length
    have en : its1.toArray.size = xs.length := by simp; omega
    rw [en] at G
    refine G.stops s (fun s1 => L2.Inv X pins σ H s1) E ⟨t1, t4, p1⟩ fun h' tk keep _ => ?_
    exact I.turnedL keep fun b' hb' => fp b' hb'
  · rintro A i s Q E ⟨⟨old, t1⟩, _⟩ q
    exact wpAny_pyIter_enum t1 q
/-- a tuple, from k0 on -/
def iEnumS (K : PySem.W.Frag) (k0 : Int) (ta : TA) : TI := fun σ H R => ta σ H fun vs H1 => ∃ a xs, vs = [V.ref a] ∧ SqT K H1 a xs ∧ R (ItS K a k0) H1
theorem pi_enumS {X : Cx} {e : Expr} {ta : TA} {p pos tpos kp cp : Pos} {elts : List Expr} {kk ck : Nat} {k0 : Int} (hk0 : -(2 ^ 63) ≤ k0) (hk1 : k0 < 2 ^ 63) (hg : Gl X "enumerate") (hm : X.mg "enumerate" = none) (ha : PA X [e] ta)
    (he : backTo pos (starEach [e] X.env) = (false, eval e X.env) :: backTo pos (starEach [] X.env) := by rfl) (hpl : (backTo pos (starEach [e] X.env)).any (·.1) = false := by rfl) :
    PI X (Expr.Tuple elts kk tpos) ((Expr.Name "enumerate" p).Call [e] [⟨some "start", .Constant (.int k0) ck cp, kp⟩] pos) (iEnumS X.K k0 ta) := by
  refine ⟨fun pins s σ H R I h => ?_⟩
  refine wpAny_Call_Name_kw (ld_blt I hg hm boot_enumerate ?_)
  refine callWith_typeKw (thn (ha.run pos pins s σ H _ I h) ?_) he hpl (by rfl) (by rfl)
  rintro us s1 ⟨vs, H1, I1, r1, a, xs, rfl, hx, hR⟩
  cases r1 with
  | cons r1 rr =>
    cases rr
    cases r1
    refine kws_cons (thn ((pe_int (X := X) (i := k0)).run pins s1 σ H1 (fun x H2 => x = V.int k0 ∧ H2 = H1) I1 ⟨rfl, rfl⟩) fun v s2 ⟨x, H2, I2, r2, ex, e2⟩ => kws_nil ?_)
    subst ex e2
    obtain ⟨t, rfl⟩ := r2
    obtain ⟨its1, v1, p1, _⟩ := I2.tuple hx
    refine enum_begins_start (begins_tuple a its1.toArray) p1 hk0 hk1 fun h' z1 z2 z3 z4 => wpAny_pyIter_enum z1 ?_
    obtain ⟨o1, g1, _⟩ := p1
    obtain ⟨n1, n2⟩ := ne_lt (Gm.lt_of_get g1)
    exact ⟨_, _, _, _, H2, rfl, I2.kept z4, turn_enumS (Nat.succ_ne_self _) n1 n2, ⟨⟨_, by simpa using z1⟩, ⟨_, z2, rfl, rfl⟩⟩, fp2 I2, hR⟩
theorem walk_enumS {K : PySem.W.Frag} {a : Addr} {xs : List V} {k0 : Int} : Walk (ItS K a k0) xs.length (fun H => SqT K H a xs) (YPair (fun i => some (V.int (k0 + (i : Nat)))) fun i => xs[i]?) := by
  refine ⟨fun i H hi g => ?_, fun H g => ?_, fun i H x H' hi g y => ?_⟩
  · exact ⟨xs, _, g, List.getElem?_eq_getElem (by omega)⟩
  · exact ⟨xs, g, rfl⟩
  · obtain ⟨T, x1, e, hT, e2, k1⟩ := y
    exact ⟨T, _, x1, e, hT, e2, rfl, k1 xs g⟩
end Gs

set_option Elab.async false
set_option linter.all false
set_option maxRecDepth 100000
set_option maxHeartbeats 4000000
namespace Lw
open L2 hiding Ext
open PySem PySem.Spec PyProof.Rows Gn Gr Gk Go Gt Gf Gu
structure Fo3 (P : Program) (w : World) (K : PySem.W.Frag) (mg : Str → Option Value) (base : Heap) (C fI pN fN : Addr) (mc : Value) (fdN : FuncData) : Prop where
  Z : FC K mg C fI mc
  hpN : PropOf K C "names" pN fN
  GN : FnOk P w K mg base CX0 1 fN fdN ["self"] (spNames C)
  bN : Binds K fdN ["self"] []
/-! ### values of any kind, as data -/
mutual
inductive Dk (d g : Addr) (H : Hp) : V → PyData → Prop
  | non : Dk d g H .non .none
  | bl (b : Bool) : Dk d g H (.bl b) (.bool b)
  | int (i : Int) : Dk d g H (.int i) (.int i)
  | str (x : Str) : Dk d g H (.str x) (.str x)
  | lst {a : Addr} {xs : List V} {ds : List PyData} : H a = some (.lst xs) → a ≠ d → a ≠ g → DkAll d g H xs ds → Dk d g H (.ref a) (.list ds)
  | tup {a : Addr} {xs : List V} {ds : List PyData} : H a = some (.tup xs) → a ≠ d → a ≠ g → DkAll d g H xs ds → Dk d g H (.ref a) (.tuple ds)
  | dct {a : Addr} : H a = some (.dK []) → a ≠ d → a ≠ g → Dk d g H (.ref a) (.dict [])
inductive DkAll (d g : Addr) (H : Hp) : List V → List PyData → Prop
  | nil : DkAll d g H [] []
  | cons {v : V} {vs : List V} {x : PyData} {ds : List PyData} : Dk d g H v x → DkAll d g H vs ds → DkAll d g H (v :: vs) (x :: ds)
end
variable {d g : Addr} {H H' : Hp}
mutual
theorem Dk.kp (k : Kp d g H H') : ∀ {v : V} {x : PyData}, Dk d g H v x → Dk d g H' v x
  | _, _, .non => .non
  | _, _, .bl b => .bl b
  | _, _, .int i => .int i
  | _, _, .str x => .str x
  | _, _, .lst h n1 n2 a => .lst (k _ _ n1 n2 h) n1 n2 (DkAll.kp k a)
  | _, _, .tup h n1 n2 a => .tup (k _ _ n1 n2 h) n1 n2 (DkAll.kp k a)
  | _, _, .dct h n1 n2 => .dct (k _ _ n1 n2 h) n1 n2
theorem DkAll.kp (k : Kp d g H H') : ∀ {vs : List V} {ds : List PyData}, DkAll d g H vs ds → DkAll d g H' vs ds
  | _, _, .nil => .nil
  | _, _, .cons h a => .cons (Dk.kp k h) (DkAll.kp k a)
end
mutual
theorem Dk.dr : ∀ {v : V} {x : PyData}, Dk d g H v x → Dr H v x
  | _, _, .non => .non
  | _, _, .bl b => .bl b
  | _, _, .int i => .int i
  | _, _, .str x => .str x
  | _, _, .lst h _ _ a => .lst h (DkAll.dr a)
  | _, _, .tup h _ _ a => .tup h (DkAll.dr a)
  | _, _, .dct h _ _ => .dct h .nil
theorem DkAll.dr : ∀ {vs : List V} {ds : List PyData}, DkAll d g H vs ds → DrAll H vs ds
  | _, _, .nil => .nil
  | _, _, .cons h a => .cons (Dk.dr h) (DkAll.dr a)
end
theorem DkAll.len : ∀ {vs : List V} {ds : List PyData}, DkAll d g H vs ds → vs.length = ds.length
  | _, _, .nil => rfl
  | _, _, .cons h a => by rw [List.length_cons, List.length_cons, DkAll.len a]
theorem DkAll.get : ∀ {vs : List V} {ds : List PyData}, DkAll d g H vs ds → ∀ {i : Nat} {v : V}, vs[i]? = some v → ∃ x, ds[i]? = some x ∧ Dk d g H v x
  | _, _, .nil, _, _, h => by cases h
  | _, _, .cons h a, 0, _, e => by cases e; exact ⟨_, rfl, h⟩
  | _, _, .cons h a, i + 1, _, e => DkAll.get a (i := i) e
theorem DkAll.app : ∀ {vs : List V} {ds : List PyData} {us : List V} {es : List PyData}, DkAll d g H vs ds → DkAll d g H us es → DkAll d g H (vs ++ us) (ds ++ es)
  | _, _, _, _, .nil, b => b
  | _, _, _, _, .cons h a, b => .cons h (DkAll.app a b)
theorem DkAll.take : ∀ {vs : List V} {ds : List PyData} (n : Nat), DkAll d g H vs ds → DkAll d g H (vs.take n) (ds.take n)
  | _, _, 0, _ => by rw [List.take_zero, List.take_zero]; exact .nil
  | _, _, n + 1, .nil => .nil
  | _, _, n + 1, .cons h a => .cons h (DkAll.take n a)
theorem DkAll.drop : ∀ {vs : List V} {ds : List PyData} (n : Nat), DkAll d g H vs ds → DkAll d g H (vs.drop n) (ds.drop n)
  | _, _, 0, h => h
  | _, _, n + 1, .nil => .nil
  | _, _, n + 1, .cons h a => DkAll.drop n a
/-- what judges of values are told -/
def isN (m : Int) : PyData → Bool
  | .int i => decide (1 ≤ i ∧ i ≤ m)
  | _ => false
theorem Dk.amt {v : V} {x : PyData} (h : Dk d g H v x) : AmtV H v (isN 1000000000 x) := by
  cases h with
  | int i =>
    refine .inl ⟨i, rfl, ?_⟩
    show decide (1 ≤ i ∧ i ≤ 1000000000) = (decide (1 ≤ i) && decide (i ≤ 1000000000))
    exact Bool.decide_and _ _
  | non => exact .inr ⟨rfl, .inl .non⟩
  | bl b => exact .inr ⟨rfl, .inr (.inl (.bl b))⟩
  | str x => exact .inr ⟨rfl, .inr (.inr (.inl (.str x)))⟩
  | lst e => exact .inr ⟨rfl, .inr (.inr (.inr (.inl (.lst e))))⟩
  | tup e => exact .inr ⟨rfl, .inr (.inr (.inr (.inr (.inl (.tup e)))))⟩
  | dct e => exact .inr ⟨rfl, .inr (.inr (.inr (.inr (.inr (.dct e)))))⟩
theorem Dk.flat {v : V} {x : PyData} (h : Dk d g H v x) : flatV v = true ∨ ∃ a, v = .ref a ∧ Gj.Cont H a := by
  cases h with
  | lst e => exact .inr ⟨_, rfl, .inl ⟨_, e⟩⟩
  | tup e => exact .inr ⟨_, rfl, .inr (.inl ⟨_, e⟩)⟩
  | dct e => exact .inr ⟨_, rfl, .inr (.inr ⟨_, e⟩)⟩
  | _ => exact .inl rfl
def isA (ws : List Str) : PyData → Bool
  | .str x => decide (x ∈ ws)
  | _ => false
end Lw

set_option Elab.async false
set_option linter.all false
set_option maxRecDepth 100000
set_option maxHeartbeats 4000000
/-! a caught exception, kept behind its suite -/
namespace Gx
open PySem PySem.Spec PyProof.Rows L2
/-- an exception of the class cls with the dict d, at a -/
def ExK (cls : Value) (d : Option Addr) (a : Addr) : HO := .ext fun h => ∃ (ob : Obj) (fv : Array Value), h.get? a = some ob ∧ Zc cls d ob ∧ ob.data = .fields fv
section
variable {X : Cx} {pins : List (Addr × Obj)} {σ : L2.St} {H : Hp} {s : Shared} {a : Addr} {ob : Obj} {fv : Array Value} {cls : Value} {d : Option Addr}
/-- what stands and is not tracked may be tracked, if it is no part of the frame and was not there at the entry -/
theorem track (J : Inv X pins σ H s) (g : s.heap.get? a = some ob) (z : Zc cls d ob) (df : ob.data = .fields fv) (free : H a = none) (n0 : X.s_0.heap.get? a = none) (nL : a ≠ X.env.locals) (np : ∀ p ∈ X.pn ++ pins, p.1 ≠ a) : Inv X pins σ (upd H a (ExK cls d a)) s := by
  have nc : ∀ x c, X.env.cells.lookup x = some c → c ≠ a := fun x c e q => by
    obtain ⟨v, o', h1, h2⟩ := J.cell x c e
    rw [q, g] at h1
    cases h1
    rw [df] at h2
    cases h2
  have B := J.base
  have far : ∀ b o, X.s_0.heap.get? b = some o → b ≠ a := fun b o e q => by rw [q, n0] at e; cases e
  have ok : ObjOk X.prog X.w (upd H a (ExK cls d a)) s.heap a (ExK cls d a) := ⟨⟨ob, fv, g, z, df⟩, ⟨ob, g⟩, fun h1 h2 ⟨o, v, q, r⟩ k => ⟨o, v, k o q, r⟩⟩
  have U : Un X.fs X.ex X.H_0 (upd H a (ExK cls d a)) X.s_0.heap s.heap :=
    { keep := B.keep, slot := B.slot, there := B.there
      free := fun b o e n x => (upd_ne (far b o e)).trans (B.free b o e n x)
      tups := fun b xs e => (upd_ne (ne_of_none (B.tups b xs e) free)).trans (B.tups b xs e)
      frzs := fun b o u e => (upd_ne (ne_of_none (B.frzs b o u e) free)).trans (B.frzs b o u e)
      tbls := fun b ps e => by
        obtain ⟨more, q⟩ := B.tbls b ps e
        exact ⟨more, (upd_ne (ne_of_none q free)).trans q⟩ }
  exact
    { ok := J.ok, os := J.os, bare := J.bare, base := U, loc := J.loc, cell := J.cell
      free := (upd_ne nL.symm).trans J.free
      freeC := fun x c e => (upd_ne (nc x c e)).trans (J.freeC x c e)
      pin := fun p hp => by
        obtain ⟨p1, p2, p3⟩ := J.pin p hp
        exact ⟨p1, (upd_ne (np p hp)).trans p2, p3⟩
      hok := J.hok.laidN (fun b u q => q) free ok
      len := J.len }
end
/-- the clause 'except x as n: y = n': every exception is caught; y is slot j, n slot i -/
def wKeep (K : PySem.W.Frag) (c : Value) (i j : Nat) (D : Ends) : WX := fun cls d σ H =>
  PySem.W.exmOne K cls c = some true ∧ ∀ a, H a = none → D.nx (((σ.set i (some (.ref a))).set j (some (.ref a))).set i none) (upd H a (ExK cls d a))
section
variable {X : Cx} {x n y : Str} {c : Value} {i j : Nat} {body : List Stmt} {np' py pn' pa pos pos' : Pos} {tb : WX → TS}
theorem ps_try_keep (hs : X.stack = X.env :: X.outer) (hf : X.env.frame = some X.env.locals) (hN : X.N.Nodup) (hi : X.N[i]? = some n) (hj : X.N[j]? = some y) (hln : X.env.kindOf n = some .local) (hly : X.env.kindOf y = some .local) (hc : Names X x c) (hex : X.ex = [])
    (hd : (n == ("__debug__" : Str)) = false := by decide) (hcd : (n == ("__classdict__" : Str)) = false := by decide)
    (hsw : swapsWith (.Name n pn') (some (.Name y py)) pa.line X.env = pure false := by rfl)
    (hb : ∀ (W : WX) (pn : List (Addr × Obj)) (xe : Value → Shared → Prop), Takes (X.tr pn xe) W → PassesOwn (model X.prog X.w) X.A X.env xe → PSs (X.tr pn xe) body (tb W)) :
    PS X (.Try body [.ExceptHandler (some (.Name x np')) (some n) [.Assign [.Name y py] (.Name n pn') pa] pos'] [] [] pos) (fun D σ H => tb (wKeep X.K c i j D) D σ H) := by
  refine ⟨fun pins s σ H D I h => wpAny_Try_except ?_⟩
  have fr1 : X.A.frames = some (X.env :: X.outer) := I.ok.frames.trans (congrArg some hs)
  refine wpAny_mono ((hb (wKeep X.K c i j D) (X.pn ++ pins) _ (fun u s' caught => ?_) PassesOwn.looking).run [] s σ H D (I.toTry _) h) (fun f s1 done => ?_) (fun _ _ z => z)
  · obtain ⟨a, B, sI, ps, σ1, H1, cls, dct, ue, I1, ground, slots, sky, fresh, osEq, bare1, mt, next⟩ := caught
    cases ue
    have I2 : Inv X pins σ1 H1 sI := I1.ofTry I.ok
    rw [hs] at sky ground
    refine Sky.land Zc.steady fr1 hf sky fun hA flA upA => ?_
    have IA : Inv X pins σ1 H1 { s' with heap := hA } := I2.landed (by rw [hs]; exact ground) flA.1 (slots.trans upA) osEq bare1
    obtain ⟨ob, fv, gA, zA, dA⟩ := flA.there
    have noFrame : a ∉ frs (X.env :: X.outer) := fun m => by
      obtain ⟨_, o', e', nf⟩ := flA.2.2.1.mem m
      rw [gA] at e'
      cases e'
      exact nf _ dA
    have notLoc : a ≠ X.env.locals := fun q => noFrame (List.mem_filterMap.mpr ⟨X.env, List.mem_cons_self, by rw [hf, q]⟩)
    have notFs : a ∉ X.fs := fun m => by
      obtain ⟨ev, m1, m2⟩ := List.mem_filterMap.mp m
      exact noFrame (List.mem_filterMap.mpr ⟨ev, List.mem_cons_of_mem _ m1, m2⟩)
    have groundA : B.get? a = none := flA.2.1
    -- nothing of before is at a
    have before : ∀ b o, sI.heap.get? b = some o → b ≠ a := fun b o e q => by
      rw [q] at e
      have := ground a o e noFrame
      rw [groundA] at this
      cases this
    have n0 : X.s_0.heap.get? a = none := by
      cases e : X.s_0.heap.get? a with
      | none => rfl
      | some o =>
        obtain ⟨o', e'⟩ := I2.base.there a o e (by rw [hex]; exact List.not_mem_nil)
        exact absurd rfl (before a o' e')
    have np : ∀ p ∈ X.pn ++ pins, p.1 ≠ a := fun p hp => before p.1 p.2 (I2.pin p hp).1
    refine wpAny_handleBy_cons (codeAny_handlers_test ?_) (by intro q; cases q)
    have SA := IA.suite gA dA fresh notLoc notFs
    have kind : PySem.W.Looks (model X.prog X.w) hA (typeOf (.ref a)) cls := fun A Q E s k q => wpAny_typeOf_ref (k _ _ gA) (by rw [zA.1]; exact q)
    have named : ∀ {Q : Value → Shared → Prop} {E : Value → Shared → Prop}, Q c { s' with heap := hA } → wpAny (model X.prog X.w) (X.A.mark (some (.ref a))) (eval (.Name x np') X.env) Q E { s' with heap := hA } := fun {Q E} q => by
      obtain ⟨m1, m2, m3⟩ := hc
      rcases m3 with m3 | ⟨m3, m4, m5⟩
      · exact ld_glob (X := X.suite a ((a, ob) :: (X.pn ++ pins))) SA m1 m3 q m2
      · exact ld_blt (X := X.suite a ((a, ob) :: (X.pn ++ pins))) SA m1 m3 m4 q m5 m2
    refine named ((PySem.W.exm_one (M := model X.prog X.w) IA.kIn kind mt).here ?_)
    refine codeAny_handlers_suite_as (HandSPX.lands_againZ flA fun hB flB upB => ?_)
    have IB : Inv X pins σ1 H1 { s' with heap := hB } := I2.landed (by rw [hs]; exact ground) flB.1 ((slots.trans upA).trans upB) osEq bare1
    obtain ⟨ob2, fv2, gB, zB, dB⟩ := flB.there
    have SB := IB.suite gB dB fresh notLoc notFs
    refine store_ok (X := X.suite a ((a, ob2) :: (X.pn ++ pins))) (v := .ref a) SB hN hi (.inl hln) rfl (fun s3 S3 => ?_) (.inr hln)
    have set2 : PS (X.suite a ((a, ob2) :: (X.pn ++ pins))) (.Assign [.Name y py] (.Name n pn') pa) (tAsg (tVar i) (gName j)) := ps_set hN hj (.inl hly) (pe_var hi (.inl hln) hd hcd) hsw (.inr hly)
    have goal1 : (tAsg (tVar i) (gName j)) { nx := fun σ' H' => σ' = (σ1.set i (some (.ref a))).set j (some (.ref a)) ∧ H' = H1, rt := fun _ _ => False, bk := fun _ _ => False, ct := fun _ _ => False } (σ1.set i (some (.ref a))) H1 := by
      have hlen : i < σ1.length := by
        rw [I2.len]
        exact (List.getElem?_eq_some_iff.mp hi).1
      exact ⟨_, List.getElem?_set_self hlen, rfl, rfl⟩
    have run1 := (pss_one set2).run [] s3 _ H1 _ S3 goal1
    refine wpAny_mono run1 (fun f s4 q => ?_) (fun _ _ z => False.elim z)
    cases f with
    | next =>
      obtain ⟨σ4, H4, S4, e1, e2⟩ := q
      rw [e1, e2] at S4
      refine gone_ok (X := X.suite a ((a, ob2) :: (X.pn ++ pins))) S4 hN hi hln fun s5 S5 => ?_
      have pin5 := S5.pin (a, ob2) (List.mem_append_left _ List.mem_cons_self)
      have J5 : Inv X pins (((σ1.set i (some (.ref a))).set j (some (.ref a))).set i none) H1 s5 := S5.unsuite I.ok
      exact ⟨_, _, track J5 pin5.1 zB dB fresh n0 notLoc np, next a fresh⟩
    | brk =>
      obtain ⟨_, _, _, z⟩ := q
      exact False.elim z
    | cont =>
      obtain ⟨_, _, _, z⟩ := q
      exact False.elim z
    | ret u =>
      obtain ⟨_, _, _, _, _, z⟩ := q
      exact False.elim z
  · cases f with
    | next =>
      obtain ⟨σ2, H2, J, q⟩ := done
      exact wpAny_execs_nil ⟨σ2, H2, J.ofTry I.ok, q⟩
    | brk =>
      obtain ⟨σ2, H2, J, q⟩ := done
      exact ⟨σ2, H2, J.ofTry I.ok, q⟩
    | cont =>
      obtain ⟨σ2, H2, J, q⟩ := done
      exact ⟨σ2, H2, J.ofTry I.ok, q⟩
    | ret u =>
      obtain ⟨v, σ2, H2, J, r, q⟩ := done
      exact ⟨v, σ2, H2, J.ofTry I.ok, r, q⟩
end
/-! isinstance and a field of it -/
section
variable {X : Cx} {pins : List (Addr × Obj)} {σ : L2.St} {H : Hp} {s : Shared} {a D : Addr} {d : Option Addr}
/-- its own dict, where it has one -/
def DicAt (H : Hp) : Option Addr → Prop
  | none => True
  | some dd => ∃ fs, H dd = some (.xd fs)
theorem inst_of (I : Inv X pins σ H s) (e : H a = some (ExK (.ref D) d a)) (k : DicAt H d) : ∃ ob od, PySem.W.InstAt s.heap a ob D od := by
  obtain ⟨⟨ob, fv, g, z, df⟩, _⟩ := I.hok a _ e
  have nc : PySem.W.notCls ob := by
    unfold PySem.W.notCls
    rw [df]
  cases d with
  | none => exact ⟨ob, none, g, z.1, nc, by rw [z.2]; exact True.intro⟩
  | some dd =>
    obtain ⟨fs, hd⟩ := k
    obtain ⟨mA, hns, _⟩ := (show ObjOk X.prog X.w H s.heap dd (.xd fs) from I.hok dd _ hd)
    obtain ⟨o, ho, _⟩ := lookIn_ns hns
    exact ⟨ob, some o, g, z.1, nc, by rw [z.2]; exact ho⟩
theorem kit_exc (T : ExcC X.K D) {ob : Obj} {od : Option Obj} : PySem.W.KitX X.K (.ref a) (.ref D) (fun h => PySem.W.InstAt h a ob D od) := by
  refine PySem.W.kitx_exc ?_ T.hg T.hk T.hs T.ha T.hn T.ht T.hm
  obtain ⟨cd, h, _⟩ := PySem.W.any_some T.hd
  rw [h]
  rfl
/-- isinstance(e, c), e a kept exception -/
def rIsX (K : PySem.W.Frag) : List V → Hp → VK → Prop := fun xs H Q => ∃ (a D : Addr) (d : Option Addr) (c : V) (u : Value) (b : Bool), xs = [.ref a, c] ∧ H a = some (ExK (.ref D) d a) ∧ DicAt H d ∧ ExcC K D ∧ ClsV c u ∧ PySem.W.kitOne K (.ref D) u = some b ∧ Q (.bl b) H
theorem call_isX : CallR X (.builtin "isinstance") (rIsX X.K) := by
  intro pins s σ H xs us Q I r h
  obtain ⟨a, D, d, c, u, b, rfl, e, k, T, cv, kb, q⟩ := h
  obtain ⟨u1, u2, rfl, r1, r2⟩ := vals2 r
  obtain rfl := cv.eq r2
  cases (show u1 = Value.ref a from r1)
  obtain ⟨ob, od, J⟩ := inst_of I e k
  exact PySem.W.kia_one (kit_exc T) I.kIn J kb (fun z => nomatch z) fun tk => ⟨.bl b, H, I.tok tk, rfl, q⟩
/-- isinstance(e, (c, ..)) -/
def rIsXT (K : PySem.W.Frag) : List V → Hp → VK → Prop := fun xs H Q => ∃ (a D : Addr) (d : Option Addr) (tp : Addr) (cs : List V) (us : List Value) (b : Bool), xs = [.ref a, .ref tp] ∧ H a = some (ExK (.ref D) d a) ∧ DicAt H d ∧ ExcC K D ∧ H tp = some (.tup cs) ∧ Paired ClsV cs us ∧ PySem.W.kitAny K (.ref D) us = some b ∧ Q (.bl b) H
theorem call_isXT : CallR X (.builtin "isinstance") (rIsXT X.K) := by
  intro pins s σ H xs us Q I r h
  obtain ⟨a, D, d, tp, cs, ws, b, rfl, e, k, T, ht, cv, kb, q⟩ := h
  obtain ⟨u1, u2, rfl, r1, r2⟩ := vals2 r
  cases (show u1 = Value.ref a from r1)
  cases (show u2 = Value.ref tp from r2)
  obtain ⟨ob, od, J⟩ := inst_of I e k
  obtain ⟨_, its, rv, o, h1, h2, n, h3⟩ := (show ObjOk X.prog X.w H s.heap tp (.tup cs) from I.hok tp _ ht)
  obtain rfl := ClsV.all cv rv
  obtain ⟨oc, od', dt, sl⟩ := o
  dsimp only at h2 h3
  rw [h2, h3] at h1
  exact PySem.W.kia_tup (kit_exc T) I.kIn J h1 kb (fun z => nomatch z) fun tk => ⟨.bl b, H, I.tok tk, rfl, q⟩
/-- e.f, e a kept exception of an own class -/
def tXk (K : PySem.W.Frag) (te : TE) (f : Str) : TE := fun σ H Q => te σ H fun x H1 => ∃ (a C dd : Addr) (fs : List (Str × V)) (v : V), x = .ref a ∧ H1 a = some (ExK (.ref C) (some dd) a) ∧ H1 dd = some (.xd fs) ∧ XfC K C ∧ PySem.W.findIn K (.ref C) f = some none ∧ fs.lookup f = some v ∧ Q v H1
theorem pe_xk {e : Expr} {te : TE} {pos : Pos} {f : Str} (he : PE X e te) (hb : attributeBase e f X.env (eval e X.env) = eval e X.env := by rfl) : PE X (.Attribute e f pos) (tXk X.K te f) := by
  refine ⟨fun pins s σ H Q I h => attr_of hb (thn (he.run pins s σ H _ I h) fun u s1 hu => ?_)⟩
  obtain ⟨x, H1, I1, rx, a, C, dd, fs, v, rfl, ea, ed, T, nf, lf, q⟩ := hu
  cases (show u = Value.ref a from rx)
  obtain ⟨⟨ob, fv, g, z, df⟩, _⟩ := I1.hok a _ ea
  obtain ⟨mA, hns, rl⟩ := (show ObjOk X.prog X.w H1 s1.heap dd (.xd fs) from I1.hok dd _ ed)
  obtain ⟨o, ho, look⟩ := lookIn_ns hns
  obtain ⟨w, hw, rw'⟩ := RelO.some_of (v := v) (o := mA f) (by rw [← lf]; exact rl f)
  have J : PySem.W.InstAt s1.heap a ob C (some o) := ⟨g, z.1, by unfold PySem.W.notCls; rw [df], by rw [z.2]; exact ho⟩
  exact HandSPX.exc_get I1.kIn J T.ga T.gg T.exC (PySem.W.findObj_own T.hdC nf rfl (by rw [look, hw])) (handed_of rw') ⟨v, H1, I1.tok _, rw', q⟩
end
/-! C.m(e, ..), m static, in a try's body -/
section
variable {X : Cx} {CX : CXT} {k : Nat} {C g p : Addr} {mc : Value} {fd : FuncData} {ps : List Str} {sp : Sp} {E : L2.St → XK} {o e : Expr} {es : List Expr} {m : Str} {pos apos : Pos} {ta : TE} {t : TA} {pl : Sem Bool}
def tSMethS (C : Addr) (sp : Sp) (E : L2.St → XK) (ta : TE) (t : TA) : TE := fun σ H Q => ta σ H fun x H1 => x = .ref C ∧ t σ H1 fun vs H2 => sp vs H2 Q (E σ)
theorem pe_smethS (he : PE X o ta) (r : ClX.CRead X.K C mc) (c : Go.SMet X.K C mc m p g) (hk : PySem.W.keepIn X.K (.ref g) = true) (F : FnOk X.prog X.w X.K X.mg X.base CX k g fd ps sp) (hr : Room k X.A) (hb : Binds X.K fd ps []) (hx : ∀ σ, PassesAt CX X σ (E σ)) (ha : PA X (e :: es) t)
    (hst : starEach (e :: es) X.env = (false, eval e X.env) :: starEach es X.env := by rfl) (hpl : (backTo pos (starEach es X.env)).any (·.1) = false := by rfl)
    (ht : eval (.Call (.Attribute o m apos) (e :: es) [] pos) X.env = (do
      let ov ← eval o X.env
      standAt apos.atName
      let (f, first) ← holding [ov] (getMethod ov m pl)
      callWith pos f first (backTo pos (starEach (e :: es) X.env)) (backToKw pos (keywordEach [] X.env))) := by rfl) :
    PE X (.Call (.Attribute o m apos) (e :: es) [] pos) (tSMethS C sp E ta t) := by
  refine ⟨fun pins s σ H Q I h => PySem.W.methodCall_KW (pl := pl) (thn (he.run pins s σ H _ I h) fun u s1 hu => ?_) ht⟩
  obtain ⟨x, H1, I1, rx, rfl, q⟩ := hu
  cases (show u = Value.ref C from rx)
  refine Go.getsm_ok I1 r c fun s2 I2 => PySem.W.callWith_K (first := []) (h₀ := X.base) I2.ok.mod.kin hk (thn (ha.run pos pins s2 σ H1 _ I2 q) fun us s3 hv => ?_) hst hpl
  obtain ⟨vs, H2, I3, rv, q2⟩ := hv
  exact ⟨I3.kIn, run_fnS (us := us) (vs := vs) F hr hb (hx σ) I3 rv q2⟩
end
end Gx

set_option Elab.async false
set_option linter.all false
set_option maxRecDepth 100000
set_option maxHeartbeats 4000000
/-! a law that makes lambdas: its own table of code objects is tracked -/
namespace Ga
open PySem PySem.Spec PyProof.Rows L2 Gn Ge LamX
/-- call_here where the code object is known -/
theorem call_at {P : Program} {w : World} {K : PySem.W.Frag} {mg : Str → Option Value} {base : Heap} {x qual : Str} {st : Stmt} {f c : Addr} {fd : FuncData} {N ps : List Str} {k : Nat} {A : Around} {outer : List Env} {s : Shared} {H : Hp} {vs : List V} {us : List Value} {Q : VK}
    (F : Fun K x qual st f fd) (S : FnScope N ps (defScope st)) (hr : Room (k + 1) A) (e0 : Env0 P w K mg base A outer s H) (hb : BindsTo s fd ⟨us, []⟩ (ps.zip us)) (hl : vs.length = ps.length) (r : Vals vs us) (hcode : fd.code = .ref c)
    (body : Room k (A.deeper (envOfC qual (defScope st) s.heap.objs.size f (.ref c))) →
      ∃ t, PSs (cxOf CX0 P w K mg base N qual (defScope st) f (.ref c) A outer s H E0).nox (defBody st) t ∧ t { nx := fun _ H' => Q .non H', rt := Q } (start N vs) H) :
    codeAny (model P w) A (.call (.ref f) ⟨us, []⟩) (CR CX0 outer P w H s Q E0) s := by
  obtain ⟨oc, od, kV, doc, pm, an, cdv, ct, osl, rfl, lk, hcd⟩ := F.ex
  have hcode : cdv = .ref c := hcode
  subst hcode
  have old : ∀ b o, base.get? b = some o → s.heap.get? b = some o := fun b o e => (e0.bs b o e).1
  have KX : K.In s.heap := e0.mod.kin.keeps old
  obtain ⟨t, ht, hq⟩ := body (hr.deeper _)
  refine codeAny_call_function hr.depth (KX _ _ lk) rfl S.co S.gen rfl (PySem.W.codeRec_of KX hcd) (hb _ _ _ _ ?_)
  refine wpAny_newFunctionEnv_cells S.kind (fun ⟨n, v⟩ hy => ?_) (fun env he s1 z => ?_)
  · cases S.par n (List.of_mem_zip hy).1 with
    | inl q => exact .inl q
    | inr q => exact .inr ⟨q, PySem.W.cellsFrom_some _ _ _ (.inl q)⟩
  · subst he
    refine ⟨(e0.mod.nolimit.keeps old).keeps z.toInCall.keep, codeAny_func ?_⟩
    have I : Inv (cxOf CX0 P w K mg base N qual (defScope st) f (.ref c) A outer s H E0) [] (start N vs) H s1 := inv_start S hr.hd e0 hl r z
    refine wpAny_mono (ht.nox.run [] s1 (start N vs) H _ I hq) (fun fl s' hs => ?_) (fun e s' hs => hs)
    match fl, hs with
    | .ret u, ⟨v, σ', H', J, rv, q⟩ => exact ⟨v, H', J.os, J.bare, J.base, J.hok, rv, q⟩
    | .next, ⟨σ', H', J, q⟩ => exact ⟨.non, H', J.os, J.bare, J.base, J.hok, rfl, q⟩
    | .brk, ⟨_, _, _, q⟩ => exact q.elim
    | .cont, ⟨_, _, _, q⟩ => exact q.elim
section
variable {P : Program} {w : World} {K : PySem.W.Frag} {mg mb : Str → Option Value} {s₁ : Shared} {a c t : Addr} {vs : List Value} {ns : List Int} {st : Stmt} {N : List Str} {x : Str} {k : Nat} {fa : Addr} {fd : FuncData}
/-- the state that the row's call begins with; t is the table -/
theorem env_ofT {H : Hp} (KX : K.In s₁.heap) (hns : s₁.heap.Ns mainGlobals mg) (hb : s₁.heap.Ns builtinsNs mb) (hbb : ∀ x : Str, x ≠ "__name__" → mb x = bootBuiltins x) (hlim : s₁.heap.NoLimit) (hsee : ∃ mm, s₁.heap.Ns sysModules mm) (hg : s₁.gens = #[])
    (ha : s₁.heap.get? a = some { cls := .type "list", data := .seq vs.toArray }) (ht : s₁.heap.get? t = some (PySem.W.tabObj #[])) (hc : PySem.W.CodeHd s₁.heap c t)
    (hbm : ∃ bm ob, mg "__builtins__" = some (.ref bm) ∧ bm ≠ builtinsNs ∧ s₁.heap.get? bm = some ob ∧ ob.cls = .type "module" ∧ ob.dict = some builtinsNs ∧ ob.data = .plain)
    (only : ∀ b, H b ≠ none → b = a ∨ b = t) (hka : H a ≠ none → K.lookup a = none) (hkt : K.lookup t = none) (hok : HOk P w H s₁.heap) :
    Env0 P w K mg (hidT s₁.heap H) callerA [] s₁ H ∧ Bed K mg (hidT s₁.heap H) callerA ∧ TabB (hidT s₁.heap H) mg c t := by
  -- what is neither the list nor the table stands in the hidden heap too
  have stands : ∀ {b : Addr} {o : Obj}, s₁.heap.get? b = some o → (∀ q n, o.data ≠ .seq q n) → o.data ≠ .fields #[] → (hidT s₁.heap H).get? b = some o := fun {b o} e h1 h2 => hidT_get e (by
    cases q : H b with
    | none => rfl
    | some u =>
      exfalso
      rcases only b (by rw [q]; simp) with z | z
      · subst z
        rw [ha] at e
        cases e
        exact h1 _ _ rfl
      · subst z
        rw [ht] at e
        cases e
        exact h2 rfl)
  have nsS : ∀ {b : Addr} {m : Str → Option Value}, s₁.heap.Ns b m → (hidT s₁.heap H).Ns b m := fun {b m} ⟨o, es, ep, e, dd, r⟩ =>
    ⟨o, es, ep, stands e (fun q n z => by rw [dd] at z; cases z) (fun z => by rw [dd] at z; cases z), dd, r⟩
  have kS : K.In (hidT s₁.heap H) := fun b o e => hidT_get (KX b o e) (by
    cases q : H b with
    | none => rfl
    | some u =>
      exfalso
      rcases only b (by rw [q]; simp) with z | z
      · subst z
        rw [hka (by rw [q]; simp)] at e
        cases e
      · subst z
        rw [hkt] at e
        cases e)
  obtain ⟨mc, c1, c2⟩ := hlim
  obtain ⟨mm, sysN⟩ := hsee
  obtain ⟨so, _, _, sysE, _⟩ := nsS sysN
  obtain ⟨go, ges, gep, ge, gd, _⟩ := id hns
  refine ⟨⟨rfl, ⟨kS, nsS hns, ⟨mb, nsS hb, hbb⟩, ⟨mc, nsS c1, c2⟩⟩, fun b o e => of_hidT e, Nat.le_of_eq (hidT_size _ _), trivial, fun b z => absurd (show b ∈ ([] : List Addr) from z) (by simp), hok, .of_eq hg⟩, ⟨kS, nsS hns, ⟨so, sysE⟩, rfl⟩, ?_, ?_, ?_⟩
  · obtain ⟨o, us, file, tf, flags, tg, inF, tx, tt, e1, r1, r2, r3, rest⟩ := hc
    refine ⟨o, us, file, tf, flags, tg, inF, tx, tt, stands e1 (fun q n z => ?_) (fun z => ?_), r1, r2, r3, rest⟩
    · rw [r2] at z
      cases z
    · rw [r2] at z
      cases z
      simp at r3
  · obtain ⟨bm, ob, b1, b2, b3, b4, b5, b6⟩ := hbm
    refine ⟨bm, ob, b1, b2, fun z => ?_, fun z => ?_, stands b3 (fun q n z => by rw [b6] at z; cases z) (fun z => by rw [b6] at z; cases z), b4, b5, b6⟩
    · subst z
      rw [ge] at b3
      cases b3
      rw [gd] at b6
      cases b6
    · subst z
      rw [ht] at b3
      cases b3
      cases b6
  · intro z
    subst z
    rw [ge] at ht
    cases ht
    cases gd
/-- the heap with the table, and the list where it is tracked -/
def Ht (t a : Addr) (v : Option HO) : Hp := fun b => if b = t then some (.tbl #[]) else if b = a then v else none
theorem ht_t {t a : Addr} {v : Option HO} : Ht t a v t = some (.tbl #[]) := if_pos rfl
theorem ht_a {t a : Addr} {v : Option HO} (h : a ≠ t) : Ht t a v a = v := (if_neg h).trans (if_pos rfl)
theorem ht_no {t a b : Addr} {v : Option HO} (h1 : b ≠ t) (h2 : b ≠ a) : Ht t a v b = none := (if_neg h1).trans (if_neg h2)
theorem law_trueT (KX : K.In s₁.heap) (hns : s₁.heap.Ns mainGlobals mg) (hb : s₁.heap.Ns builtinsNs mb) (hbb : ∀ x : Str, x ≠ "__name__" → mb x = bootBuiltins x) (hlim : s₁.heap.NoLimit) (hsee : ∃ mm, s₁.heap.Ns sysModules mm) (hg : s₁.gens = #[])
    (ha : s₁.heap.get? a = some { cls := .type "list", data := .seq vs.toArray }) (ht : s₁.heap.get? t = some (PySem.W.tabObj #[])) (hc : PySem.W.CodeHd s₁.heap c t)
    (hbm : ∃ bm ob, mg "__builtins__" = some (.ref bm) ∧ bm ≠ builtinsNs ∧ s₁.heap.get? bm = some ob ∧ ob.cls = .type "module" ∧ ob.dict = some builtinsNs ∧ ob.data = .plain) (hkt : K.lookup t = none)
    (hi : IntsAre vs ns) (hl : ns.length ≤ sizeLine) (hr : Room (k + 1) callerA)
    (F : Fun K "law" "law" st fa fd) (S : FnScope N [x] (defScope st)) (hbind : ∀ (s : Shared) (u : Value), BindsTo s fd ⟨[u], []⟩ [(x, u)]) (hcode : fd.code = .ref c)
    (body : ∀ (base : Heap) (A : Around) (s : Shared) (H : Hp), Bed K mg base A → TabB base mg c t → H t = some (.tbl #[]) → Room k (A.deeper (envOfC "law" (defScope st) s.heap.objs.size fa (.ref c))) → SqL K H a (ns.map V.int) →
      ∃ q, PSs (cxOf CX0 P w K mg base N "law" (defScope st) fa (.ref c) A [] s H E0).nox (defBody st) q ∧ q { nx := fun _ _ => False, rt := fun v _ => v = .bl true } (start N [.ref a]) H) :
    codeAny (model P w) callerA (.call (.ref fa) ⟨[.ref a], []⟩) (fun r s' => r = .ok (.ret (.bool true)) ∧ OldK s₁.heap s'.heap ∧ s'.os = s₁.os ∧ AllBare s'.gens) s₁ := by
  have nat : a ≠ t := fun z => by
    subst z
    rw [ha] at ht
    cases ht
  have rv := vals_ints hi
  have go : ∀ v : Option HO, (v = none ∨ v = some (.frz { cls := .type "list", data := .seq vs.toArray } (.lst (ns.map V.int)))) → SqL K (Ht t a v) a (ns.map V.int) → (v ≠ none → K.lookup a = none) →
      codeAny (model P w) callerA (.call (.ref fa) ⟨[.ref a], []⟩) (fun r s' => r = .ok (.ret (.bool true)) ∧ OldK s₁.heap s'.heap ∧ s'.os = s₁.os ∧ AllBare s'.gens) s₁ := by
    intro v hv hS hk
    have hok : HOk P w (Ht t a v) s₁.heap := fun b u z => by
      by_cases h1 : b = t
      · subst h1
        rw [ht_t] at z
        cases z
        exact ht
      · by_cases h2 : b = a
        · subst h2
          rw [ht_a nat] at z
          rcases hv with e | e
          · rw [e] at z; cases z
          · rw [e] at z
            cases z
            exact ⟨ha, by rw [List.length_map]; exact hl, vs, _, rv, ha⟩
        · rw [ht_no h1 h2] at z
          cases z
    obtain ⟨e0, B, TB⟩ := env_ofT (P := P) (w := w) (H := Ht t a v) KX hns hb hbb hlim hsee hg ha ht hc hbm (fun b hne => by
      by_cases h1 : b = t
      · exact .inr h1
      · by_cases h2 : b = a
        · exact .inl h2
        · exact absurd (ht_no h1 h2) hne) (fun hne => hk (by rw [ht_a nat] at hne; exact hne)) hkt hok
    refine codeAny_mono (call_at (Q := fun v _ => v = .bl true) (vs := [.ref a]) (us := [.ref a]) F S hr e0 (hbind s₁ (.ref a)) rfl (.cons rfl .nil) hcode fun hr' => ?_) fun r s' h => ?_
    · obtain ⟨q, h1, h2⟩ := body (hidT s₁.heap (Ht t a v)) callerA s₁ (Ht t a v) B TB ht_t hr' hS
      have e : (fun (_ : L2.St) (_ : Hp) => V.non = V.bl true) = fun _ _ => False := by funext _ _; simp
      refine ⟨q, h1, ?_⟩
      show q { nx := fun _ _ => V.non = V.bl true, rt := fun v _ => v = V.bl true } (start N [.ref a]) (Ht t a v)
      rw [e]
      exact h2
    · match r, h with
      | .error e, h => exact False.elim h
      | .ok .next, h => exact False.elim h
      | .ok .brk, h => exact False.elim h
      | .ok .cont, h => exact False.elim h
      | .ok (.ret u), ⟨v1, H', os, bare, un, hok', r', q⟩ =>
        subst q
        obtain rfl : u = Value.bool true := r'
        obtain ⟨more, hm⟩ := un.tbls t #[] ht_t
        have tab' : s'.heap.get? t = some { cls := .none, data := .fields (#[] ++ more) } := hok' t _ hm
        have rest : ∀ b o, b ≠ t → s₁.heap.get? b = some o → s'.heap.get? b = some o := fun b o n e => by
          by_cases h2 : b = a
          · subst h2
            rcases hv with z | z
            · exact un.keep b o e (by rw [ht_a nat, z]) (by intro m; exact absurd (show b ∈ ([] : List Addr) from m) (by simp)) (by simp)
            · have zf : Ht t b v b = some (.frz { cls := .type "list", data := .seq vs.toArray } (.lst (ns.map V.int))) := by rw [ht_a nat, z]
              obtain ⟨e2, _⟩ := hok' b _ (un.frzs b _ _ zf)
              rw [ha] at e
              cases e
              exact e2
          · exact un.keep b o e (ht_no n h2) (by intro m; exact absurd (show b ∈ ([] : List Addr) from m) (by simp)) (by simp)
        refine ⟨rfl, ⟨fun b o e => ?_, fun b o e => ?_⟩, os, bare⟩
        · by_cases h1 : b = t
          · subst h1
            rw [ht] at e
            cases e
            exact .inr (.inl ⟨(hc.tab ht).isCodeTable, rfl, #[], more, rfl, tab'⟩)
          · exact .inl (rest b o h1 e)
        · by_cases h1 : b = t
          · subst h1
            exact ⟨_, tab'⟩
          · exact ⟨o, rest b o h1 e⟩
  cases hk : K.lookup a with
  | some o =>
    have e := KX a o hk
    rw [ha] at e
    cases e
    exact go none (.inl rfl) (.inr ⟨_, vs.toArray, _, hk, rfl, rfl, rfl, by rw [List.size_toArray, hi.length]; exact hl, by simpa using rv⟩) fun z => absurd rfl z
  | none => exact go _ (.inr rfl) (.inl (.inr ⟨_, ht_a nat⟩)) fun _ => hk
end
open PySem.W in
/-- the goal that the head leaves, where the law makes lambdas -/
theorem walk_lawT {l : PySem.W.OpenLaw} {n k : Nat} {q : Program} {loose : List Str} {XP : (Str → Option Value) → Heap → Prop} {YP : World → Heap → Prop} {d dd : DefRec} {K : Params → PySem.W.Frag} {x : Str} {st : Stmt} {N : List Str}
    (hn : l.most = some n) (hn2 : n ≤ sizeLine) (hdf : d.params.defaults = []) (hdn : d.name = "law") (hr : Room (k + 1) callerA) (hi : importsNone q = true) (hfind : (recsOf q).find? (fun e => e.name == ("law" : Str)) = some dd) (S : FnScope N [x] (defScope st))
    (hY : ∀ (w : World) (h : Heap), YP w h → (K w.params).In h)
    (F : ∀ (w : World) (mg : Str → Option Value) (fa : Addr) (h : Heap), (K w.params).In h → h.Ns mainGlobals mg → mg "law" = some (.ref fa) →
      ∃ (fd : FuncData) (c t : Addr), tabIn (K w.params) "law" = some (c, t) ∧ (K w.params).lookup t = none ∧ Fun (K w.params) "law" "law" st fa fd ∧ fd.code = .ref c ∧ (∀ (s : Shared) (u : Value), BindsTo s fd ⟨[u], []⟩ [(x, u)]) ∧
        ∀ (base : Heap) (A : Around) (s : Shared) (H : Hp) (a : Addr) (ns : List Int), ns.length ≤ n → Bed (K w.params) mg base A → TabB base mg c t → H t = some (.tbl #[]) → Room k (A.deeper (envOfC "law" (defScope st) s.heap.objs.size fa (.ref c))) → SqL (K w.params) H a (ns.map V.int) →
          ∃ q, PSs (cxOf CX0 l.prog w (K w.params) mg base N "law" (defScope st) fa (.ref c) A [] s H E0).nox (defBody st) q ∧ q { nx := fun _ _ => False, rt := fun v _ => v = .bl true } (start N [.ref a]) H) :
    PySem.W.WalkO q loose XP YP l.row.toRowW d [] (fun f vs => PySem.call f vs) := by
  refine Att.attach_call hn hdf fun w s₀ s₁ mg mb fa o pm cd doc a vs ns G Y ho hd hcd hmg hobj hints hlen hg => ?_
  rw [hdn] at hmg
  have KX := hY w _ Y
  obtain ⟨fd, c, t, e1, e2, F1, e3, F2, F3⟩ := F w mg fa _ KX G.T.g hmg
  obtain ⟨hc, ht⟩ := tab_of G.T KX hfind e1
  obtain ⟨mm, z, _⟩ := (G.T.seer hi).mods
  exact law_trueT KX G.T.g G.T.b G.T.builtins G.T.nolimit ⟨mm, z⟩ hg hobj ht hc G.T.bmain e2 hints (Nat.le_trans hlen hn2) hr F1 S F2 e3 fun base A s H B TB hT hr' hS => F3 base A s H a ns hlen B TB hT hr' hS
end Ga

set_option Elab.async false
set_option linter.all false
set_option maxRecDepth 100000
set_option maxHeartbeats 4000000
namespace Lw
open L2 hiding Ext
open PySem PySem.Spec PyProof.Rows Gn Gr Gk Go Gt Gf Gu Gx
/-- the error's class -/
structure XU (K : PySem.W.Frag) (mg : Str → Option Value) (CT CP fTI : Addr) : Prop where
  oT : OexC K CT
  gT : mg "UnknownAccount" = some (.ref CT)
  iT : PySem.W.findIn K (.ref CT) "__init__" = some (some (.ref fTI))
  tT : PySem.W.typeIn K (.ref fTI) = some (.type "function")
  nT : PySem.W.findIn K (.ref CT) "name" = some none
  cT : ExcC K CT
  fT : XfC K CT
  nm : mg "PurseError" = some (.ref CP)
  eT : PySem.W.exmOne K (.ref CT) (.ref CP) = some true
  sT : PySem.W.kitOne K (.ref CT) (.ref CT) = some true
section
variable {P : Program} {w : World} {K : PySem.W.Frag} {mg : Str → Option Value} {base : Heap} {C fI pN fN fA : Addr} {mc : Value} {fdN fdA : FuncData}
/-! ### UnknownAccount.__init__ -/
abbrev sTI : Stmt := (cBody (top 4)).getD 0 (.Pass ⟨0, 0, 0, 0⟩)
def spTI (CT : Addr) : Sp := fun vs H Q _ => ∃ (a : Addr) (v : V), vs = [.ref a, v] ∧ H a = some (exo a CT none) ∧ ∀ dx, H dx = none → dx ≠ a → Q .non (upd (upd H dx (exd dx [("name", v)])) a (exo a CT (some dx)))
theorem scTI : FnScope ["self", "name"] ["self", "name"] (defScope sTI) := ⟨rfl, rfl, rfl, by decide +kernel, rfl, by decide +kernel, by decide +kernel⟩
theorem ok_ti {CT CP fTI f : Addr} {fd : FuncData} (F : Fun K "__init__" "UnknownAccount.__init__" sTI f fd) (X : XU K mg CT CP fTI) : FnOk P w K mg base CX0 1 f fd ["self", "name"] (spTI CT) := by
  refine F.ok scTI (fun vs H Q E h => ?_) (fun cdv A outer s H vs Q E hr h => ?_)
  · obtain ⟨a, v, rfl, _⟩ := h
    rfl
  · obtain ⟨a, v, rfl, ha, k⟩ := h
    refine ⟨_, pss_one (ps_ost (pv 0) (pv 1)), ?_⟩
    exact ⟨_, rfl, _, rfl, a, CT, rfl, X.oT, X.nT, .inl ⟨ha, fun dx h1 h2 => k dx h1 h2⟩⟩
/-- it is raised with v -/
def Unk (CT : Addr) (v : V) (H : Hp) (E : XK) : Prop := ∀ H' d, Ext H H' → H d = none → H' d = some (.xd [("name", v)]) → E (.ref CT) (some d) H'
theorem Unk.ext {CT : Addr} {v : V} {H H1 : Hp} {E : XK} (h : Unk CT v H E) (k : Ext H H1) : Unk CT v H1 E := fun H' d k' d0 d1 => h H' d (k.trans k') (none_of k d0) d1
theorem unk_made {CT : Addr} {H1 : Hp} {v : V} {E : XK} {a : Addr} (ha : H1 a = none) (k : Unk CT v H1 E) :
    spTI CT [.ref a, v] (upd H1 a (exo a CT none)) (fun u H2 => u = .non ∧ ∃ (d : Addr) (fs : List (Str × V)), H2 a = some (exo a CT (some d)) ∧ H2 d = some (exd d fs) ∧ H1 d = none ∧ E (.ref CT) (some d) (upd (del H2 a) d (.xd fs))) (fun _ _ _ => False) := by
  refine ⟨a, v, rfl, upd_same, fun dx h1 h2 => ⟨rfl, dx, [("name", v)], upd_same, ?_, ?_, ?_⟩⟩
  · rw [upd_ne h2, upd_same]
  · rw [upd_ne h2] at h1
    exact h1
  · have hd : H1 dx = none := by rw [upd_ne h2] at h1; exact h1
    refine k _ dx (fun b o hb => ?_) hd upd_same
    rw [upd_ne (ne_of_none hb hd), del_ne (ne_of_none hb ha), upd_ne (ne_of_none hb ha), upd_ne (ne_of_none hb hd), upd_ne (ne_of_none hb ha)]
    exact hb
/-! ### what is no name: refused -/
abbrev nAnc : List Str := ["self", "name", "found", "above"]
abbrev nSub : List Str := ["self", "name", "inner"]
def spNoName (C CT : Addr) : Sp := fun vs H Q E => ∃ (d g a : Addr) (v : V) (x : PyData) (rs : List FRow), vs = [.ref a, v] ∧ FoAt C H a rs ∧ Dk d g H v x ∧ isA (fNames rs) x = false ∧ Unk CT v H E
theorem no_in {ws : List Str} {v : V} {x : PyData} {d g : Addr} {H : Hp} (h : Dk d g H v x) (hf : flatV v = true) (hx : isA ws x = false) : inV v (ws.map V.str) = false := by
  cases h with
  | str z => rw [inV_strs]; exact hx
  | non => induction ws with
    | nil => rfl
    | cons a r ih => exact ih rfl
  | bl b => induction ws with
    | nil => rfl
    | cons a r ih => exact ih rfl
  | int i => induction ws with
    | nil => rfl
    | cons a r ih => exact ih rfl
  | _ => cases hf
theorem scSub : FnScope nSub ["self", "name"] (defScope sSub) := ⟨rfl, rfl, rfl, by decide +kernel, rfl, by decide +kernel, by decide +kernel⟩
theorem ok_ancX {CT CP fTI f : Addr} {fd fdTI : FuncData} (F : Fun K "ancestors" "Forest.ancestors" sAnc f fd) (T : Names mg) (Z : Fo P w K mg base C fI pN fN fA mc fdN fdA) (Y : XU K mg CT CP fTI) (GT : FnOk P w K mg base CX0 1 fTI fdTI ["self", "name"] (spTI CT)) (bT : Binds K fdTI ["self", "name"] []) :
    FnOk P w K mg base (L2.CX P w) 4 f fd ["self", "name"] (spNoName C CT) := by
  refine F.okX scAnc (fun vs H Q E h => ?_) (fun cdv A outer s H vs Q E hr h => ?_)
  · obtain ⟨d, g, a, v, x, rs, rfl, _⟩ := h
    rfl
  · obtain ⟨d, g, a, v, x, rs, rfl, hF, hv, hx, k⟩ := h
    have hu := hu_of hr
    have nd := scAnc.nd
    have hr1 : Room 2 (A.deeper (envOfC "Forest.ancestors" (defScope sAnc) s.heap.objs.size f cdv)) := hr.mono (by decide)
    have hrN := hr1
    refine ⟨_, pss_cons (ps_if (pt_cmpR (Gj.op_notInO hr.units) (pv 1) (pe_prop (pv 0) Z.Z.cl Z.hpN Z.GN hrN Z.bN .nil pass0 rfl) rfl) (pss_one (ps_raise rfl (takes_of rfl rfl rfl rfl) (pmk_oex Y.oT Y.iT Y.tT GT hr1 bT .nil (fun _ _ _ _ _ _ _ h => False.elim h) rfl Y.gT (pa_cons (pv 1) pa_nil)))) pss_nil)
(pss_cons (ps_set (i := 2) nd rfl (.inl rfl) (pe_lst (pa_cons (pv 1) pa_nil)))
(pss_cons (ps_set (i := 3) nd rfl (.inl rfl) (pe_dget hu (pe_fld (pv 0) rfl) (pv 1) (fun _ _ => rfl)))
(pss_cons (ps_while (passes_of rfl) (pt_cmpR op_notN (pv 3) pe_non (nomark _))
(pss_cons (ps_expr (pe_bm PySem.F.plainAttrs_list PySem.F.slot_list_append PySem.F.type_list_append mt_append (pv 2) (pa_cons (pv 3) pa_nil)))
(pss_one (ps_set (i := 3) nd rfl (.inl rfl) (pe_dget hu (pe_fld (pv 0) rfl) (pv 3) (fun _ _ => rfl))))))
(pss_one (ps_ret (pv 2)))))), ?_⟩
    obtain ⟨dx, q0, h1, h2⟩ := id hF
    refine ⟨_, rfl, _, rfl, a, dx, _, rfl, h1, a, rs, rfl, hF, fun H1 t k1 _ ht => ?_⟩
    have hv1 := hv.kp (Kp.of k1)
    have fin : Unk CT v H1 E := k.ext k1
    rcases hv1.flat with hf | ⟨q, rfl, hq⟩
    · refine ⟨t, fNames rs, rfl, .inr ht, .inl ⟨hf, _, rfl, ?_⟩⟩
      show if (!inV v ((fNames rs).map V.str)) = true then _ else _
      rw [no_in hv hf hx]
      exact iteT ⟨_, rfl, by show 1 ≤ 1000; decide, fun b hb => unk_made hb fin⟩
    · exact ⟨t, fNames rs, rfl, .inr ht, .inr ⟨q, rfl, hq, _, rfl, iteT ⟨_, rfl, by show 1 ≤ 1000; decide, fun b hb => unk_made hb fin⟩⟩⟩
theorem ok_subX {CT CP fTI f : Addr} {fd fdTI : FuncData} (F : Fun K "subtree" "Forest.subtree" sSub f fd) (T : Names mg) (Z : Fo P w K mg base C fI pN fN fA mc fdN fdA) (Y : XU K mg CT CP fTI) (GT : FnOk P w K mg base CX0 1 fTI fdTI ["self", "name"] (spTI CT)) (bT : Binds K fdTI ["self", "name"] []) :
    FnOk P w K mg base (L2.CX P w) 4 f fd ["self", "name"] (spNoName C CT) := by
  refine F.okX scSub (fun vs H Q E h => ?_) (fun cdv A outer s H vs Q E hr h => ?_)
  · obtain ⟨d, g, a, v, x, rs, rfl, _⟩ := h
    rfl
  · obtain ⟨d, g, a, v, x, rs, rfl, hF, hv, hx, k⟩ := h
    have hu := hu_of hr
    have nd := scSub.nd
    have hr1 : Room 2 (A.deeper (envOfC "Forest.subtree" (defScope sSub) s.heap.objs.size f cdv)) := hr.mono (by decide)
    have hrN := hr1
    have hrA : Room 3 (A.deeper (envOfC "Forest.subtree" (defScope sSub) s.heap.objs.size f cdv)) := hr
    refine ⟨_, pss_cons (ps_if (pt_cmpR (Gj.op_notInO hr.units) (pv 1) (pe_prop (pv 0) Z.Z.cl Z.hpN Z.GN hrN Z.bN .nil pass0 rfl) rfl) (pss_one (ps_raise rfl (takes_of rfl rfl rfl rfl) (pmk_oex Y.oT Y.iT Y.tT GT hr1 bT .nil (fun _ _ _ _ _ _ _ h => False.elim h) rfl Y.gT (pa_cons (pv 1) pa_nil)))) pss_nil)
(pss_one (ps_ret (pe_lc (own := [("inner", 2)]) (g := gName 2) rfl nd (pi_tup (pe_prop (pv 0) Z.Z.cl Z.hpN Z.GN hrN Z.bN .nil pass0 rfl)) (blkOk_by (N := nSub) (sc := defScope sSub) (by decide +kernel))
(fun _ _ _ _ _ => pg_name (i := 2) nd rfl (.inl rfl)) (fun _ _ _ _ _ => pts_one (pt_cmpR (r := rIn K false) op_in_seq (pv 1) (pe_meth (pv 0) Z.Z.cl Z.mA Z.GA hrA Z.bA .nil pass0 (pa_cons (pv 2) pa_nil)) rfl)) (fun _ _ _ _ _ => pv 2)))), ?_⟩
    obtain ⟨dx, q0, h1, h2⟩ := id hF
    refine ⟨_, rfl, _, rfl, a, dx, _, rfl, h1, a, rs, rfl, hF, fun H1 t k1 _ ht => ?_⟩
    have hv1 := hv.kp (Kp.of k1)
    have fin : Unk CT v H1 E := k.ext k1
    rcases hv1.flat with hf | ⟨q, rfl, hq⟩
    · refine ⟨t, fNames rs, rfl, .inr ht, .inl ⟨hf, _, rfl, ?_⟩⟩
      show if (!inV v ((fNames rs).map V.str)) = true then _ else _
      rw [no_in hv hf hx]
      exact iteT ⟨_, rfl, by show 1 ≤ 1000; decide, fun b hb => unk_made hb fin⟩
    · exact ⟨t, fNames rs, rfl, .inr ht, .inr ⟨q, rfl, hq, _, rfl, iteT ⟨_, rfl, by show 1 ≤ 1000; decide, fun b hb => unk_made hb fin⟩⟩⟩
/-! ### subtree -/
def subF (rs : List FRow) (n : Str) : List Str := (fNames rs).filter fun m => decide (n ∈ anc rs m)
def spSub (C : Addr) : Sp := fun vs H Q _ => ∃ (a : Addr) (rs : List FRow) (n : Str), vs = [.ref a, .str n] ∧ FoAt C H a rs ∧ Good rs ∧ n ∈ fNames rs ∧
  ∀ H' l, Ext H H' → H l = none → H' l = some (.lst ((subF rs n).map V.str)) → Q (.ref l) H'
theorem ok_sub {f : Addr} {fd : FuncData} (F : Fun K "subtree" "Forest.subtree" sSub f fd) (T : Names mg) (Z : Fo P w K mg base C fI pN fN fA mc fdN fdA) : FnOk P w K mg base CX0 4 f fd ["self", "name"] (spSub C) := by
  refine F.ok scSub (fun vs H Q E h => ?_) (fun cdv A outer s H vs Q E hr h => ?_)
  · obtain ⟨a, rs, n, rfl, _⟩ := h
    rfl
  · obtain ⟨a, rs, n, rfl, hF, hG, hn, k⟩ := h
    have hu := hu_of hr
    have nd := scSub.nd
    have hrN : Room 2 (A.deeper (envOfC "Forest.subtree" (defScope sSub) s.heap.objs.size f cdv)) := hr.mono (by decide)
    have hrA : Room 3 (A.deeper (envOfC "Forest.subtree" (defScope sSub) s.heap.objs.size f cdv)) := hr
    refine ⟨_, pss_cons (ps_if (pt_cmpR op_notIn_seq (pv 1) (pe_prop (pv 0) Z.Z.cl Z.hpN Z.GN hrN Z.bN .nil pass0 rfl) rfl) (pss_never) pss_nil)
(pss_one (ps_ret (pe_lc (own := [("inner", 2)]) (g := gName 2) rfl nd (pi_tup (pe_prop (pv 0) Z.Z.cl Z.hpN Z.GN hrN Z.bN .nil pass0 rfl)) (blkOk_by (N := nSub) (sc := defScope sSub) (by decide +kernel))
(fun _ _ _ _ _ => pg_name (i := 2) nd rfl (.inl rfl)) (fun _ _ _ _ _ => pts_one (pt_cmpR (r := rIn K false) op_in_seq (pv 1) (pe_meth (pv 0) Z.Z.cl Z.mA Z.GA hrA Z.bA .nil pass0 (pa_cons (pv 2) pa_nil)) rfl)) (fun _ _ _ _ _ => pv 2)))), ?_⟩
    obtain ⟨dx, q0, h1, h2⟩ := id hF
    refine ⟨_, rfl, _, rfl, a, dx, _, rfl, h1, a, rs, rfl, hF, fun H1 t k1 _ ht => ?_⟩
    refine ⟨t, _, rfl, .inr (SqT.of ht), rfl, strs_flat _, _, rfl, ?_⟩
    show if (!inV (V.str n) ((fNames rs).map V.str)) = true then _ else _
    rw [inV_strs, decide_eq_true hn]
    refine iteF ?_
    have f1 := hF.ext k1
    refine ⟨_, rfl, a, dx, _, rfl, k1 _ _ h1, a, rs, rfl, f1, fun H2 t2 k2 _ ht2 => ?_⟩
    refine ⟨t2, rfl, ⟨_, SqT.of ht2⟩, fun D hD => ?_⟩
    have k02 := k1.trans k2
    have hD0 : H D = none := none_of k02 hD
    have hl8 : (fNames rs).length ≤ 8 := by rw [fNames, List.length_map]; exact hG.2.1
    refine lc_it walk_tup (fun i H' => H' D = some (.lst ((((fNames rs).take i).filter fun m => decide (n ∈ anc rs m)).map V.str)) ∧ Ext H2 H') ⟨upd_same, Ext.new hD⟩ (fun i H' _ ⟨_, e⟩ => SqT.of (e _ _ ht2)) ?_ ?_
    · rintro i y H3 H4 hi ⟨d3, k3⟩ ⟨rfl, hy⟩
      rw [List.getElem?_map] at hy
      obtain ⟨m, hm, rfl⟩ := Option.map_eq_some_iff.mp hy
      have hmm := List.mem_of_getElem? hm
      obtain ⟨j, r, hj, hr1, hanc⟩ := anc_call hG hmm
      have f3 := hF.ext (k02.trans k3)
      obtain ⟨dx3, q3, g1, g2⟩ := id f3
      refine ⟨rfl, _, rfl, _, rfl, a, dx3, _, rfl, g1, rfl, _, rfl, a, rs, j, r, by rw [hr1]; rfl, f3, hG, hj, fun H5 l k5 hl0 hl => ?_⟩
      rw [hanc] at hl
      refine ⟨l, _, rfl, .inl (SqL.of hl), rfl, strs_flat _, _, rfl, ?_⟩
      show if inV (V.str n) ((anc rs m).map V.str) = true then _ else _
      rw [inV_strs]
      have ef := filter_take (fun m => decide (n ∈ anc rs m)) hm
      have d5 := k5 _ _ d3
      refine ite2 (fun e => ?_) (fun e => ?_)
      · rw [if_pos e] at ef
        refine ⟨_, rfl, _, d5, ?_, ?_, fun b o hb => ?_⟩
        · have h1 := List.length_filter_le (fun m => decide (n ∈ anc rs m)) ((fNames rs).take i)
          rw [List.length_take] at h1
          rw [List.length_map]
          exact small1000 (by omega)
        · rw [upd_same, ef, List.map_append]
          rfl
        · rw [upd_ne (ne_of_none hb hD)]
          exact k5 _ _ (k3 _ _ hb)
      · rw [if_neg e, List.append_nil] at ef
        exact ⟨by rw [ef]; exact d5, k3.trans k5⟩
    · rintro H3 ⟨d3, k3⟩
      rw [List.length_map, List.take_length] at d3
      exact k H3 D (k02.trans k3) hD0 d3
end
end Lw

set_option Elab.async false
set_option linter.all false
set_option maxRecDepth 100000
set_option maxHeartbeats 4000000
namespace Lw
open L2 hiding Ext
open PySem PySem.Spec PyProof.Rows Gn Gr Gk Go Gt Gf Gu Gx LamX
/-! ### _law_refusal: what it makes of the lambda -/
abbrev nRef : List Str := ["_law_work", "_law_caught", "e"]
def TTR (CT : Addr) : (XK → Hp → VK → Prop) → Hp → VK → Prop := fun tl H Q => ∀ Q' : VK,
  tl (fun cls d H' => ∃ (v : V) (dd : Addr), cls = .ref CT ∧ d = some dd ∧ H' dd = some (.xd [("name", v)]) ∧ ∀ H2 l, Ext H' H2 → H2 l = some (.lst [v]) → Q (.ref l) H2) H Q'
theorem scRef : FnScope nRef ["_law_work"] (defScope sLRefusal) := ⟨rfl, rfl, rfl, by decide +kernel, rfl, by decide +kernel, by decide +kernel⟩
theorem takes_len {X : Cx} {W : WX} (tk : Takes X W) : Takes X (fun cls d σ H => σ.length = X.N.length → W cls d σ H) := fun u s' ⟨a, B, sI, pins, σ, H, cls, d, e, I, nb, up, sky, na, os, ag, w⟩ => tk u s' ⟨a, B, sI, pins, σ, H, cls, d, e, I, nb, up, sky, na, os, ag, w I.len⟩
section
variable {X : Cx} {CT CP fTI g : Addr} {cdg : Value} {q : Str}
theorem ref_gives (T : Names X.mg) (Y : XU X.K X.mg CT CP fTI) : GivesTo X nRef "_law_refusal" (defScope sLRefusal) g cdg (defBody sLRefusal) "_law_work" q (TTR CT) := by
  intro f c' s H Q tl act hc h
  have nd := scRef.nd
  refine ⟨_, pss_cons (ps_set (i := 1) nd rfl (.inl rfl) pe_non)
    (pss_cons (ps_try_keep (X := (cxOf C8.CX0 X.prog X.w X.K X.mg X.base nRef "_law_refusal" (defScope sLRefusal) g cdg X.A X.stack s H C8.E0).nox) (c := .ref CP) (i := 2) (j := 1)
      (tb := fun W D σ H => ∃ Ech : XK, (∀ cls d σ' H', Ech cls d H' → σ'.length = 3 → W cls d σ' H') ∧ σ[0]? = some (some (.ref f)) ∧ H c' = some (CodeO c' q) ∧ tl Ech H (fun _ H' => D.nx σ H'))
      rfl rfl nd rfl rfl rfl rfl ⟨rfl, by decide, .inl Y.nm⟩ rfl (by decide) (by decide) rfl fun W pn xe tk _ => ?body)
    (pss_one (ps_ret (pe_ifExp (pt_val (pe_callB call_isX rfl T.isi (by decide +kernel) (pa_cons (pv 1) (pa_cons (pe_glob (v := .ref CT) rfl Y.gT rfl) pa_nil)))) (pe_lst (pa_cons (pe_xk (pv 1)) pa_nil)) (pe_lst pa_nil))))), ?_⟩
  case body =>
    refine ⟨fun pins s' σ H' D I h' => ?_⟩
    obtain ⟨Ech, hW, h1, h2, h3⟩ := h'
    exact (pss_one (ps_expr (act _ pn xe Ech _ _ (takes_len tk) (fun cls d σ' H' e l => hW cls d σ' H' e l)))).run pins s' σ H' D I ⟨h1, h2, h3⟩
  · refine ⟨_, ?_, rfl, hc, h _⟩
    rintro cls d σ' H' ⟨v, dd, rfl, rfl, hd, k⟩ hl
    refine ⟨Y.eT, fun a ha => ?_⟩
    match σ', hl with
    | [x0, x1, x2], _ =>
      have nda : dd ≠ a := ne_of_none hd ha
      have d3 : (upd H' a (ExK (.ref CT) (some dd) a)) dd = some (.xd [("name", v)]) := by rw [upd_ne nda]; exact hd
      have a3 : (upd H' a (ExK (.ref CT) (some dd) a)) a = some (ExK (.ref CT) (some dd) a) := upd_same
      have k3 : Ext H' (upd H' a (ExK (.ref CT) (some dd) a)) := Ext.new ha
      dsimp only [List.set]
      generalize upd H' a (ExK (.ref CT) (some dd) a) = H3 at d3 a3 k3 ⊢
      refine ⟨_, rfl, a, CT, some dd, _, _, true, rfl, a3, ⟨_, d3⟩, Y.cT, .own CT, Y.sT, true, rfl, iteT ?_⟩
      refine ⟨_, rfl, a, CT, dd, _, v, rfl, a3, d3, Y.fT, Y.nT, rfl, by show 1 ≤ sizeLine; decide, fun l hl => ?_⟩
      exact k _ l (k3.trans (Ext.new hl)) upd_same
end
end Lw

set_option Elab.async false
set_option linter.all false
set_option maxRecDepth 100000
set_option maxHeartbeats 8000000
namespace Lw
open L2 hiding Ext
open PySem PySem.Spec PyProof.Rows Gn Gr Gk Go Gt Gf Gu Gx LamX Ge Ga
theorem FoAt.kp {C a d g c : Addr} {ns : List Int} {b : Nat} {H H' : Hp} {rs : List FRow} (h : FoAt C H a rs) (G : Good rs) (D : Dw ns d g c b H) (k : Kp d g H H') : FoAt C H' a rs := by
  obtain ⟨⟨gs, l, t, hd, hg, _, _⟩, _⟩ := D
  obtain ⟨dx, q, h1, h2⟩ := h
  refine ⟨dx, q, k _ _ (ne_of h1 hd (by intro z; cases z)) (ne_of h1 hg (by intro z; cases z)) h1, k _ _ (fun e => ?_) (ne_of h2 hg (by intro z; cases z)) h2⟩
  rw [e, hd] at h2
  injection h2 with h2
  injection h2 with h2
  cases rs with
  | nil => have := G.1; simp at this
  | cons r rs =>
    have h3 : (kG, V.ref g) = ((Sum.inr r.1 : Key), parV r.2) := (List.cons.inj h2).1
    have h4 : V.ref g = parV r.2 := (Prod.mk.inj h3).2
    cases e2 : r.2 with
    | none => rw [e2] at h4; cases h4
    | some m => rw [e2] at h4; cases h4
theorem good_names {rs : List FRow} (G : Good rs) : fNames rs ≠ [] ∧ (fNames rs).length ≤ 8 ∧ (∀ x ∈ fNames rs, nameOk x = true) ∧ (fNames rs).Nodup := by
  have l : (fNames rs).length = rs.length := by unfold fNames; rw [List.length_map]
  refine ⟨fun e => ?_, by rw [l]; exact G.2.1, fun x hx => ?_, (good_nodup G.2.2).1⟩
  · rw [e] at l
    have := G.1
    simp at l
    omega
  · obtain ⟨r, hr, rfl⟩ := List.mem_map.mp hx
    exact (good_mem G.2.2 hr).1
instance ascDec (n : Nat) (x : Str) : Decidable (Asc n x) := by
  unfold Asc
  infer_instance
/-- one keyword of a method -/
def gS1 : List Value → List Value → List Value
  | [s], [a] => [s, a]
  | _, _ => []
def gS1V : List V → List V → List V
  | [s], [a] => [s, a]
  | _, _ => []
theorem kb_self {K : PySem.W.Frag} {fd : FuncData} {x y : Str} (b : ∀ (s : Shared) (u v : Value), BindsTo s fd ⟨[u], [(y, v)]⟩ [(x, u), (y, v)]) : KBinds K fd [x, y] [y] gS1 gS1V := by
  refine ⟨fun s us ws _ hl => ?_, fun r q => ?_⟩
  · match us, ws, hl with
    | [u], [v], _ => exact b s u v
    | [], [], hl => exact absurd hl (by show ¬ (0 : Nat) = 2; decide)
    | [], [_], hl => exact absurd hl (by show ¬ (0 : Nat) = 2; decide)
    | [], _ :: _ :: _, hl => exact absurd hl (by show ¬ (0 : Nat) = 2; decide)
    | [_], [], hl => exact absurd hl (by show ¬ (0 : Nat) = 2; decide)
    | [_], _ :: _ :: _, hl => exact absurd hl (by show ¬ (0 : Nat) = 2; decide)
    | _ :: _ :: _, [], hl => exact absurd hl (by show ¬ (0 : Nat) = 2; decide)
    | _ :: _ :: _, _ :: _, hl => exact absurd hl (by show ¬ (0 : Nat) = 2; decide)
  · cases r with
    | nil => cases q <;> exact .nil
    | cons r1 r2 =>
      cases r2 with
      | nil =>
        cases q with
        | nil => exact .nil
        | cons q1 q2 =>
          cases q2 with
          | nil => exact .cons r1 (.cons q1 .nil)
          | cons _ _ => exact .nil
      | cons _ _ => cases q <;> exact .nil
theorem eqv_self {d : PyData} (h : SeqAt.shaped d = true) : PyData.eqv d d = true := by
  rw [SeqAt.eqv_refl]
  exact SeqAt.canLay_of_shaped h
/-- what the table tells, through draws -/
theorem tabs_kp {T : List (Addr × Str)} {ns : List Int} {d g c : Addr} {b : Nat} {H H' : Hp} (D : Dw ns d g c b H) (k : Kp d g H H') (h : Tabs T H) : Tabs T H' := fun p hp => by
  obtain ⟨⟨gs, l, t, hd, hg, _, _⟩, _⟩ := D
  obtain ⟨ps, h1, h2, h3⟩ := h p hp
  refine ⟨ps, k _ _ (ne_of h1 hd (by intro z; cases z)) (ne_of h1 hg (by intro z; cases z)) h1, h2, fun pos cv hc => ?_⟩
  obtain ⟨c0, e1, e2⟩ := h3 pos cv hc
  exact ⟨c0, e1, k _ _ (ne_of e2 hd (by unfold CodeO; intro z; cases z)) (ne_of e2 hg (by unfold CodeO; intro z; cases z)) e2⟩
theorem dw_n {ns : List Int} {d g c : Addr} {b : Nat} {H H' : Hp} (h : Dw ns d g c b H) (k : ExtN H H') : Dw ns d g c b H' := by
  obtain ⟨⟨gs, l, t, h1, h2, h3, h4⟩, h5, h6, h7⟩ := h
  exact ⟨⟨gs, l, t, k _ _ h1 (by intro z q; cases q), k _ _ h2 (by intro z q; cases q), h3, h4⟩, k _ _ h5 (by intro z q; cases q), h6, h7⟩
theorem fo_n {C a : Addr} {H H' : Hp} {rs : List FRow} (h : FoAt C H a rs) (k : ExtN H H') : FoAt C H' a rs := by
  obtain ⟨dx, q, h1, h2⟩ := h
  exact ⟨dx, q, k _ _ h1 (by intro z q; cases q), k _ _ h2 (by intro z q; cases q)⟩
theorem rows_n {H H' : Hp} {vs : List V} {rs : List FRow} (h : RowsAt H vs rs) (k : ExtN H H') : RowsAt H' vs rs := ⟨h.1, fun i r hr => by
  obtain ⟨p, a, b⟩ := h.2 i r hr
  exact ⟨p, a, k _ _ b (by intro z q; cases q)⟩⟩
mutual
theorem dk_n {d g : Addr} {H H' : Hp} (k : ExtN H H') : ∀ {v : V} {x : PyData}, Dk d g H v x → Dk d g H' v x
  | _, _, .non => .non
  | _, _, .bl b => .bl b
  | _, _, .int i => .int i
  | _, _, .str x => .str x
  | _, _, .lst h n1 n2 a => .lst (k _ _ h (by intro z q; cases q)) n1 n2 (dk_nAll k a)
  | _, _, .tup h n1 n2 a => .tup (k _ _ h (by intro z q; cases q)) n1 n2 (dk_nAll k a)
  | _, _, .dct h n1 n2 => .dct (k _ _ h (by intro z q; cases q)) n1 n2
theorem dk_nAll {d g : Addr} {H H' : Hp} (k : ExtN H H') : ∀ {vs : List V} {ds : List PyData}, DkAll d g H vs ds → DkAll d g H' vs ds
  | _, _, .nil => .nil
  | _, _, .cons h a => .cons (dk_n k h) (dk_nAll k a)
end
abbrev nLaw : List Str := ["_law_script", "_law_state", "_law_turn", "_law_rows", "_law_forest_here", "_law_names", "_law_word", "_law_line", "_law_inside", "_law_told", "_law_more", "_law_odd", "_law_row", "_law_other"]
theorem scLaw : FnScope nLaw ["_law_script"] (defScope sLaw) := ⟨rfl, rfl, rfl, by decide +kernel, rfl, by decide +kernel, by decide +kernel⟩
abbrev T0 (t : Addr) : List (Addr × Str) := [(t, (envOfC "law" (defScope sLaw) 0 0 Value.none).qual ++ "<lambda>")]
section
variable {P : Program} {w : World} {K : PySem.W.Frag} {mg : Str → Option Value} {base : Heap} {C fI pN fN fA : Addr} {mc : Value} {fdN fdA : FuncData}
theorem ok_law {CT CP fTI fB fT fP fF fU fS fRf cc tt f : Addr} {fdB fdT fdP fdI fdF fdU fdS : FuncData} {ns : List Int} {a : Addr} {A : Around} {s : Shared} {H : Hp} (hl : ns.length ≤ 63) (B : Bed K mg base A) (hr : Room 6 (A.deeper (envOfC "law" (defScope sLaw) s.heap.objs.size f (.ref cc)))) (hS : SqL K H a (ns.map V.int))
    (TB : TabB base mg cc tt) (hT : H tt = some (.tbl #[])) (Y : XU K mg CT CP fTI)
    {dV kV doc pm cdv ct oc : Value} {an od : Option Addr} {osl : Array (Option Value)} (lRf : K.lookup fRf = some ⟨oc, od, .func (PySem.W.fnOf "_law_refusal" "_law_refusal" (defArgs sLRefusal) (defBody sLRefusal) (defScope sLRefusal) dV kV doc pm an cdv ct), osl⟩) (cRf : PySem.W.codeIn K cdv "_law_refusal" = true)
    (bRf : L2.Binds K (PySem.W.fnOf "_law_refusal" "_law_refusal" (defArgs sLRefusal) (defBody sLRefusal) (defScope sLRefusal) dV kV doc pm an cdv ct) ["_law_work"] []) (kRf : PySem.W.keepIn K (.ref fRf) = true) (mRf : mg "_law_refusal" = some (.ref fRf))
    (R : Draw P w K mg base ns fT fP fdT fdP) (T : Names mg) (Z : Fo P w K mg base C fI pN fN fA mc fdN fdA)
    (GI : FnOk P w K mg base CX0 4 fI fdI ["self", "rows"] (spInit C)) (bI : Binds K fdI ["self", "rows"] [])
    (GB : FnOk P w K mg base CX0 1 fB fdB ["_law_script"] (spBegun K ns)) (bB : Binds K fdB ["_law_script"] []) (kB : PySem.W.keepIn K (.ref fB) = true) (mB : mg "_law_begun" = some (.ref fB))
    (GF : FnOk P w K mg base CX0 5 fF fdF ["_law_state", "_law_most"] (spForest ns)) (bF : Binds K fdF ["_law_state", "_law_most"] []) (kF : PySem.W.keepIn K (.ref fF) = true) (mF : mg "_law_forest" = some (.ref fF))
    (GU : FnOk P w K mg base CX0 1 fU fdU ["_law_rows", "_law_word"] spUp) (bU : Binds K fdU ["_law_rows", "_law_word"] []) (kU : PySem.W.keepIn K (.ref fU) = true) (mU : mg "_law_up" = some (.ref fU))
    (kbA : KBinds K fdA ["self", "name"] ["name"] gS1 gS1V) (GAX : FnOk P w K mg base (L2.CX P w) 4 fA fdA ["self", "name"] (spNoName C CT)) (bAX : Binds K fdA ["self", "name"] [])
    (mS : Meth K C "subtree" fS) (GS : FnOk P w K mg base CX0 4 fS fdS ["self", "name"] (spSub C)) (bS : Binds K fdS ["self", "name"] []) (kbS : KBinds K fdS ["self", "name"] ["name"] gS1 gS1V) (GSX : FnOk P w K mg base (L2.CX P w) 4 fS fdS ["self", "name"] (spNoName C CT)) :
    ∃ t, PSs (cxOf CX0 P w K mg base nLaw "law" (defScope sLaw) f (.ref cc) A [] s H E0).nox (defBody sLaw) t ∧ t { nx := fun _ _ => False, rt := fun v _ => v = .bl true } (L2.start nLaw [.ref a]) H := by
  have nd := scLaw.nd
  have hu := hu_of hr
  have hgd : (A.deeper (envOfC "law" (defScope sLaw) s.heap.objs.size f (.ref cc))).guards = some [] := B.gd
  have hr5 : Room 5 (A.deeper (envOfC "law" (defScope sLaw) s.heap.objs.size f (.ref cc))) := hr.mono (by decide)
  have hr4 : Room 4 (A.deeper (envOfC "law" (defScope sLaw) s.heap.objs.size f (.ref cc))) := hr.mono (by decide)
  have hr3 : Room 3 (A.deeper (envOfC "law" (defScope sLaw) s.heap.objs.size f (.ref cc))) := hr.mono (by decide)
  have hr2 : Room 2 (A.deeper (envOfC "law" (defScope sLaw) s.heap.objs.size f (.ref cc))) := hr.mono (by decide)
  have hr1 : Room 1 (A.deeper (envOfC "law" (defScope sLaw) s.heap.objs.size f (.ref cc))) := hr.mono (by decide)
  refine ⟨_, pss_cons (ps_set (i := 1) nd rfl (.inl rfl) (pe_call GB hr1 rfl mB kB bB .nil pass0 (pa_cons (pv 0) pa_nil)))
(pss_cons (ps_for PassesOwn.never rfl (pi_range1 rfl T.range (pa_cons pe_int pa_nil)) (pg_name (i := 2) nd rfl (.inl rfl))
(pss_cons (ps_set (i := 3) nd rfl (.inr rfl) (pe_call GF hr5 rfl mF kF bF .nil pass0 (pa_cons (pv 1) (pa_cons pe_int pa_nil))))
(pss_cons (ps_asg (pe_tup (pa_cons (pe_make Z.Z.make GI hr5 rfl Z.Z.g bI .nil pass0 (pa_cons (pv 3) pa_nil)) (pa_cons (pe_lc (own := [("_law_row", 12)]) (g := gName 12) (tt := tYes) rfl nd (pi_list (pv 3)) (blkOk_by (N := nLaw) (sc := defScope sLaw) (by decide +kernel))
(fun _ _ _ _ _ => pg_name (i := 12) nd rfl (.inl rfl)) (fun _ _ _ _ _ => pts_nil) (fun _ _ _ _ _ => pe_ix (r := rIxT K) ix_tup (pv 12) pe_int (fun _ _ => rfl))) pa_nil))) (by exact (pg_tup rfl (pgs_cons (pg_name (i := 4) nd rfl (.inr rfl)) (pgs_cons (pg_name (i := 5) nd rfl (.inl rfl)) pgs_nil)))))
(pss_cons (ps_for PassesOwn.never rfl (pi_list (pv 5)) (pg_name (i := 6) nd rfl (.inr rfl))
(pss_cons (ps_par (i := 7) (j := 8) (by rfl) nd rfl rfl (by decide) rfl rfl (pa_cons (pe_call GU hr1 rfl mU kU bU .nil pass0 (pa_cons (pv 3) (pa_cons (pv 6) pa_nil))) (pa_cons (pe_lc (own := [("_law_other", 13)]) (g := gName 13) rfl nd (pi_list (pv 5)) (blkOk_by (N := nLaw) (sc := defScope sLaw) (by decide +kernel))
(fun _ _ _ _ _ => pg_name (i := 13) nd rfl (.inl rfl)) (fun _ _ _ _ _ => pts_one (pt_cmpR (r := rIn K false) op_in_seq (pv 6) (pe_call GU hr1 rfl mU kU bU .nil pass0 (pa_cons (pv 3) (pa_cons (pv 13) pa_nil))) rfl)) (fun _ _ _ _ _ => pv 13)) pa_nil)) (by rfl))
(pss_cons (ps_if (PW.pt (pw_or (pt_cmpR (op_neD hr.units) (pe_meth (pv 4) Z.Z.cl Z.mA Z.GA hr3 Z.bA .nil pass0 (pa_cons (pv 6) pa_nil)) (pv 7) (nomark _)) (pw_or1 (pt_cmpR (op_neD hr.units) (Go.pe_methK (pv 4) Z.Z.cl Z.mA Z.GA hr3 kbA pass0 (pk_cons (pv 6) pk_nil)) (pv 7) (nomark _))))) (pss_one (ps_ret pe_bl)) pss_nil)
(pss_cons (ps_if (PW.pt (pw_or (pt_cmpR (op_neD hr.units) (pe_meth (pv 4) Z.Z.cl mS GS hr4 bS .nil pass0 (pa_cons (pv 6) pa_nil)) (pv 8) (nomark _)) (pw_or1 (pt_cmpR (op_neD hr.units) (Go.pe_methK (pv 4) Z.Z.cl mS GS hr4 kbS pass0 (pk_cons (pv 6) pk_nil)) (pv 8) (nomark _))))) (pss_one (ps_ret pe_bl)) pss_nil)
(pss_cons (ps_set (i := 9) nd rfl (.inl rfl) (pe_meth (pv 4) Z.Z.cl Z.mA Z.GA hr3 Z.bA .nil pass0 (pa_cons (pv 6) pa_nil)))
(pss_cons (ps_expr (pe_bm0 PySem.F.plainAttrs_list PySem.F.slot_list_clear PySem.F.type_list_clear mt_clear (pv 9)))
(pss_cons (ps_set (i := 10) nd rfl (.inl rfl) (pe_meth (pv 4) Z.Z.cl mS GS hr4 bS .nil pass0 (pa_cons (pv 6) pa_nil)))
(pss_cons (ps_expr (pe_bm PySem.F.plainAttrs_list PySem.F.slot_list_append PySem.F.type_list_append mt_append (pv 10) (pa_cons pe_str pa_nil)))
(pss_one (ps_if (PW.pt (pw_or (pt_cmpR (op_neD hr.units) (pe_meth (pv 4) Z.Z.cl Z.mA Z.GA hr3 Z.bA .nil pass0 (pa_cons (pv 6) pa_nil)) (pv 7) (nomark _)) (pw_or1 (pt_cmpR (op_neD hr.units) (pe_meth (pv 4) Z.Z.cl mS GS hr4 bS .nil pass0 (pa_cons (pv 6) pa_nil)) (pv 8) (nomark _))))) (pss_one (ps_ret pe_bl)) pss_nil))))))))))
(pss_cons (ps_set (i := 11) nd rfl (.inr rfl) (pe_call R.GP hr3 rfl R.mP R.kP R.bP .nil pass0 (pa_cons (pv 1) (pa_cons (pe_lst (pa_cons pe_non (pa_cons pe_int (pa_cons pe_bl (pa_cons pe_str (pa_cons pe_str (pa_cons pe_str (pa_cons (pe_tup (pa_cons (pe_ix ix_list (pv 5) pe_int (fun _ _ => rfl)) pa_nil)) (pa_cons (pe_lst (pa_cons (pe_ix ix_list (pv 5) pe_int (fun _ _ => rfl)) pa_nil)) (pa_cons pe_dnewK (pa_cons (pe_ix ix_list (pv 3) pe_int (fun _ _ => rfl)) (pa_cons pe_int pa_nil)))))))))))) pa_nil))))
(pss_cons (ps_if (pt_cmpR op_ne (pe_callB (call_repr hgd hr.units B.sys) rfl T.repr (by decide +kernel) (pa_cons (pe_lamcall (T := T0 tt) (TT := TTR CT) (k := 4) rfl mRf kRf lRf cRf bRf scRef rfl (.inl rfl) (ref_gives (CP := CP) (fTI := fTI) T Y) TB rfl (List.mem_singleton.mpr rfl) (fun p hp _ => by cases List.mem_singleton.mp hp; rfl) hr (lamS_by (by show lamSB (defScope sLaw) _ = true; decide +kernel)) rfl (fun _ _ _ _ _ => rfl) (fun A outer s H E f c' hr2 => pe_meth (pe_var (i := 4) rfl (.inr (.inr rfl)) rfl rfl) Z.Z.cl Z.mA GAX hr2 bAX .nil (passes_call (takes_of rfl rfl rfl rfl) fun _ _ _ _ h => h) (pa_cons (pe_var (i := 11) rfl (.inr (.inr rfl)) rfl rfl) pa_nil))) pa_nil)) (pe_callB (call_repr hgd hr.units B.sys) rfl T.repr (by decide +kernel) (pa_cons (pe_lst (pa_cons (pv 11) pa_nil)) pa_nil)) (nomark _)) (pss_one (ps_ret pe_bl)) pss_nil)
(pss_one (ps_if (pt_cmpR op_ne (pe_callB (call_repr hgd hr.units B.sys) rfl T.repr (by decide +kernel) (pa_cons (pe_lamcall (T := T0 tt) (TT := TTR CT) (k := 4) rfl mRf kRf lRf cRf bRf scRef rfl (.inl rfl) (ref_gives (CP := CP) (fTI := fTI) T Y) TB rfl (List.mem_singleton.mpr rfl) (fun p hp _ => by cases List.mem_singleton.mp hp; rfl) hr (lamS_by (by show lamSB (defScope sLaw) _ = true; decide +kernel)) rfl (fun _ _ _ _ _ => rfl) (fun A outer s H E f c' hr2 => pe_meth (pe_var (i := 4) rfl (.inr (.inr rfl)) rfl rfl) Z.Z.cl mS GSX hr2 bS .nil (passes_call (takes_of rfl rfl rfl rfl) fun _ _ _ _ h => h) (pa_cons (pe_var (i := 11) rfl (.inr (.inr rfl)) rfl rfl) pa_nil))) pa_nil)) (pe_callB (call_repr hgd hr.units B.sys) rfl T.repr (by decide +kernel) (pa_cons (pe_lst (pa_cons (pv 11) pa_nil)) pa_nil)) (nomark _)) (pss_one (ps_ret pe_bl)) pss_nil))))))))
(pss_one (ps_ret pe_bl))), ?_⟩
  refine ⟨_, rfl, a, rfl, hS, hl, fun d g c H1 D1 x1 fd fg fc => ?_⟩
  have hT1 : Tabs (T0 tt) H1 := fun p hp => by
    cases List.mem_singleton.mp hp
    exact TabS.nil (x1 _ _ hT)
  refine ⟨3, rfl, by decide, by decide, for_range (lo := 0) (n := 3) (fun i σ H' => ∃ (v2 v3 v4 v5 v6 v7 v8 v9 v10 v11 : Option V), σ = [some (.ref a), some (.ref d), v2, v3, v4, v5, v6, v7, v8, v9, v10, v11, none, none] ∧ Dw ns d g c (i * 1000) H' ∧ Tabs (T0 tt) H') ⟨none, none, none, none, none, none, none, none, none, none, rfl, D1, hT1⟩ ?_ ?_⟩
  · rintro i σ H2 hi ⟨v2, v3, v4, v5, v6, v7, v8, v9, v10, v11, rfl, D2, tb2⟩
    refine ⟨_, rfl, d, g, c, _, 8, rfl, D2, by omega, by decide, by decide, fun lr rx rs H3 lr0 nrd nrg hr3' R3 G D3 k3 => ?_⟩
    have tb3 := tabs_kp D2 k3 tb2
    refine ⟨_, rfl, fun y dx hy hdx ne => ?_⟩
    have kx : Ext H3 (upd (upd H3 dx (.own y)) y (.ins C dx [])) := fun b o hb => by
      rw [upd_ne (ne_of_none hb hy), upd_ne (ne_of_none hb hdx)]
      exact hb
    refine ⟨y, lr, dx, rx, rs, rfl, upd_same, kx _ _ hr3', R3.ext kx, G, fun H5 q k5 i5 q5 => ⟨rfl, ?_⟩⟩
    have k45 : Ext H3 H5 := fun b o hb => k5 _ _ (ne_of_none hb hy) (kx _ _ hb)
    have f5 : FoAt C H5 y rs := ⟨dx, q, i5, q5⟩
    obtain ⟨nm0, nm8, nmo, nmn⟩ := good_names G
    refine ⟨_, rfl, lr, rfl, ⟨_, SqL.of (k45 _ _ hr3')⟩, fun ln hln => ?_⟩
    have D5 := D3.keep k45
    have nnd := D5.nd hln
    have nng := D5.ng hln
    refine lc_it walk_list (fun i H' => H' ln = some (.lst (((fNames rs).take i).map V.str)) ∧ Ext H5 H') ⟨upd_same, Ext.new hln⟩ (fun i H' _ ⟨_, e⟩ => SqL.of (e _ _ (k45 _ _ hr3'))) ?_ ?_
    · rintro i' z H6 H6' hi' ⟨d6, k6⟩ ⟨rfl, hz⟩
      obtain ⟨r, p, hr1', rfl, hp⟩ := R3.get hz
      have hrn : (fNames rs)[i']? = some r.1 := by unfold fNames; rw [List.getElem?_map, hr1']; rfl
      refine ⟨rfl, yes_of ?_⟩
      refine ⟨_, rfl, p, _, _, _, rfl, rfl, SqT.of (k6 _ _ (k45 _ _ hp)), (show atI [V.str r.1, parV r.2] ((0 : Nat) : Int) = some (V.str r.1) from atI_nat rfl), _, d6, ?_, ?_, fun x o e => ?_⟩
      · rw [List.length_map, List.length_take]
        exact small1000 (by omega)
      · rw [upd_same, List.take_add_one, hrn, List.map_append]
        rfl
      · rw [upd_ne (ne_of_none e hln)]
        exact k6 _ _ e
    rintro H6 ⟨d6, k6⟩
    have e6 : (fNames rs).take rx.length = fNames rs := List.take_of_length_le (by rw [R3.1]; unfold fNames; rw [List.length_map]; exact Nat.le_refl _)
    rw [e6] at d6
    refine ⟨by show 2 ≤ sizeLine; decide, fun tp htp => ?_⟩
    have k67 : Ext H6 (upd H6 tp (.tup [.ref y, .ref ln])) := Ext.new htp
    refine ⟨tp, _, rfl, SqT.of upd_same, rfl, _, _, rfl, _, _, rfl, rfl, ?_⟩
    generalize upd H6 tp (.tup [.ref y, .ref ln]) = H7 at k67 ⊢
    have k57 := k6.trans k67
    have k37 := k45.trans k57
    have f7 := f5.ext k57
    have n7 := k67 _ _ d6
    have r7 := k37 _ _ hr3'
    have R7 := R3.ext k37
    have D7 : Dw ns d g c (i * 1000 + 400) H7 := (D3.keep k37).mono (by omega)
    have tb7 := tb3.ext k37
    have nl8 : (fNames rs).length ≤ 8 := nm8
    dsimp only [List.set]
    refine ⟨_, rfl, ln, rfl, ⟨_, SqL.of n7⟩, ?_⟩
    refine for_it walk_list (fun j σ H' => ∃ (v6 v7 v8 v9 v10 : Option V), σ = [some (.ref a), some (.ref d), some (.int (0 + (i : Int))), some (.ref lr), some (.ref y), some (.ref ln), v6, v7, v8, v9, v10, v11, none, none] ∧ Ext H7 H') ⟨_, _, _, _, _, rfl, Ext.refl⟩ (fun j σ H' _ ⟨_, _, _, _, _, _, e⟩ => SqL.of (e _ _ n7)) ?_ ?_
    · rintro j x σ H8 H8' hj ⟨v6, v7, v8, v9, v10, rfl, k8⟩ ⟨rfl, hx⟩
      rw [List.getElem?_map] at hx
      obtain ⟨n, hn, rfl⟩ := Option.map_eq_some_iff.mp hx
      have hnm := List.mem_of_getElem? hn
      have r8 := k8 _ _ r7
      have R8 := R7.ext k8
      have f8 := f7.ext k8
      have n8 := k8 _ _ n7
      have strok : ∀ m ∈ fNames rs, PyData.strOk m = true := fun m hm => (name_asc19 (nmo m hm)).ok
      have shA : SeqAt.shaped (.list ((anc rs n).map PyData.str)) = true := shaped_strs fun m hm => strok m (anc_mem G hnm hm)
      have shS : SeqAt.shaped (.list ((subF rs n).map PyData.str)) = true := shaped_strs fun m hm => strok m (List.mem_filter.mp hm).1
      obtain ⟨ja, ra, hja, hra, hanc⟩ := anc_call G hnm
      refine ⟨_, rfl, _, rfl, lr, rx, rs, n, rfl, r8, R8, G, hnm, fun Ha l1 ka _ l1e => ?_⟩
      have na := ka _ _ n8
      refine ⟨_, rfl, ln, rfl, ⟨_, SqL.of na⟩, fun D hD => ?_⟩
      refine lc_it walk_list (fun i H' => H' D = some (.lst ((((fNames rs).take i).filter fun m => decide (n ∈ anc rs m)).map V.str)) ∧ Ext Ha H') ⟨upd_same, Ext.new hD⟩ (fun i H' _ ⟨_, e⟩ => SqL.of (e _ _ na)) ?_ ?_
      · rintro i' y1 Hb Hc hi' ⟨d3, k3'⟩ ⟨rfl, hy1⟩
        rw [List.getElem?_map] at hy1
        obtain ⟨m, hm, rfl⟩ := Option.map_eq_some_iff.mp hy1
        have hmm := List.mem_of_getElem? hm
        have kab := ka.trans k3'
        refine ⟨rfl, _, rfl, _, rfl, _, rfl, lr, rx, rs, m, rfl, kab _ _ r8, R8.ext kab, G, hmm, fun He l ke _ le => ?_⟩
        refine ⟨l, _, rfl, .inl (SqL.of le), rfl, strs_flat _, _, rfl, ?_⟩
        show if inV (V.str n) ((anc rs m).map V.str) = true then _ else _
        rw [inV_strs]
        have ef := filter_take (fun m => decide (n ∈ anc rs m)) hm
        have d5 := ke _ _ d3
        refine ite2 (fun e => ?_) (fun e => ?_)
        · rw [if_pos e] at ef
          refine ⟨_, rfl, _, d5, ?_, ?_, fun b o hb => ?_⟩
          · have h1 := List.length_filter_le (fun m => decide (n ∈ anc rs m)) ((fNames rs).take i')
            rw [List.length_take] at h1
            rw [List.length_map]
            exact small1000 (by omega)
          · rw [upd_same, ef, List.map_append]
            rfl
          · rw [upd_ne (ne_of_none hb hD)]
            exact ke _ _ (k3' _ _ hb)
        · rw [if_neg e, List.append_nil] at ef
          exact ⟨by rw [ef]; exact d5, k3'.trans ke⟩
      rintro Hb ⟨d3, k3'⟩
      rw [List.length_map, List.take_length] at d3
      have d3 : Hb D = some (.lst ((subF rs n).map V.str)) := d3
      have l1b := k3' _ _ l1e
      have kb := ka.trans k3'
      refine ⟨_, _, rfl, ?_⟩
      dsimp only [List.set]
      have fb := f8.ext kb
      have k7b := k8.trans kb
      clear ka k3' kb l1e na f8 n8 R8 r8
      have inst : ∀ {H' : Hp}, Ext H7 H' → ∃ dx q, H' y = some (.ins C dx [("_parents", .ref q)]) := fun e => (f7.ext e).elim fun dx h => h.elim fun q h => ⟨dx, q, h.1⟩
      -- ancestors
      obtain ⟨dx1, q1, i1⟩ := inst k7b
      refine ⟨_, rfl, y, dx1, _, rfl, i1, rfl, _, rfl, y, rs, ja, ra, by rw [hra]; rfl, f7.ext k7b, G, hja, fun Hc m1 kc _ m1e => ?_⟩
      rw [hanc] at m1e
      have k7c := k7b.trans kc
      refine ⟨_, rfl, _, _, .lst (SqL.of m1e) (dp_strs _), .lst (SqL.of (kc _ _ l1b)) (dp_strs _), shA, shA, _, rfl, ?_⟩
      rw [eqv_self shA]
      refine iteF ?_
      have l1c := kc _ _ l1b
      have d3c := kc _ _ d3
      obtain ⟨dx2, q2, i2⟩ := inst k7c
      refine ⟨_, rfl, y, dx2, _, rfl, i2, rfl, _, rfl, y, rs, ja, ra, by rw [hra]; rfl, f7.ext k7c, G, hja, fun Hd m2 kd _ m2e => ?_⟩
      rw [hanc] at m2e
      have k7d := k7c.trans kd
      refine ⟨_, rfl, _, _, .lst (SqL.of m2e) (dp_strs _), .lst (SqL.of (kd _ _ l1c)) (dp_strs _), shA, shA, _, rfl, ?_⟩
      rw [eqv_self shA]
      refine iteF ?_
      have l1d := kd _ _ l1c
      have d3d := kd _ _ d3c
      -- subtree
      obtain ⟨dx3, q3, i3⟩ := inst k7d
      refine ⟨_, rfl, y, dx3, _, rfl, i3, rfl, _, rfl, y, rs, n, rfl, f7.ext k7d, G, hnm, fun He m3 ke _ m3e => ?_⟩
      have k7e := k7d.trans ke
      refine ⟨_, rfl, _, _, .lst (SqL.of m3e) (dp_strs _), .lst (SqL.of (ke _ _ d3d)) (dp_strs _), shS, shS, _, rfl, ?_⟩
      rw [eqv_self shS]
      refine iteF ?_
      have l1e := ke _ _ l1d
      have d3e := ke _ _ d3d
      obtain ⟨dx4, q4, i4⟩ := inst k7e
      refine ⟨_, rfl, y, dx4, _, rfl, i4, rfl, _, rfl, y, rs, n, rfl, f7.ext k7e, G, hnm, fun Hf m4 kf _ m4e => ?_⟩
      have k7f := k7e.trans kf
      refine ⟨_, rfl, _, _, .lst (SqL.of m4e) (dp_strs _), .lst (SqL.of (kf _ _ d3e)) (dp_strs _), shS, shS, _, rfl, ?_⟩
      rw [eqv_self shS]
      refine iteF ?_
      have l1f := kf _ _ l1e
      have d3f := kf _ _ d3e
      -- new lists each time
      obtain ⟨dx5, q5, i5'⟩ := inst k7f
      refine ⟨_, rfl, y, dx5, _, rfl, i5', rfl, _, rfl, y, rs, ja, ra, by rw [hra]; rfl, f7.ext k7f, G, hja, fun Hg m5 kg m50 m5e => ?_⟩
      have k7g := k7f.trans kg
      have l1g := kg _ _ l1f
      have d3g := kg _ _ d3f
      have m5_7 : H7 m5 = none := none_of k7f m50
      dsimp only [List.set]
      refine ⟨_, rfl, .inl ⟨rfl, _, SqL.of m5e⟩, m5, _, rfl, rfl, m5e, ?_⟩
      have nl : l1 ≠ m5 := fun e => by rw [e, m50] at l1f; cases l1f
      have nD : D ≠ m5 := fun e => by rw [e, m50] at d3f; cases d3f
      have k7h : Ext H7 (upd Hg m5 (.lst [])) := fun b o hb => by
        rw [upd_ne (ne_of_none hb m5_7)]
        exact k7g _ _ hb
      have l1h : (upd Hg m5 (.lst [])) l1 = some (.lst ((anc rs n).map V.str)) := by rw [upd_ne nl]; exact l1g
      have d3h : (upd Hg m5 (.lst [])) D = some (.lst ((subF rs n).map V.str)) := by rw [upd_ne nD]; exact d3g
      generalize upd Hg m5 (.lst []) = Hh at k7h l1h d3h ⊢
      obtain ⟨dx6, q6, i6⟩ := inst k7h
      refine ⟨_, rfl, y, dx6, _, rfl, i6, rfl, _, rfl, y, rs, n, rfl, f7.ext k7h, G, hnm, fun Hi m6 ki m60 m6e => ?_⟩
      have k7i := k7h.trans ki
      have l1i := ki _ _ l1h
      have d3i := ki _ _ d3h
      have m6_7 : H7 m6 = none := none_of k7h m60
      have nl6 : l1 ≠ m6 := fun e => by rw [e, m60] at l1h; cases l1h
      have nD6 : D ≠ m6 := fun e => by rw [e, m60] at d3h; cases d3h
      have sl : (subF rs n).length ≤ 8 := Nat.le_trans (List.length_filter_le _ _) nl8
      dsimp only [List.set]
      refine ⟨_, rfl, .inl ⟨rfl, _, SqL.of m6e⟩, m6, _, _, rfl, rfl, m6e, by rw [List.length_map, sizeLine_eq]; omega, ?_⟩
      have k7j : Ext H7 (upd Hi m6 (.lst ((subF rs n).map V.str ++ [.str "x"]))) := fun b o hb => by
        rw [upd_ne (ne_of_none hb m6_7)]
        exact k7i _ _ hb
      have l1j : (upd Hi m6 (.lst ((subF rs n).map V.str ++ [.str "x"]))) l1 = some (.lst ((anc rs n).map V.str)) := by rw [upd_ne nl6]; exact l1i
      have d3j : (upd Hi m6 (.lst ((subF rs n).map V.str ++ [.str "x"]))) D = some (.lst ((subF rs n).map V.str)) := by rw [upd_ne nD6]; exact d3i
      generalize upd Hi m6 (.lst ((subF rs n).map V.str ++ [.str "x"])) = Hj at k7j l1j d3j ⊢
      obtain ⟨dx7, q7, i7⟩ := inst k7j
      refine ⟨_, rfl, y, dx7, _, rfl, i7, rfl, _, rfl, y, rs, ja, ra, by rw [hra]; rfl, f7.ext k7j, G, hja, fun Hk m7 kk _ m7e => ?_⟩
      rw [hanc] at m7e
      have k7k := k7j.trans kk
      refine ⟨_, rfl, _, _, .lst (SqL.of m7e) (dp_strs _), .lst (SqL.of (kk _ _ l1j)) (dp_strs _), shA, shA, _, rfl, ?_⟩
      rw [eqv_self shA]
      refine iteF ?_
      obtain ⟨dx8, q8, i8⟩ := inst k7k
      refine ⟨_, rfl, y, dx8, _, rfl, i8, rfl, _, rfl, y, rs, n, rfl, f7.ext k7k, G, hnm, fun Hl m8 kl _ m8e => ?_⟩
      refine ⟨_, rfl, _, _, .lst (SqL.of m8e) (dp_strs _), .lst (SqL.of (kl _ _ (kk _ _ d3j))) (dp_strs _), shS, shS, _, rfl, ?_⟩
      rw [eqv_self shS]
      refine iteF ?_
      exact ⟨_, _, _, _, _, rfl, k7k.trans kl⟩
    · rintro σ H8 ⟨v6, v7, v8, v9, v10, rfl, k8⟩
      have n8 := k8 _ _ n7
      have r8 := k8 _ _ r7
      have R8 := R7.ext k8
      have D8 := D7.keep k8
      obtain ⟨n0, nr, hn0⟩ : ∃ n0 nr, fNames rs = n0 :: nr := List.exists_cons_of_ne_nil nm0
      have a0 : atI ((fNames rs).map V.str) 0 = some (V.str n0) := by
        rw [hn0]
        exact (show atI ((n0 :: nr).map V.str) ((0 : Nat) : Int) = _ from atI_nat rfl)
      have an0 := name_asc19 (nmo n0 (by rw [hn0]; exact List.mem_cons_self))
      obtain ⟨r0, hr0⟩ : ∃ r0, rs[0]? = some r0 := ⟨_, List.getElem?_eq_getElem (by have := G.1; omega)⟩
      obtain ⟨p0, hp0, hp0e⟩ := R8.2 0 r0 hr0
      have b0 : atI rx 0 = some (V.ref p0) := (show atI rx ((0 : Nat) : Int) = _ from atI_nat hp0)
      have hr0m := List.mem_of_getElem? hr0
      have ar0 := good_mem G.2.2 hr0m
      refine ⟨_, rfl, _, rfl, ln, _, 0, _, rfl, rfl, SqL.of n8, a0, by show 1 ≤ sizeLine; decide, fun t1 ht1 => ?_⟩
      have D9 := D8.new (o := .tup [.str n0]) ht1
      have k9 := k8.trans (Ext.new (o := .tup [.str n0]) ht1)
      have e9 : (upd H8 t1 (.tup [.str n0])) t1 = some (.tup [.str n0]) := upd_same
      have n9 := new_same (o := .tup [.str n0]) ht1 _ _ n8
      have r9 := new_same (o := .tup [.str n0]) ht1 _ _ r8
      have p9 := new_same (o := .tup [.str n0]) ht1 _ _ hp0e
      have t1d := D8.nd ht1
      have t1g := D8.ng ht1
      generalize upd H8 t1 (.tup [.str n0]) = H9 at D9 k9 e9 n9 r9 p9 ⊢
      refine ⟨_, rfl, ln, _, 0, _, rfl, rfl, SqL.of n9, a0, by show 1 ≤ sizeLine; decide, fun t2 ht2 => ?_⟩
      have D10 := D9.new (o := .lst [.str n0]) ht2
      have k10 := k9.trans (Ext.new (o := .lst [.str n0]) ht2)
      have e10 := new_same (o := .lst [.str n0]) ht2 _ _ e9
      have f10 : (upd H9 t2 (.lst [.str n0])) t2 = some (.lst [.str n0]) := upd_same
      have r10 := new_same (o := .lst [.str n0]) ht2 _ _ r9
      have p10 := new_same (o := .lst [.str n0]) ht2 _ _ p9
      have t2d := D9.nd ht2
      have t2g := D9.ng ht2
      generalize upd H9 t2 (.lst [.str n0]) = H10 at D10 k10 e10 f10 r10 p10 ⊢
      intro t3 ht3
      have D11 := D10.new (o := .dK []) ht3
      have k11 := k10.trans (Ext.new (o := .dK []) ht3)
      have e11 := new_same (o := .dK []) ht3 _ _ e10
      have f11 := new_same (o := .dK []) ht3 _ _ f10
      have r11 := new_same (o := .dK []) ht3 _ _ r10
      have p11 := new_same (o := .dK []) ht3 _ _ p10
      have g11 : (upd H10 t3 (.dK [])) t3 = some (.dK []) := upd_same
      have t3d := D10.nd ht3
      have t3g := D10.ng ht3
      generalize upd H10 t3 (.dK []) = H11 at D11 k11 e11 f11 r11 p11 g11 ⊢
      refine ⟨_, rfl, lr, _, 0, _, rfl, rfl, SqL.of r11, b0, by show 11 ≤ sizeLine; decide, fun q hq => ?_⟩
      have p0d : p0 ≠ d := fun e => by
        obtain ⟨⟨gs, l, t, hd, hg, _, _⟩, _⟩ := D11
        exact ne_of p11 hd (by intro z; cases z) e
      have p0g : p0 ≠ g := fun e => by
        obtain ⟨⟨gs, l, t, hd, hg, _, _⟩, _⟩ := D11
        exact ne_of p11 hg (by intro z; cases z) e
      refine ⟨d, g, c, _, D11.new hq, by omega, .inl ⟨q, _, rfl, upd_same, D11.nd hq, D11.ng hq, by show 0 < 11; decide, by show 11 ≤ 1000000; decide, fun v H12 hv D12 k12 => ?_⟩⟩
      have kq := (Kp.new (d := d) (g := g) hq).trans k12
      have k712 : Kp d g H7 H12 := (Kp.of k11).trans kq
      have f12 := f7.kp G D7 k712
      have tb12 := tabs_kp D7 k712 tb7
      have nowd : ∀ z : Str, nameOk z = false → isA (fNames rs) (.str z) = false := fun z hz => decide_eq_false fun m => by
        have := nmo z m
        rw [hz] at this
        cases this
      obtain ⟨x, dk, hx, ok1⟩ : ∃ x, Dk d g H12 v x ∧ isA (fNames rs) x = false ∧ Ok 1 x := by
        simp only [List.mem_cons, List.not_mem_nil, or_false] at hv
        rcases hv with rfl | rfl | rfl | rfl | rfl | rfl | rfl | rfl | rfl | rfl | rfl
        · exact ⟨_, .non, rfl, Ok.flat (by decide +kernel) (by decide +kernel) (by decide +kernel)⟩
        · exact ⟨_, .int _, rfl, Gk.ok_int (by decide)⟩
        · exact ⟨_, .bl _, rfl, Ok.flat (by decide +kernel) (by decide +kernel) (by decide +kernel)⟩
        · exact ⟨_, .str _, nowd _ (by decide +kernel), ok_str (by decide +kernel)⟩
        · exact ⟨_, .str _, nowd _ (by decide +kernel), ok_str (by decide +kernel)⟩
        · exact ⟨_, .str _, nowd _ (by decide +kernel), ok_str (by decide +kernel)⟩
        · exact ⟨_, .tup (kq _ _ t1d t1g e11) t1d t1g (.cons (.str n0) .nil), rfl, ok_tuple (fun x hx => by rw [List.mem_singleton.mp hx]; exact ok_str an0) (by show 1 ≤ 2; decide)⟩
        · exact ⟨_, .lst (kq _ _ t2d t2g f11) t2d t2g (.cons (.str n0) .nil), rfl, ok_list (fun x hx => by rw [List.mem_singleton.mp hx]; exact ok_str an0) (by show 1 ≤ 2; decide)⟩
        · exact ⟨_, .dct (kq _ _ t3d t3g g11) t3d t3g, rfl, ok_dict (fun x hx => by cases hx) (by show 0 ≤ 2; decide)⟩
        · have hp12 := kq _ _ p0d p0g p11
          cases hq2 : r0.2 with
          | none =>
            rw [hq2] at hp12
            exact ⟨_, .tup hp12 p0d p0g (.cons (.str r0.1) (.cons .non .nil)), rfl, ok_tuple (fun x hx => by
              simp only [List.mem_cons, List.not_mem_nil, or_false] at hx
              rcases hx with rfl | rfl
              · exact ok_str (name_asc19 ar0.1)
              · exact Ok.flat (by decide +kernel) (by decide +kernel) (by decide +kernel)) (Nat.le_refl _)⟩
          | some m =>
            rw [hq2] at hp12
            exact ⟨_, .tup hp12 p0d p0g (.cons (.str r0.1) (.cons (.str m) .nil)), rfl, ok_tuple (fun x hx => by
              simp only [List.mem_cons, List.not_mem_nil, or_false] at hx
              rcases hx with rfl | rfl
              · exact ok_str (name_asc19 ar0.1)
              · exact ok_str (name_asc19 ((ar0.2 m hq2).2))) (Nat.le_refl _)⟩
        · exact ⟨_, .int _, rfl, Gk.ok_int (by decide)⟩
      obtain ⟨s1, s2, s3⟩ := ok_list (n := 1) (ds := [x]) (fun y hy => by rw [List.mem_singleton.mp hy]; exact ok1) (by show 1 ≤ 2; decide)
      have s2 : (PyData.list [x]).depth ≤ 60 := by omega
      have s3 : (PyData.list [x]).shown.length ≤ sizeLine := by
        have e2 : 200 * 4 ^ (1 + 1) = 3200 := (by decide)
        rw [sizeLine_eq]
        omega
      dsimp only [List.set]
      refine ⟨tb12, fun Ha ea tba Q' => ?_⟩
      obtain ⟨dxa, qa, ia, _⟩ := fo_n f12 ea
      refine ⟨_, rfl, y, dxa, _, rfl, ia, rfl, _, rfl, d, g, y, v, x, rs, rfl, fo_n f12 ea, dk_n ea dk, hx, fun Hb dd kb _ ddb => ⟨v, dd, rfl, rfl, ddb, fun Hc l kc le => ?_⟩⟩
      have kac := kb.trans kc
      have dkc := (dk_n ea dk).kp (Kp.of kac)
      refine ⟨_, _, rfl, Dr.lst le (.cons dkc.dr .nil), s1, s2, s3, ?_⟩
      refine ⟨_, rfl, by show 1 ≤ sizeLine; decide, fun l2 hl2 => ?_⟩
      have kad := kac.trans (Ext.new (o := .lst [v]) hl2)
      have dkd := (dk_n ea dk).kp (Kp.of kad)
      refine ⟨_, _, rfl, Dr.lst upd_same (.cons dkd.dr .nil), s1, s2, s3, rfl, _, rfl, iteNS rfl ?_⟩
      have Dd := (dw_n D12 ea).keep kad
      have tbd := tba.ext kad
      have fd := (fo_n f12 ea).ext kad
      generalize upd Hc l2 (.lst [v]) = Hd at dkd Dd tbd fd ⊢
      -- subtree
      refine ⟨tbd, fun He ee tbe Q'' => ?_⟩
      obtain ⟨dxe, qe, ie, _⟩ := fo_n fd ee
      refine ⟨_, rfl, y, dxe, _, rfl, ie, rfl, _, rfl, d, g, y, v, x, rs, rfl, fo_n fd ee, dk_n ee dkd, hx, fun Hf df kf _ dff => ⟨v, df, rfl, rfl, dff, fun Hg l3 kg le3 => ?_⟩⟩
      have kfg := kf.trans kg
      have dkg := (dk_n ee dkd).kp (Kp.of kfg)
      refine ⟨_, _, rfl, Dr.lst le3 (.cons dkg.dr .nil), s1, s2, s3, ?_⟩
      refine ⟨_, rfl, by show 1 ≤ sizeLine; decide, fun l4 hl4 => ?_⟩
      have kfh := kfg.trans (Ext.new (o := .lst [v]) hl4)
      have dkh := (dk_n ee dkd).kp (Kp.of kfh)
      refine ⟨_, _, rfl, Dr.lst upd_same (.cons dkh.dr .nil), s1, s2, s3, rfl, _, rfl, iteNS rfl ?_⟩
      exact ⟨_, _, _, _, _, _, _, _, _, _, rfl, ((dw_n Dd ee).keep kfh).mono (by omega), tbe.ext kfh⟩
  · rintro σ H2 ⟨v2, v3, v4, v5, v6, v7, v8, v9, v10, v11, rfl, D2, _⟩
    rfl
end
end Lw

set_option Elab.async false
set_option linter.all false
set_option maxRecDepth 100000
set_option maxHeartbeats 8000000
namespace Lw
open L2 hiding Ext
open PySem PySem.Spec PyProof.Rows Gn Gr Gk Go Gt Gf Gu Ge Gx LamX
theorem kit_self {K : PySem.W.Frag} {C : Addr} : PySem.W.kitOne K (.ref C) (.ref C) = some true := by
  unfold PySem.W.kitOne
  rw [if_pos (by simp)]
/-- what the top has left, def by def -/
theorem all_mk {P : Program} {w : World} {K : PySem.W.Frag} {h : Heap} {mg : Str → Option Value} {fa : Addr} (X : K.In h) (G : h.Ns mainGlobals mg) (hfa : mg "law" = some (.ref fa))
    {fq0 : Addr} {odq0 anq0 : Option Addr} {slq0 : Array (Option Value)} {ocq0 kVq0 dcq0 pmq0 cdq0 ctq0 : Value}
    (aq0 : PySem.W.nsIn K mainGlobals "_law_begun" = some (some (.ref fq0))) (lq0 : K.lookup fq0 = some ⟨ocq0, odq0, .func (PySem.W.fnOf "_law_begun" "_law_begun" (defArgs sBegun) (defBody sBegun) (defScope sBegun) .none kVq0 dcq0 pmq0 anq0 cdq0 ctq0), slq0⟩) (cq0 : PySem.W.codeIn K cdq0 "_law_begun" = true) (kq0 : PySem.W.keepIn K (.ref fq0) = true)
    {fq1 : Addr} {odq1 anq1 : Option Addr} {slq1 : Array (Option Value)} {ocq1 kVq1 dcq1 pmq1 cdq1 ctq1 : Value}
    (aq1 : PySem.W.nsIn K mainGlobals "_law_mixed" = some (some (.ref fq1))) (lq1 : K.lookup fq1 = some ⟨ocq1, odq1, .func (PySem.W.fnOf "_law_mixed" "_law_mixed" (defArgs sMixed) (defBody sMixed) (defScope sMixed) .none kVq1 dcq1 pmq1 anq1 cdq1 ctq1), slq1⟩) (cq1 : PySem.W.codeIn K cdq1 "_law_mixed" = true) (kq1 : PySem.W.keepIn K (.ref fq1) = true)
    {fq2 : Addr} {odq2 anq2 : Option Addr} {slq2 : Array (Option Value)} {ocq2 kVq2 dcq2 pmq2 cdq2 ctq2 : Value}
    (aq2 : PySem.W.nsIn K mainGlobals "_law_take" = some (some (.ref fq2))) (lq2 : K.lookup fq2 = some ⟨ocq2, odq2, .func (PySem.W.fnOf "_law_take" "_law_take" (defArgs sTake) (defBody sTake) (defScope sTake) .none kVq2 dcq2 pmq2 anq2 cdq2 ctq2), slq2⟩) (cq2 : PySem.W.codeIn K cdq2 "_law_take" = true) (kq2 : PySem.W.keepIn K (.ref fq2) = true)
    {fq3 : Addr} {odq3 anq3 : Option Addr} {slq3 : Array (Option Value)} {ocq3 kVq3 dcq3 pmq3 cdq3 ctq3 : Value}
    (aq3 : PySem.W.nsIn K mainGlobals "_law_pick" = some (some (.ref fq3))) (lq3 : K.lookup fq3 = some ⟨ocq3, odq3, .func (PySem.W.fnOf "_law_pick" "_law_pick" (defArgs sPick) (defBody sPick) (defScope sPick) .none kVq3 dcq3 pmq3 anq3 cdq3 ctq3), slq3⟩) (cq3 : PySem.W.codeIn K cdq3 "_law_pick" = true) (kq3 : PySem.W.keepIn K (.ref fq3) = true)
    {fq4 : Addr} {odq4 anq4 : Option Addr} {slq4 : Array (Option Value)} {ocq4 kVq4 dcq4 pmq4 cdq4 ctq4 : Value}
    (aq4 : PySem.W.nsIn K mainGlobals "_law_words" = some (some (.ref fq4))) (lq4 : K.lookup fq4 = some ⟨ocq4, odq4, .func (PySem.W.fnOf "_law_words" "_law_words" (defArgs sWords) (defBody sWords) (defScope sWords) .none kVq4 dcq4 pmq4 anq4 cdq4 ctq4), slq4⟩) (cq4 : PySem.W.codeIn K cdq4 "_law_words" = true) (kq4 : PySem.W.keepIn K (.ref fq4) = true)
    {fq5 : Addr} {odq5 anq5 : Option Addr} {slq5 : Array (Option Value)} {ocq5 kVq5 dcq5 pmq5 cdq5 ctq5 : Value}
    (aq5 : PySem.W.nsIn K mainGlobals "_law_forest" = some (some (.ref fq5))) (lq5 : K.lookup fq5 = some ⟨ocq5, odq5, .func (PySem.W.fnOf "_law_forest" "_law_forest" (defArgs sForest) (defBody sForest) (defScope sForest) .none kVq5 dcq5 pmq5 anq5 cdq5 ctq5), slq5⟩) (cq5 : PySem.W.codeIn K cdq5 "_law_forest" = true) (kq5 : PySem.W.keepIn K (.ref fq5) = true)
    {fq6 : Addr} {odq6 anq6 : Option Addr} {slq6 : Array (Option Value)} {ocq6 kVq6 dcq6 pmq6 cdq6 ctq6 : Value}
    (aq6 : PySem.W.nsIn K mainGlobals "is_name" = some (some (.ref fq6))) (lq6 : K.lookup fq6 = some ⟨ocq6, odq6, .func (PySem.W.fnOf "is_name" "is_name" (defArgs sName) (defBody sName) (defScope sName) .none kVq6 dcq6 pmq6 anq6 cdq6 ctq6), slq6⟩) (cq6 : PySem.W.codeIn K cdq6 "is_name" = true) (kq6 : PySem.W.keepIn K (.ref fq6) = true)
    {fq7 : Addr} {odq7 anq7 : Option Addr} {slq7 : Array (Option Value)} {ocq7 kVq7 dcq7 pmq7 cdq7 ctq7 : Value}
    (aq7 : PySem.W.nsIn K mainGlobals "is_row" = some (some (.ref fq7))) (lq7 : K.lookup fq7 = some ⟨ocq7, odq7, .func (PySem.W.fnOf "is_row" "is_row" (defArgs sRow) (defBody sRow) (defScope sRow) .none kVq7 dcq7 pmq7 anq7 cdq7 ctq7), slq7⟩) (cq7 : PySem.W.codeIn K cdq7 "is_row" = true) (kq7 : PySem.W.keepIn K (.ref fq7) = true)
    {fq8 : Addr} {odq8 anq8 : Option Addr} {slq8 : Array (Option Value)} {ocq8 kVq8 dcq8 pmq8 cdq8 ctq8 : Value}
    (aq8 : PySem.W.nsIn K mainGlobals "first_wrong" = some (some (.ref fq8))) (lq8 : K.lookup fq8 = some ⟨ocq8, odq8, .func (PySem.W.fnOf "first_wrong" "first_wrong" (defArgs sWrong) (defBody sWrong) (defScope sWrong) .none kVq8 dcq8 pmq8 anq8 cdq8 ctq8), slq8⟩) (cq8 : PySem.W.codeIn K cdq8 "first_wrong" = true) (kq8 : PySem.W.keepIn K (.ref fq8) = true)
    {fq9 : Addr} {odq9 anq9 : Option Addr} {slq9 : Array (Option Value)} {ocq9 kVq9 dcq9 pmq9 ctq9 : Value} {cc tt : Addr}
    (aq9 : PySem.W.nsIn K mainGlobals "law" = some (some (.ref fq9))) (lq9 : K.lookup fq9 = some ⟨ocq9, odq9, .func (PySem.W.fnOf "law" "law" (defArgs sLaw) (defBody sLaw) (defScope sLaw) .none kVq9 dcq9 pmq9 anq9 (.ref cc) ctq9), slq9⟩) (cq9 : PySem.W.codeIn K (.ref cc) "law" = true) (kq9 : PySem.W.keepIn K (.ref fq9) = true)
    {fq10 : Addr} {odq10 anq10 : Option Addr} {slq10 : Array (Option Value)} {ocq10 kVq10 dcq10 pmq10 cdq10 ctq10 : Value}
    (aq10 : PySem.W.nsIn K mainGlobals "_law_up" = some (some (.ref fq10))) (lq10 : K.lookup fq10 = some ⟨ocq10, odq10, .func (PySem.W.fnOf "_law_up" "_law_up" (defArgs sLUp) (defBody sLUp) (defScope sLUp) .none kVq10 dcq10 pmq10 anq10 cdq10 ctq10), slq10⟩) (cq10 : PySem.W.codeIn K cdq10 "_law_up" = true) (kq10 : PySem.W.keepIn K (.ref fq10) = true)
    {fq11 : Addr} {odq11 anq11 : Option Addr} {slq11 : Array (Option Value)} {ocq11 kVq11 dcq11 pmq11 cdq11 ctq11 : Value}
    (aq11 : PySem.W.nsIn K mainGlobals "_law_refusal" = some (some (.ref fq11))) (lq11 : K.lookup fq11 = some ⟨ocq11, odq11, .func (PySem.W.fnOf "_law_refusal" "_law_refusal" (defArgs sLRefusal) (defBody sLRefusal) (defScope sLRefusal) .none kVq11 dcq11 pmq11 anq11 cdq11 ctq11), slq11⟩) (cq11 : PySem.W.codeIn K cdq11 "_law_refusal" = true) (kq11 : PySem.W.keepIn K (.ref fq11) = true)
    {C : Addr} (aC : PySem.W.nsIn K mainGlobals "Forest" = some (some (.ref C)))
    {fI : Addr} {odI anI : Option Addr} {slI : Array (Option Value)} {ocI kVI dcI pmI cdI ctI : Value}
    (aI : PySem.W.findIn K (.ref C) "__init__" = some (some (.ref fI))) (iI : PySem.W.isFn K (.ref fI) = true)
    (lI : K.lookup fI = some ⟨ocI, odI, .func (PySem.W.fnOf "__init__" "Forest.__init__" (defArgs sInit) (defBody sInit) (defScope sInit) .none kVI dcI pmI anI cdI ctI), slI⟩) (cI : PySem.W.codeIn K cdI "Forest.__init__" = true) (kI : PySem.W.keepIn K (.ref fI) = true)
    {fS : Addr} {odS anS : Option Addr} {slS : Array (Option Value)} {ocS kVS dcS pmS cdS ctS : Value}
    {pS : Addr} {rrS : List Value} (aS : PySem.W.findIn K (.ref C) "names" = some (some (.ref pS))) (gS : PySem.W.specialIn K (.ref pS) "__get__" = some (some (.builtin "property.__get__"))) (tS : PySem.W.takesIn K (.ref pS) = some true) (rS : PySem.W.recIn K pS "property" = some (.ref fS :: rrS))
    (lS : K.lookup fS = some ⟨ocS, odS, .func (PySem.W.fnOf "names" "Forest.names" (defArgs sNames) (defBody sNames) (defScope sNames) .none kVS dcS pmS anS cdS ctS), slS⟩) (cS : PySem.W.codeIn K cdS "Forest.names" = true) (kS : PySem.W.keepIn K (.ref fS) = true)
    {fA : Addr} {odA anA : Option Addr} {slA : Array (Option Value)} {ocA kVA dcA pmA cdA ctA : Value}
    (aA : PySem.W.findIn K (.ref C) "ancestors" = some (some (.ref fA))) (iA : PySem.W.isFn K (.ref fA) = true)
    (lA : K.lookup fA = some ⟨ocA, odA, .func (PySem.W.fnOf "ancestors" "Forest.ancestors" (defArgs sAnc) (defBody sAnc) (defScope sAnc) .none kVA dcA pmA anA cdA ctA), slA⟩) (cA : PySem.W.codeIn K cdA "Forest.ancestors" = true) (kA : PySem.W.keepIn K (.ref fA) = true)
    {fU : Addr} {odU anU : Option Addr} {slU : Array (Option Value)} {ocU kVU dcU pmU cdU ctU : Value}
    (aU : PySem.W.findIn K (.ref C) "subtree" = some (some (.ref fU))) (iU : PySem.W.isFn K (.ref fU) = true)
    (lU : K.lookup fU = some ⟨ocU, odU, .func (PySem.W.fnOf "subtree" "Forest.subtree" (defArgs sSub) (defBody sSub) (defScope sSub) .none kVU dcU pmU anU cdU ctU), slU⟩) (cU : PySem.W.codeIn K cdU "Forest.subtree" = true) (kU : PySem.W.keepIn K (.ref fU) = true)
    {tM : Tok}
    (pg : PySem.W.plainGet K C Str.empty = true)
    (hd : PySem.W.hasDictIn K C = true)
    (po : PySem.W.plainOver K C = true)
    (sa : PySem.W.findIn K (.ref C) "__setattr__" = some (some (.builtin "object.__setattr__")))
    (mk : PySem.W.makesIn K C = true)
    (kc : PySem.W.keepIn K (.ref C) = true)
    (nP : PySem.W.findIn K (.ref C) "_parents" = some none)
    (rd : PySem.W.readsIn K C (.type "type") = true)
    (ga : PySem.W.specialIn K (.ref C) "__getattribute__" = some (some (.builtin "type.__getattribute__")))
    (mo : PySem.W.findCls K (.ref C) (.type "type") "MOST" = some (.val (.int 8 tM)))
    (ha : PySem.W.findIn K (.ref C) "__class__" = some (some (.builtin "object.__class__")))
    (hn : PySem.W.specialIn K (.builtin "object.__class__") "__get__" = some (some (.builtin "getset_descriptor.__get__")))
    (ht : PySem.W.takesIn K (.builtin "object.__class__") = some true)
    (hm : PySem.W.mroIn K C (.type "object") = some true)
    {tk0 : Tok} (kg0 : PySem.W.nsIn K mainGlobals "LETTERS" = some (some (.str letters tk0)))
    {tk1 : Tok} (kg1 : PySem.W.nsIn K mainGlobals "LONGEST" = some (some (.int 8 tk1)))
    (z0 : PySem.W.nsIn K mainGlobals "isinstance" = some none)
    (z1 : PySem.W.nsIn K mainGlobals "str" = some none)
    (z2 : PySem.W.nsIn K mainGlobals "int" = some none)
    (z3 : PySem.W.nsIn K mainGlobals "bool" = some none)
    (z4 : PySem.W.nsIn K mainGlobals "list" = some none)
    (z5 : PySem.W.nsIn K mainGlobals "tuple" = some none)
    (z6 : PySem.W.nsIn K mainGlobals "dict" = some none)
    (z7 : PySem.W.nsIn K mainGlobals "len" = some none)
    (z8 : PySem.W.nsIn K mainGlobals "all" = some none)
    (z9 : PySem.W.nsIn K mainGlobals "enumerate" = some none)
    (z10 : PySem.W.nsIn K mainGlobals "range" = some none)
    (z11 : PySem.W.nsIn K mainGlobals "min" = some none)
    (z12 : PySem.W.nsIn K mainGlobals "zip" = some none)
    (z13 : PySem.W.nsIn K mainGlobals "repr" = some none)
    {nm q : Str} {N : Addr} {bs bmT : List Value} {sn : List Str} {sub : List Value} {ab : Bool} {col : Option Bool} {dd : Option Addr} {k0 k1 k2 k3 k5 : Option Value} {CT CP : Addr} {fTI : Addr} {odTI anTI : Option Addr} {slTI : Array (Option Value)} {ocTI kVTI dcTI pmTI cdTI ctTI : Value}
    (CT_a : PySem.W.nsIn K mainGlobals "UnknownAccount" = some (some (.ref CT)))
    (CP_a : PySem.W.nsIn K mainGlobals "PurseError" = some (some (.ref CP)))
    (gT0 : PySem.W.findIn K (.ref CT) "__getattribute__" = some (some (.builtin "BaseException.__getattribute__")))
    (hT0 : PySem.W.findIn K (.ref CT) "__getattr__" = some none)
    (sT : PySem.W.subIn K (.ref CT) (.type "BaseException") = some true)
    (dT : PySem.W.hasDictIn K CT = true)
    (xT : PySem.W.findIn K (.ref CT) "__class__" = some (some (.builtin "object.__class__")))
    (yT : PySem.W.mroIn K CT (.type "object") = some true)
    (qT : PySem.W.keepIn K (.ref CT) = true)
    (uT : PySem.W.typeIn K (.ref CT) = some (.type "type"))
    (sP : PySem.W.subIn K (.ref CP) (.type "BaseException") = some true)
    (dP : PySem.W.hasDictIn K CP = true)
    (uP : PySem.W.typeIn K (.ref CP) = some (.type "type"))
    (sTP : PySem.W.subIn K (.ref CT) (.ref CP) = some true)
    (lCT : K.lookup CT = some (excClassObj nm q CT N bs bmT true sn sub ab col dd k0 k1 k2 k3 k5 "ValueError.__new__"))
    (rbT : PySem.HandSPX.refsVE bmT = true)
    (saT : PySem.W.findIn K (.ref CT) "__setattr__" = some (some (.builtin "object.__setattr__")))
    (nT_ : PySem.W.findIn K (.ref CT) "name" = some none)
    (aTI : PySem.W.findIn K (.ref CT) "__init__" = some (some (.ref fTI)))
    (tTI : PySem.W.typeIn K (.ref fTI) = some (.type "function"))
    (lTI : K.lookup fTI = some ⟨ocTI, odTI, .func (PySem.W.fnOf "__init__" "UnknownAccount.__init__" (defArgs sTI) (defBody sTI) (defScope sTI) .none kVTI dcTI pmTI anTI cdTI ctTI), slTI⟩)
    (cTI : PySem.W.codeIn K cdTI "UnknownAccount.__init__" = true)
    (kTI : PySem.W.keepIn K (.ref fTI) = true)
    (tabl : PySem.W.tabIn K "law" = some (cc, tt))
    (ntt : K.lookup tt = none)
    : ∃ (fd : FuncData) (c t : Addr), PySem.W.tabIn K "law" = some (c, t) ∧ K.lookup t = none ∧ Fun K "law" "law" sLaw fa fd ∧ fd.code = .ref c ∧ (∀ (s : Shared) (u : Value), BindsTo s fd ⟨[u], []⟩ [("_law_script", u)]) ∧
      ∀ (base : Heap) (A : Around) (s : Shared) (H : Hp) (a : Addr) (ns : List Int), ns.length ≤ 63 → Bed K mg base A → TabB base mg c t → H t = some (.tbl #[]) → Room 6 (A.deeper (envOfC "law" (defScope sLaw) s.heap.objs.size fa (.ref c))) → SqL K H a (ns.map V.int) →
        ∃ q, PSs (cxOf CX0 P w K mg base nLaw "law" (defScope sLaw) fa (.ref c) A [] s H E0).nox (defBody sLaw) q ∧ q { nx := fun _ _ => False, rt := fun v _ => v = .bl true } (L2.start nLaw [.ref a]) H := by
  have e := hfa.symm.trans (PySem.W.mg_of X G aq9)
  cases e
  have Fq0 := fun_mk (st := sBegun) lq0 cq0 kq0
  have mq0 := PySem.W.mg_of X G aq0
  have bq0 := Fq0.binds (ps := ["_law_script"]) fun _ _ _ _ _ _ us hl => match us, hl with | [_], _ => rfl
  have Fq1 := fun_mk (st := sMixed) lq1 cq1 kq1
  have mq1 := PySem.W.mg_of X G aq1
  have bq1 := Fq1.binds (ps := ["_law_state"]) fun _ _ _ _ _ _ us hl => match us, hl with | [_], _ => rfl
  have Fq2 := fun_mk (st := sTake) lq2 cq2 kq2
  have mq2 := PySem.W.mg_of X G aq2
  have bq2 := Fq2.binds (ps := ["_law_state", "_law_size"]) fun _ _ _ _ _ _ us hl => match us, hl with | [_, _], _ => rfl
  have Fq3 := fun_mk (st := sPick) lq3 cq3 kq3
  have mq3 := PySem.W.mg_of X G aq3
  have bq3 := Fq3.binds (ps := ["_law_state", "_law_some"]) fun _ _ _ _ _ _ us hl => match us, hl with | [_, _], _ => rfl
  have Fq4 := fun_mk (st := sWords) lq4 cq4 kq4
  have mq4 := PySem.W.mg_of X G aq4
  have bq4 := Fq4.binds (ps := ["_law_state", "_law_size"]) fun _ _ _ _ _ _ us hl => match us, hl with | [_, _], _ => rfl
  have Fq5 := fun_mk (st := sForest) lq5 cq5 kq5
  have mq5 := PySem.W.mg_of X G aq5
  have bq5 := Fq5.binds (ps := ["_law_state", "_law_most"]) fun _ _ _ _ _ _ us hl => match us, hl with | [_, _], _ => rfl
  have Fq6 := fun_mk (st := sName) lq6 cq6 kq6
  have mq6 := PySem.W.mg_of X G aq6
  have bq6 := Fq6.binds (ps := ["value"]) fun _ _ _ _ _ _ us hl => match us, hl with | [_], _ => rfl
  have Fq7 := fun_mk (st := sRow) lq7 cq7 kq7
  have mq7 := PySem.W.mg_of X G aq7
  have bq7 := Fq7.binds (ps := ["value", "earlier"]) fun _ _ _ _ _ _ us hl => match us, hl with | [_, _], _ => rfl
  have Fq8 := fun_mk (st := sWrong) lq8 cq8 kq8
  have mq8 := PySem.W.mg_of X G aq8
  have bq8 := Fq8.binds (ps := ["rows"]) fun _ _ _ _ _ _ us hl => match us, hl with | [_], _ => rfl
  have Fq9 := fun_mk (st := sLaw) lq9 cq9 kq9
  have mq9 := PySem.W.mg_of X G aq9
  have bq9 := Fq9.binds (ps := ["_law_script"]) fun _ _ _ _ _ _ us hl => match us, hl with | [_], _ => rfl
  have Fq10 := fun_mk (st := sLUp) lq10 cq10 kq10
  have mq10 := PySem.W.mg_of X G aq10
  have bq10 := Fq10.binds (ps := ["_law_rows", "_law_word"]) fun _ _ _ _ _ _ us hl => match us, hl with | [_, _], _ => rfl
  have Fq11 := fun_mk (st := sLRefusal) lq11 cq11 kq11
  have mq11 := PySem.W.mg_of X G aq11
  have bq11 := Fq11.binds (ps := ["_law_work"]) fun _ _ _ _ _ _ us hl => match us, hl with | [_], _ => rfl
  have FI := fun_mk (st := sInit) lI cI kI
  have bI := FI.binds (ps := ["self", "rows"]) fun _ _ _ _ _ _ us hl => match us, hl with | [_, _], _ => rfl
  have FS := fun_mk (st := sNames) lS cS kS
  have bS := FS.binds (ps := ["self"]) fun _ _ _ _ _ _ us hl => match us, hl with | [_], _ => rfl
  have FA := fun_mk (st := sAnc) lA cA kA
  have bA := FA.binds (ps := ["self", "name"]) fun _ _ _ _ _ _ us hl => match us, hl with | [_, _], _ => rfl
  have FU := fun_mk (st := sSub) lU cU kU
  have bU := FU.binds (ps := ["self", "name"]) fun _ _ _ _ _ _ us hl => match us, hl with | [_, _], _ => rfl
  have Z0 : FC K mg C fI (.type "type") := ⟨⟨pg, hd, po, sa⟩, ⟨mk, aI, iI, kc⟩, nP, ⟨rd, ga⟩, ⟨_, mo, ⟨_, rfl⟩⟩, ha, hn, ht, hm, kit_self, PySem.W.mg_of X G aC⟩
  have T : Names mg := ⟨(PySem.W.mg_none_of X G z0), (PySem.W.mg_none_of X G z1), (PySem.W.mg_none_of X G z2), (PySem.W.mg_none_of X G z3), (PySem.W.mg_none_of X G z4), (PySem.W.mg_none_of X G z5), (PySem.W.mg_none_of X G z6), (PySem.W.mg_none_of X G z7), (PySem.W.mg_none_of X G z8), (PySem.W.mg_none_of X G z9), (PySem.W.mg_none_of X G z10), (PySem.W.mg_none_of X G z11), (PySem.W.mg_none_of X G z12), (PySem.W.mg_none_of X G z13), ⟨_, PySem.W.mg_of X G kg0⟩, ⟨_, PySem.W.mg_of X G kg1⟩⟩
  refine ⟨_, cc, tt, tabl, ntt, Fq9, rfl, fun s v => .of_eq rfl, fun base A s H a ns hl B TB hTt hr hS => ?_⟩
  have GM : FnOk P w K mg base CX0 1 _ _ ["_law_state"] (spMixed ns) := ok_mixed ns Fq1
  have GT : FnOk P w K mg base CX0 2 _ _ ["_law_state", "_law_size"] (spTake ns) := ok_take ns Fq2 GM bq1 kq1 mq1
  have GP : FnOk P w K mg base CX0 3 _ _ ["_law_state", "_law_some"] (spPick K ns) := ok_pick ns Fq3 GT bq2 kq2 mq2 T.len
  have R : Draw P w K mg base ns fq2 fq3 _ _ := ⟨GT, bq2, kq2, mq2, GP, bq3, kq3, mq3, T.len, T.range⟩
  have GW := ok_words (P := P) (w := w) (base := base) ns Fq4 R
  have GF := ok_forest (P := P) (w := w) (base := base) ns Fq5 R GW bq4 kq4 mq4
  have GN : FnOk P w K mg base CX0 1 _ _ ["value"] spName := ok_name Fq6 T
  have GO := ok_row (P := P) (w := w) (base := base) Fq7 T GN bq6 kq6 mq6
  have GX := ok_wrong (P := P) (w := w) (base := base) Fq8 T GO bq7 kq7 mq7
  have GI := ok_init (P := P) (w := w) (base := base) FI T Z0 GX bq8 kq8 mq8
  have GS := ok_names (P := P) (w := w) (base := base) FS T Z0
  have hS' : PropOf K C "names" pS fS := ⟨aS, gS, tS, ⟨_, rS⟩⟩
  have GA := ok_anc (P := P) (w := w) (base := base) FA T Z0 hS' GS bS
  have Z : Fo P w K mg base C fI pS fS fA (.type "type") _ _ := ⟨Z0, hS', GS, bS, ⟨aA, iA, kA⟩, GA, bA⟩
  have FTI := fun_mk (st := sTI) lTI cTI kTI
  have bTI := FTI.binds (ps := ["self", "name"]) fun _ _ _ _ _ _ us hl => match us, hl with | [_, _], _ => rfl
  have Y : XU K mg CT CP fTI := ⟨⟨⟨_, _, _, _, _, _, _, _, _, _, _, _, _, _, _, lCT, rbT⟩, saT, sT, uT, qT⟩, PySem.W.mg_of X G CT_a, aTI, tTI, nT_, ⟨gT0, hT0, sT, dT, xT, hn, ht, yT⟩, ⟨gT0, hT0, sT, dT⟩, PySem.W.mg_of X G CP_a, PySem.W.exm_ref sP dP uP sTP, kit_self⟩
  have GTI := ok_ti (P := P) (w := w) (base := base) FTI Y
  have GUp := ok_up (P := P) (w := w) (base := base) Fq10 T
  have GAX := ok_ancX (P := P) (w := w) (base := base) FA T Z Y GTI bTI
  have GSX := ok_subX (P := P) (w := w) (base := base) FU T Z Y GTI bTI
  have GSu := ok_sub (P := P) (w := w) (base := base) FU T Z
  exact ok_law (CT := CT) (CP := CP) (fTI := fTI) hl B hr hS TB hTt Y lq11 cq11 bq11 kq11 mq11 R T Z GI bI (ok_begun ns Fq0 T.list) bq0 kq0 mq0 GF bq5 kq5 mq5 GUp bq10 kq10 mq10 (kb_self fun s u v => .of_eq rfl) GAX bA ⟨aU, iU, kU⟩ GSu bU (kb_self fun s u v => .of_eq rfl) GSX
end Lw
open PySem PySem.W PyProof.Rows
set_option maxRecDepth 100000 in
set_option maxHeartbeats 0 in
theorem PySem.Challenge.cw_hearpurse_k02_ancestors_and_subtrees_holds : PySem.Challenge.rw_hearpurse_k02_ancestors_and_subtrees.Holds := by
  w_on; o_law; k_head; (case hw => w_witness2)
  k_fill
  refine Ga.walk_lawT (l := PySem.Challenge.rw_hearpurse_k02_ancestors_and_subtrees) (n := 63) (k := 6) (x := "_law_script") (st := Lw.sLaw) (N := Lw.nLaw) rfl (by decide) rfl rfl ⟨rfl, by decide, by decide⟩ (by decide +kernel) rfl Lw.scLaw (fun w h Y => PySem.W.km_in_of Y) ?F
  case F =>
    intro w mg fa h KX G hmg
    refine' Lw.all_mk KX G hmg ?aq0 ?lq0 ?cq0 ?kq0 ?aq1 ?lq1 ?cq1 ?kq1 ?aq2 ?lq2 ?cq2 ?kq2 ?aq3 ?lq3 ?cq3 ?kq3 ?aq4 ?lq4 ?cq4 ?kq4 ?aq5 ?lq5 ?cq5 ?kq5 ?aq6 ?lq6 ?cq6 ?kq6 ?aq7 ?lq7 ?cq7 ?kq7 ?aq8 ?lq8 ?cq8 ?kq8 ?aq9 ?lq9 ?cq9 ?kq9 ?aq10 ?lq10 ?cq10 ?kq10 ?aq11 ?lq11 ?cq11 ?kq11 ?aC ?aI ?iI ?lI ?cI ?kI ?aS ?gS ?tS ?rS ?lS ?cS ?kS ?aA ?iA ?lA ?cA ?kA ?aU ?iU ?lU ?cU ?kU ?pg ?hd ?po ?sa ?mk ?kc ?nP ?rd ?ga ?mo ?ha ?hn ?ht ?hm ?kg0 ?kg1 ?z0 ?z1 ?z2 ?z3 ?z4 ?z5 ?z6 ?z7 ?z8 ?z9 ?z10 ?z11 ?z12 ?z13 ?CT_a ?CP_a ?gT0 ?hT0 ?sT ?dT ?xT ?yT ?qT ?uT ?sP ?dP ?uP ?sTP ?lCT ?rbT ?saT ?nT_ ?aTI ?tTI ?lTI ?cTI ?kTI ?tabl ?ntt
    (case aq0 => k_is)
    (case lq0 => k_is)
    (case cq0 => k_is)
    (case kq0 => k_is)
    (case aq1 => k_is)
    (case lq1 => k_is)
    (case cq1 => k_is)
    (case kq1 => k_is)
    (case aq2 => k_is)
    (case lq2 => k_is)
    (case cq2 => k_is)
    (case kq2 => k_is)
    (case aq3 => k_is)
    (case lq3 => k_is)
    (case cq3 => k_is)
    (case kq3 => k_is)
    (case aq4 => k_is)
    (case lq4 => k_is)
    (case cq4 => k_is)
    (case kq4 => k_is)
    (case aq5 => k_is)
    (case lq5 => k_is)
    (case cq5 => k_is)
    (case kq5 => k_is)
    (case aq6 => k_is)
    (case lq6 => k_is)
    (case cq6 => k_is)
    (case kq6 => k_is)
    (case aq7 => k_is)
    (case lq7 => k_is)
    (case cq7 => k_is)
    (case kq7 => k_is)
    (case aq8 => k_is)
    (case lq8 => k_is)
    (case cq8 => k_is)
    (case kq8 => k_is)
    (case aq9 => k_is)
    (case lq9 => k_is)
    (case cq9 => k_is)
    (case kq9 => k_is)
    (case aq10 => k_is)
    (case lq10 => k_is)
    (case cq10 => k_is)
    (case kq10 => k_is)
    (case aq11 => k_is)
    (case lq11 => k_is)
    (case cq11 => k_is)
    (case kq11 => k_is)
    (case aC => k_is)
    (case aI => k_is)
    (case iI => k_is)
    (case lI => k_is)
    (case cI => k_is)
    (case kI => k_is)
    (case aS => k_is)
    (case gS => k_is)
    (case tS => k_is)
    (case rS => k_is)
    (case lS => k_is)
    (case cS => k_is)
    (case kS => k_is)
    (case aA => k_is)
    (case iA => k_is)
    (case lA => k_is)
    (case cA => k_is)
    (case kA => k_is)
    (case aU => k_is)
    (case iU => k_is)
    (case lU => k_is)
    (case cU => k_is)
    (case kU => k_is)
    (case pg => k_is)
    (case hd => k_is)
    (case po => k_is)
    (case sa => k_is)
    (case mk => k_is)
    (case kc => k_is)
    (case nP => k_is)
    (case rd => k_is)
    (case ga => k_is)
    (case mo => k_is)
    (case ha => k_is)
    (case hn => k_is)
    (case ht => k_is)
    (case hm => k_is)
    (case kg0 => k_is)
    (case kg1 => k_is)
    (case z0 => k_is)
    (case z1 => k_is)
    (case z2 => k_is)
    (case z3 => k_is)
    (case z4 => k_is)
    (case z5 => k_is)
    (case z6 => k_is)
    (case z7 => k_is)
    (case z8 => k_is)
    (case z9 => k_is)
    (case z10 => k_is)
    (case z11 => k_is)
    (case z12 => k_is)
    (case z13 => k_is)
    (case CT_a => k_is)
    (case CP_a => k_is)
    (case gT0 => k_is)
    (case hT0 => k_is)
    (case sT => k_is)
    (case dT => k_is)
    (case xT => k_is)
    (case yT => k_is)
    (case qT => k_is)
    (case uT => k_is)
    (case sP => k_is)
    (case dP => k_is)
    (case uP => k_is)
    (case sTP => k_is)
    (case lCT => k_is)
    (case rbT => with_unfolding_all rfl)
    (case saT => k_is)
    (case nT_ => k_is)
    (case aTI => k_is)
    (case tTI => k_is)
    (case lTI => k_is)
    (case cTI => k_is)
    (case kTI => k_is)
    (case tabl => first | k_is | rfl | with_unfolding_all rfl)
    (case ntt => first | k_is | rfl | with_unfolding_all rfl)

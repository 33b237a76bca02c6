import PyProof.Rows.All
import Wide.All
import OpenK.AllK
import Wide.FinOn
import HandS.Base
import HandS.Call
import HandS.List
import HandS.Comp
import HandS.Ends
import HandS.Dict
import HandS.Iter
import HandS.Words
import HandS.Wide
import PyProof.ReprRoads
import HandS.ForMost
import HandS.IsInst
import HandS.Walk
import PyProof.ReprLen
import PyProof.StrLawsRepr
import HandS.ClsMeth
import HandS.Property
import HandS.OwnEq
import HandS.DictComp
import HandS.Conv
import HandS.FStr
import PyProof.InstNe
import HandS.Text
import KE.KDictList
import HandS.Zip
import KE.GoesNew
import KE.GoesEnum
import PyProof.NeKinds
import KE.GoesEnumKw
import PyProof.Rows.CallKwBuiltin
import PyProof.DictFindH
import PyProof.TupleKey
import KE.DataEq
import HandS.SetBool
import HandS.NoneIn
import KE.KDictWalk
import HandS.ExcOwn
import HandS.ExcInit
import HandS.Exc
import HandS.ExcValue
import HandS.ExcField
import HandS.ExcIs
import KE.KExcIs
import HandS.WordsExc
import HandS.Flow
import HandS.ListItems
import HandS.Deep
import KE.DataFind
import HandS.Lambda
import HandS.EndBits
import KE.KNest
import PySem.Challenge.RW_hearpurse_k09_invalid_arguments
set_option Elab.async false
set_option linter.all false
set_option maxRecDepth 100000
set_option maxHeartbeats 4000000
namespace Gn
open PySem PySem.Spec PyProof.Rows L2

/-! ## heaps -/
theorem new_same {H : Hp} {p : Addr} {o : HO} (h : H p = none) : ∀ b u, H b = some u → upd H p o b = some u := by
  intro b u e
  rw [upd_ne (ne_of_none e h)]
  exact e
/-- the heap less two objects: those of the draws -/
def Rs (d g : Addr) (H : Hp) : Hp := fun a => if a = d ∨ a = g then none else H a
section
variable {d g a p : Addr} {H H' H2 : Hp} {o u : HO}
theorem rs_of (h : Rs d g H a = some o) : H a = some o ∧ a ≠ d ∧ a ≠ g := by
  unfold Rs at h
  by_cases c : a = d ∨ a = g
  · rw [if_pos c] at h; cases h
  · rw [if_neg c] at h
    exact ⟨h, fun e => c (.inl e), fun e => c (.inr e)⟩
theorem rs_to (h : H a = some o) (h1 : a ≠ d) (h2 : a ≠ g) : Rs d g H a = some o := by
  unfold Rs
  rw [if_neg (fun c => c.elim h1 h2)]
  exact h
/-- all that is no draw's stands -/
def Kp (d g : Addr) (H H' : Hp) : Prop := ∀ a o, a ≠ d → a ≠ g → H a = some o → H' a = some o
theorem Kp.refl : Kp d g H H := fun _ _ _ _ e => e
theorem Kp.trans (h : Kp d g H H') (k : Kp d g H' H2) : Kp d g H H2 := fun a o n1 n2 e => k a o n1 n2 (h a o n1 n2 e)
theorem Kp.new (hp : H p = none) : Kp d g H (upd H p o) := fun a u _ _ e => new_same hp a u e
theorem Kp.of (h : ∀ a o, H a = some o → H' a = some o) : Kp d g H H' := fun a o _ _ e => h a o e
theorem Kp.at_d : Kp d g H (upd H d o) := fun a u n1 _ e => by rw [upd_ne n1]; exact e
theorem Kp.at_g : Kp d g H (upd H g o) := fun a u _ n2 e => by rw [upd_ne n2]; exact e
end

/-! ## the draws' state -/
def kG : Key := Sum.inr ("great" : Str)
def kC : Key := Sum.inr ("cells" : Str)
def kL : Key := Sum.inr ("left" : Str)
def kT : Key := Sum.inr ("turn" : Str)
def dk (g c : Addr) (l t : Int) : List (Key × V) := [(kG, .ref g), (kC, .ref c), (kL, .int l), (kT, .int t)]
section
variable {g c : Addr} {l t z : Int} {H : Hp} {d : Addr}
theorem nGC : ¬ kG = kC := by decide +kernel
theorem nGL : ¬ kG = kL := by decide +kernel
theorem nGT : ¬ kG = kT := by decide +kernel
theorem nCL : ¬ kC = kL := by decide +kernel
theorem nCT : ¬ kC = kT := by decide +kernel
theorem nLT : ¬ kL = kT := by decide +kernel
theorem dk_g : valV (dk g c l t) kG = some (.ref g) := valV_pos rfl
theorem dk_c : valV (dk g c l t) kC = some (.ref c) := (valV_neg nGC).trans (valV_pos rfl)
theorem dk_l : valV (dk g c l t) kL = some (.int l) := (valV_neg nGL).trans ((valV_neg nCL).trans (valV_pos rfl))
theorem dk_t : valV (dk g c l t) kT = some (.int t) := (valV_neg nGT).trans ((valV_neg nCT).trans ((valV_neg nLT).trans (valV_pos rfl)))
theorem get_g (h : H d = some (.dK (dk g c l t))) : DGet H d (.str "great") (some (.ref g)) := by
  rw [← dk_g (g := g) (c := c) (l := l) (t := t)]
  exact DGet.k (k := kG) h
theorem get_c (h : H d = some (.dK (dk g c l t))) : DGet H d (.str "cells") (some (.ref c)) := by
  rw [← dk_c (g := g) (c := c) (l := l) (t := t)]
  exact DGet.k (k := kC) h
theorem get_l (h : H d = some (.dK (dk g c l t))) : DGet H d (.str "left") (some (.int l)) := by
  rw [← dk_l (g := g) (c := c) (l := l) (t := t)]
  exact DGet.k (k := kL) h
theorem get_t (h : H d = some (.dK (dk g c l t))) : DGet H d (.str "turn") (some (.int t)) := by
  rw [← dk_t (g := g) (c := c) (l := l) (t := t)]
  exact DGet.k (k := kT) h
theorem put_dk_l : putK (dk g c l t) kL (.int z) = dk g c z t := by
  unfold putK dk
  simp [nGL, nCL, Ne.symm nLT, (show ¬ kT = kL from fun e => nLT e.symm)]
theorem put_dk_t : putK (dk g c l t) kT (.int z) = dk g c l z := by
  unfold putK dk
  simp [nGT, nCT, nLT]
theorem put_l (h : H d = some (.dK (dk g c l t))) : DPut H d (.str "left") (.int z) (upd H d (.dK (dk g c z t))) := by
  rw [← put_dk_l (l := l)]
  exact DPut.k (k := kL) h (by show 4 < sizeLine; decide)
theorem put_t (h : H d = some (.dK (dk g c l t))) : DPut H d (.str "turn") (.int z) (upd H d (.dK (dk g c l z))) := by
  rw [← put_dk_t (t := t)]
  exact DPut.k (k := kT) h (by show 4 < sizeLine; decide)
theorem merge_dk : mergeK [] (dk g c l t) = dk g c l t := by
  have e1 : putK [] kG (.ref g) = [(kG, V.ref g)] := rfl
  have e2 : putK [(kG, V.ref g)] kC (.ref c) = [(kG, V.ref g), (kC, V.ref c)] := by unfold putK; simp [nGC]
  have e3 : putK [(kG, V.ref g), (kC, V.ref c)] kL (.int l) = [(kG, V.ref g), (kC, V.ref c), (kL, V.int l)] := by unfold putK; simp [nGL, nCL]
  have e4 : putK [(kG, V.ref g), (kC, V.ref c), (kL, V.int l)] kT (.int t) = [(kG, V.ref g), (kC, V.ref c), (kL, V.int l), (kT, V.int t)] := by unfold putK; simp [nGT, nCT, nLT]
  unfold mergeK dk
  simp only [List.foldl_cons, List.foldl_nil, e1, e2, e3, e4]
end
/-- the draws' dict at d, its lists at g and c; at most b turns were mixed -/
structure Dw (ns : List Int) (d g c : Addr) (b : Nat) (H : Hp) : Prop where
  st : ∃ (gs : List Int) (l t : Int), H d = some (.dK (dk g c l t)) ∧ H g = some (.lst (gs.map V.int)) ∧ 0 ≤ t ∧ t ≤ b
  cl : H c = some (.lst (ns.map V.int))
  ncd : c ≠ d
  ncg : c ≠ g
section
variable {ns : List Int} {d g c p : Addr} {b b' : Nat} {H H' : Hp} {o : HO}
theorem Dw.mono (h : Dw ns d g c b H) (k : b ≤ b') : Dw ns d g c b' H := by
  obtain ⟨⟨gs, l, t, h1, h2, h3, h4⟩, h5, h6, h7⟩ := h
  exact ⟨⟨gs, l, t, h1, h2, h3, by omega⟩, h5, h6, h7⟩
/-- what is new leaves them -/
theorem Dw.keep (h : Dw ns d g c b H) (k : ∀ a o, H a = some o → H' a = some o) : Dw ns d g c b H' := by
  obtain ⟨⟨gs, l, t, h1, h2, h3, h4⟩, h5, h6, h7⟩ := h
  exact ⟨⟨gs, l, t, k _ _ h1, k _ _ h2, h3, h4⟩, k _ _ h5, h6, h7⟩
theorem Dw.new (h : Dw ns d g c b H) (hp : H p = none) : Dw ns d g c b (upd H p o) := h.keep fun a u e => new_same hp a u e
theorem Dw.nd (h : Dw ns d g c b H) (hp : H p = none) : p ≠ d := by
  obtain ⟨⟨gs, l, t, h1, h2, h3, h4⟩, h5, h6, h7⟩ := h
  exact fun e => ne_of_none h1 hp e.symm
theorem Dw.ng (h : Dw ns d g c b H) (hp : H p = none) : p ≠ g := by
  obtain ⟨⟨gs, l, t, h1, h2, h3, h4⟩, h5, h6, h7⟩ := h
  exact fun e => ne_of_none h2 hp e.symm
theorem Dw.some (h : Dw ns d g c b H) : (∃ o, H d = some o) ∧ ∃ o, H g = some o := by
  obtain ⟨⟨gs, l, t, h1, h2, h3, h4⟩, h5, h6, h7⟩ := h
  exact ⟨⟨_, h1⟩, ⟨_, h2⟩⟩
/-- what is new behind a draw was new ahead of it -/
theorem Dw.free (h : Dw ns d g c b H) (h' : Dw ns d g c b' H') (k : Kp d g H H') (hp : H' p = none) : H p = none := by
  cases e : H p with
  | none => rfl
  | some u =>
    have q := k p u (h'.nd hp) (h'.ng hp) e
    rw [hp] at q
    cases q
theorem Dw.put (h : Dw ns d g c b H) (hp : H p = Option.some u) (n1 : p ≠ d) (n2 : p ≠ g) (n3 : p ≠ c) : Dw ns d g c b (upd H p o) := by
  obtain ⟨⟨gs, l, t, h1, h2, h3, h4⟩, h5, h6, h7⟩ := h
  exact ⟨⟨gs, l, t, by rw [upd_ne n1.symm]; exact h1, by rw [upd_ne n2.symm]; exact h2, h3, h4⟩, by rw [upd_ne n3.symm]; exact h5, h6, h7⟩
end
/-! ## small words of arithmetic -/
theorem fmod_lo {a b : Int} (h : 0 < b) : 0 ≤ a.fmod b := by rw [Int.fmod_eq_emod_of_nonneg a (by omega)]; exact Int.emod_nonneg a (by omega)
theorem fmod_hi {a b : Int} (h : 0 < b) : a.fmod b < b := by rw [Int.fmod_eq_emod_of_nonneg a (by omega)]; exact Int.emod_lt_of_pos a h
theorem at_int {xs : List V} {r : Int} (h0 : 0 ≤ r) (h1 : r < (xs.length : Int)) : ∃ v, atI xs r = some v ∧ v ∈ xs := by
  have k : r.toNat < xs.length := by omega
  have e : r = ((r.toNat : Nat) : Int) := by omega
  have q : atI xs ((r.toNat : Nat) : Int) = some xs[r.toNat] := atI_nat (List.getElem?_eq_getElem k)
  rw [← e] at q
  exact ⟨_, q, List.getElem_mem k⟩
/-! ## lists of flat data, by == -/
section
variable {K : PySem.W.Frag} {H : Hp}
theorem dp_ints : ∀ ns : List Int, DpAll K H (ns.map V.int) (ns.map PyData.int)
  | [] => .nil
  | n :: r => .cons (.int n) (dp_ints r)
theorem dp_bools : ∀ ns : List Bool, DpAll K H (ns.map V.bl) (ns.map PyData.bool)
  | [] => .nil
  | n :: r => .cons (.bl n) (dp_bools r)
theorem dp_strs : ∀ ns : List Str, DpAll K H (ns.map V.str) (ns.map PyData.str)
  | [] => .nil
  | n :: r => .cons (.str n) (dp_strs r)
/-- no list, tuple or dict -/
def flatD : PyData → Bool
  | .none => true
  | .bool _ => true
  | .int _ => true
  | .str x => PyData.strOk x
  | _ => false
theorem lay_flat {x : PyData} (h : flatD x = true) : x.canLay0 = true ∧ x.depth ≤ 1 := by
  cases x with
  | none => constructor <;> simp [PyData.canLay0, PyData.depth]
  | bool _ => constructor <;> simp [PyData.canLay0, PyData.depth]
  | int _ => constructor <;> simp [PyData.canLay0, PyData.depth]
  | str x =>
    have h' : PyData.strOk x = true := h
    constructor <;> simp [PyData.canLay0, PyData.depth, h']
  | list _ => cases h
  | tuple _ => cases h
  | dict _ => cases h
theorem lay_flats : ∀ {ds : List PyData}, (∀ x ∈ ds, flatD x = true) → PyData.canLayAll0 ds = true ∧ PyData.depthAll ds ≤ 1
  | [], _ => by constructor <;> simp [PyData.canLayAll0, PyData.depthAll]
  | x :: r, h => by
    obtain ⟨a1, a2⟩ := lay_flat (h x (List.mem_cons_self ..))
    obtain ⟨b1, b2⟩ := lay_flats (ds := r) fun y hy => h y (List.mem_cons_of_mem _ hy)
    constructor
    · simp [PyData.canLayAll0, a1, b1]
    · simp only [PyData.depthAll]
      omega
theorem shaped_flats {ds : List PyData} (h : ∀ x ∈ ds, flatD x = true) : SeqAt.shaped (.list ds) = true := by
  obtain ⟨b1, b2⟩ := lay_flats h
  have e : PyData.depth (.list ds) = PyData.depthAll ds + 1 := by simp only [PyData.depth]
  unfold SeqAt.shaped
  rw [e]
  simp only [PyData.canLay0, b1, Bool.true_and, decide_eq_true_eq]
  omega
theorem shaped_ints (ns : List Int) : SeqAt.shaped (.list (ns.map PyData.int)) = true := shaped_flats fun x hx => by
  obtain ⟨n, _, rfl⟩ := List.mem_map.mp hx
  rfl
theorem shaped_bools (ns : List Bool) : SeqAt.shaped (.list (ns.map PyData.bool)) = true := shaped_flats fun x hx => by
  obtain ⟨n, _, rfl⟩ := List.mem_map.mp hx
  rfl
theorem shaped_strs {ns : List Str} (h : ∀ x ∈ ns, PyData.strOk x = true) : SeqAt.shaped (.list (ns.map PyData.str)) = true := shaped_flats fun x hx => by
  obtain ⟨n, hn, rfl⟩ := List.mem_map.mp hx
  exact h n hn
theorem shaped_nil : SeqAt.shaped (.list []) = true := shaped_flats fun x hx => by cases hx
theorem eqv_nil {ds : List PyData} : PyData.eqv (.list ds) (.list []) = ds.isEmpty := by
  cases ds <;> simp [PyData.eqv, PyData.eqvAll]
theorem eqv_bools : ∀ xs ys : List Bool, PyData.eqvAll (xs.map PyData.bool) (ys.map PyData.bool) = decide (xs = ys)
  | [], [] => by simp [PyData.eqvAll]
  | [], _ :: _ => by simp [PyData.eqvAll]
  | _ :: _, [] => by simp [PyData.eqvAll]
  | x :: xs, y :: ys => by
    simp only [List.map_cons, PyData.eqvAll, PyData.eqv, eqv_bools xs ys]
    by_cases h : x = y <;> by_cases k : xs = ys <;> simp [h, k]
end
end Gn

set_option Elab.async false
set_option linter.all false
set_option maxRecDepth 100000
set_option maxHeartbeats 4000000
namespace Lw
open PySem PySem.Spec PyProof.Rows L2 Gn
def top (i : Nat) : Stmt := PySem.Challenge.pw_hearpurse_k09_invalid_arguments.main.body.getD i (.Pass ⟨0, 0, 0, 0⟩)
abbrev sWall : Stmt := top 0
abbrev sInt : Stmt := top 12
abbrev sName : Stmt := top 13
abbrev sAmount : Stmt := top 14
abbrev sIsClaim : Stmt := top 18
abbrev sCheckClaims : Stmt := top 19
abbrev sCheckSpent : Stmt := top 20
abbrev sCheckBalances : Stmt := top 21
abbrev sTotalsOf : Stmt := top 22
abbrev sUnspent : Stmt := top 23
abbrev sFirstOverdrawn : Stmt := top 24
abbrev sGrants : Stmt := top 25
abbrev sTightAbove : Stmt := top 26
abbrev sIsResult : Stmt := top 27
abbrev sIsWitness : Stmt := top 28
abbrev sTotals : Stmt := top 29
abbrev sOverdrawn : Stmt := top 30
abbrev sEntitlements : Stmt := top 31
abbrev sCertificate : Stmt := top 32
abbrev sShowsEntitlements : Stmt := top 33
abbrev sRow : Stmt := top 35
abbrev sWrong : Stmt := top 36
abbrev sBegun : Stmt := top 39
abbrev sMixed : Stmt := top 40
abbrev sTake : Stmt := top 41
abbrev sPick : Stmt := top 42
abbrev sLOrder : Stmt := top 43
abbrev sWords : Stmt := top 44
abbrev sForest : Stmt := top 45
abbrev sLClaims : Stmt := top 46
abbrev sLBalances : Stmt := top 47
abbrev sLIsBetween : Stmt := top 48
abbrev sLAreClaims : Stmt := top 49
abbrev sLAreSpent : Stmt := top 50
abbrev sLAreBalances : Stmt := top 51
abbrev sLOtherClaims : Stmt := top 52
abbrev sLOtherSpent : Stmt := top 53
abbrev sLOtherBalances : Stmt := top 54
abbrev sLRefusal : Stmt := top 55
abbrev sLaw : Stmt := top 56
def cBody : Stmt → List Stmt
  | .ClassDef (body := b) .. => b
  | _ => []
def meth (i : Nat) : Stmt := (cBody (top 37)).getD i (.Pass ⟨0, 0, 0, 0⟩)
abbrev sInit : Stmt := meth 1
abbrev sEq : Stmt := meth 2
abbrev sNames : Stmt := meth 3
abbrev sText : Stmt := meth 4
abbrev sAnc : Stmt := meth 5
abbrev sSub : Stmt := meth 6
abbrev sParse : Stmt := meth 7
section
variable {P : Program} {w : World} {K : PySem.W.Frag} {mg : Str → Option Value} {base : Heap}
/-! ### _law_mixed -/
def spMixed (ns : List Int) : Sp := fun vs H Q _ => ∃ (d g c : Addr) (b : Nat), vs = [.ref d] ∧ Dw ns d g c b H ∧ b ≤ 1000000000 ∧
  ∀ (r : Int) (H' : Hp), Dw ns d g c (b + 1) H' → Kp d g H H' → Q (.int r) H'
theorem scMixed : FnScope ["_law_state", "_law_found", "_law_prime", "_law_blend", "_law_cell"] ["_law_state"] (defScope sMixed) := ⟨rfl, rfl, rfl, by decide +kernel, rfl, by decide +kernel, by decide +kernel⟩
def primes : List Int := [2147483629, 2147483587, 2147483579, 2147483563, 2147483549, 2147483543]
theorem prime_of {p : Int} (h : p ∈ primes) : 2000000000 < p ∧ p < 2147483648 := by
  unfold primes at h
  simp only [List.mem_cons, List.not_mem_nil, or_false] at h
  omega
theorem ok_mixed {f : Addr} {fd : FuncData} (ns : List Int) (F : Fun K "_law_mixed" "_law_mixed" sMixed f fd) : FnOk P w K mg base CX0 1 f fd ["_law_state"] (spMixed ns) := by
  refine F.ok scMixed (fun vs H Q E h => ?_) (fun cdv A outer s H vs Q E hr h => ?_)
  · obtain ⟨d, g, c, b, rfl, _⟩ := h
    rfl
  · obtain ⟨d, g, c, b, rfl, D, hb, k⟩ := h
    have hu := hu_of hr
    have nd := scMixed.nd
    refine ⟨_, pss_cons (ps_dput hu (pv 0) pe_str (pe_op op_add (pe_dget hu (pv 0) pe_str (fun _ _ => rfl)) pe_int) rfl)
      (pss_cons (ps_set (i := 1) nd rfl (.inl rfl) pe_int)
      (pss_cons (ps_for PassesOwn.never rfl (pi_list (pe_lst (pa_cons pe_int (pa_cons pe_int (pa_cons pe_int (pa_cons pe_int (pa_cons pe_int (pa_cons pe_int pa_nil)))))))) (pg_name (i := 2) nd rfl (.inl rfl))
        (pss_cons (ps_set (i := 3) nd rfl (.inl rfl) (pe_op op_add (pe_op op_mul pe_int (pe_dget hu (pv 0) pe_str (fun _ _ => rfl))) (pe_op op_fdivN (pv 2) pe_int)))
        (pss_cons (ps_for PassesOwn.never rfl (pi_list (pe_dget hu (pv 0) pe_str (fun _ _ => rfl))) (pg_name (i := 4) nd rfl (.inl rfl))
          (pss_one (ps_set (i := 3) nd rfl (.inl rfl) (pe_op op_modN (pe_op op_add (pe_op op_mul (pv 3) pe_int) (pv 4)) (pv 2)))))
        (pss_one (ps_set (i := 1) nd rfl (.inl rfl) (pe_op op_add (pe_op op_mul (pv 1) pe_int) (pe_op op_modN (pe_op op_pow (pv 3) pe_int) (pv 2))))))))
      (pss_one (ps_ret (pv 1))))), ?_⟩
    obtain ⟨⟨gs, l, t, hd, hg, t0, tb⟩, hc, ncd, ncg⟩ := id D
    have ndg : g ≠ d := ne_of hg hd (by intro z; cases z)
    refine ⟨_, rfl, d, _, rfl, get_t hd, t, 1, rfl, rfl, _, rfl, d, _, rfl, put_t hd, ?_⟩
    generalize hH1 : upd H d (.dK (dk g c l (t + 1))) = H1
    have hd1 : H1 d = some (.dK (dk g c l (t + 1))) := by rw [← hH1, upd_same]
    have hg1 : H1 g = some (.lst (gs.map V.int)) := by rw [← hH1, upd_ne ndg]; exact hg
    have hc1 : H1 c = some (.lst (ns.map V.int)) := by rw [← hH1, upd_ne ncd]; exact hc
    have k1 : Kp d g H H1 := by rw [← hH1]; exact Kp.at_d
    refine ⟨by show 6 ≤ sizeLine; decide, fun p hp => ?_⟩
    have hd2 := new_same (o := .lst (primes.map V.int)) hp _ _ hd1
    have hg2 := new_same (o := .lst (primes.map V.int)) hp _ _ hg1
    have hc2 := new_same (o := .lst (primes.map V.int)) hp _ _ hc1
    refine ⟨p, rfl, ⟨_, SqL.of upd_same⟩, for_list (K := K) (a := p) (xs := primes.map V.int) (fun i σ H' => H' = upd H1 p (.lst (primes.map V.int)) ∧ ∃ (f : Int) (v2 v3 v4 : Option V), σ = [some (.ref d), some (.int f), v2, v3, v4])
      ⟨rfl, 0, none, none, none, rfl⟩ (fun i σ H' _ ⟨e, _⟩ => by rw [e]; exact SqL.of upd_same) ?_ ?_⟩
    · rintro i x σ H' hx ⟨rfl, f, v2, v3, v4, rfl⟩
      obtain ⟨pr, hpr, rfl⟩ : ∃ z : Int, z ∈ primes ∧ x = V.int z := by
        obtain ⟨z, hz, e⟩ := List.mem_map.mp (List.mem_of_getElem? hx)
        exact ⟨z, hz, e.symm⟩
      obtain ⟨p1, p2⟩ := prime_of hpr
      refine ⟨_, rfl, d, _, rfl, get_t hd2, 69997, t + 1, rfl, rfl, .inl ⟨by decide, by decide⟩, _, rfl, pr, 11, rfl, rfl, ⟨by decide, by decide⟩, _, _, rfl, rfl, ?_⟩
      have q0 : 0 ≤ pr.fdiv 11 ∧ pr.fdiv 11 < 2147483648 := by
        rw [Int.fdiv_eq_ediv_of_nonneg pr (by decide)]
        omega
      refine ⟨_, rfl, d, _, rfl, get_c hd2, c, rfl, ⟨_, SqL.of hc2⟩, for_list (K := K) (a := c) (xs := ns.map V.int) (fun i σ H' => H' = upd H1 p (.lst (primes.map V.int)) ∧ ∃ (y : Int) (v4 : Option V), y.natAbs < 2 ^ 64 ∧ σ = [some (.ref d), some (.int f), some (.int pr), some (.int y), v4])
        ⟨rfl, _, v4, ?_, rfl⟩ (fun i σ H' _ ⟨e, _⟩ => by rw [e]; exact SqL.of hc2) ?_ ?_⟩
      · omega
      · rintro j x σ H' hx ⟨rfl, y, v4, hy, rfl⟩
        obtain ⟨z, rfl⟩ : ∃ z : Int, x = V.int z := by
          obtain ⟨z, hz, e⟩ := List.mem_map.mp (List.mem_of_getElem? hx)
          exact ⟨z, e.symm⟩
        refine ⟨_, rfl, y, 48271, rfl, rfl, .inr ⟨by decide, by decide⟩, _, rfl, _, z, rfl, rfl, _, rfl, _, pr, rfl, rfl, (by omega), ?_⟩
        have r1 := fmod_lo (a := y * 48271 + z) (b := pr) (by omega)
        have r2 := fmod_hi (a := y * 48271 + z) (b := pr) (by omega)
        exact ⟨rfl, _, some (.int z), by omega, rfl⟩
      · rintro σ H' ⟨rfl, y, v4, hy, rfl⟩
        refine ⟨_, rfl, f, 2147483647, rfl, rfl, .inr ⟨by decide, by decide⟩, _, rfl, y, 5, rfl, rfl, ⟨by decide, by decide, hy⟩, _, rfl, _, pr, rfl, rfl, (by omega), _, _, rfl, rfl, ?_⟩
        exact ⟨rfl, _, some (.int pr), some (.int y), v4, rfl⟩
    · rintro σ H' ⟨rfl, f, v2, v3, v4, rfl⟩
      refine ⟨_, rfl, ?_⟩
      refine k f _ ⟨⟨gs, l, t + 1, hd2, hg2, by omega, by omega⟩, hc2, ncd, ncg⟩ (k1.trans (Kp.new hp))
theorem z60 {z : Int} (h : z ≤ 10000000000000) (h0 : 0 < z := by assumption) : z.natAbs < 2 ^ 60 := by
  have : (2 : Nat) ^ 60 = 1152921504606846976 := by decide
  rw [this]
  omega
/-! ### _law_take -/
def spTake (ns : List Int) : Sp := fun vs H Q _ => ∃ (d g c : Addr) (b : Nat) (z : Int), vs = [.ref d, .int z] ∧ Dw ns d g c b H ∧ b ≤ 1000000000 ∧ 0 < z ∧ z ≤ 10000000000000 ∧
  ∀ (r : Int) (H' : Hp), 0 ≤ r → r < z → Dw ns d g c (b + 1) H' → Kp d g H H' → Q (.int r) H'
theorem scTake : FnScope ["_law_state", "_law_size", "_law_found"] ["_law_state", "_law_size"] (defScope sTake) := ⟨rfl, rfl, rfl, by decide +kernel, rfl, by decide +kernel, by decide +kernel⟩
theorem ok_take {f fM : Addr} {fd fdM : FuncData} (ns : List Int) (F : Fun K "_law_take" "_law_take" sTake f fd) (GM : FnOk P w K mg base CX0 1 fM fdM ["_law_state"] (spMixed ns)) (bM : Binds K fdM ["_law_state"] []) (kM : PySem.W.keepIn K (.ref fM) = true) (mM : mg "_law_mixed" = some (.ref fM)) :
    FnOk P w K mg base CX0 2 f fd ["_law_state", "_law_size"] (spTake ns) := by
  refine F.ok scTake (fun vs H Q E h => ?_) (fun cdv A outer s H vs Q E hr h => ?_)
  · obtain ⟨d, g, c, b, z, rfl, _⟩ := h
    rfl
  · obtain ⟨d, g, c, b, z, rfl, D, hb, z0, z1, k⟩ := h
    have hu := hu_of hr
    have nd := scTake.nd
    refine ⟨_, pss_cons (ps_if (pt_cmpR op_eq (pe_dget hu (pv 0) pe_str (fun _ _ => rfl)) pe_int (nomark _))
        (pss_one (ps_dput hu (pv 0) pe_str (pe_ifExp (pt_cmpR (op_neD hr.units) (pe_dget hu (pv 0) pe_str (fun _ _ => rfl)) (pe_lst pa_nil) (nomark _))
          (pe_bm PySem.F.plainAttrs_list PySem.F.slot_list_pop PySem.F.type_list_pop mt_popAt (pe_dget hu (pv 0) pe_str (fun _ _ => rfl)) (pa_cons pe_int pa_nil))
          (pe_call GM hr rfl mM kM bM .nil pass0 (pa_cons (pv 0) pa_nil))) rfl)) pss_nil)
      (pss_cons (ps_set (i := 2) nd rfl (.inl rfl) (pe_op op_modN (pe_dget hu (pv 0) pe_str (fun _ _ => rfl)) (pv 1)))
      (pss_cons (ps_dput hu (pv 0) pe_str (pe_op op_fdivW (pe_dget hu (pv 0) pe_str (fun _ _ => rfl)) (pv 1)) rfl)
      (pss_one (ps_ret (pv 2))))), ?_⟩
    -- behind the if: the state with a number left
    have tail : ∀ (H1 : Hp), Dw ns d g c (b + 1) H1 → Kp d g H H1 → tSeq (tAsg (tOp (rI (fun _ j => j ≠ 0) fun i j => .int (i.fmod j)) (tDGet (tVar 0) (tC (.str "left"))) (tVar 1)) (gName 2))
        (tSeq (sDPut (tVar 0) (tC (.str "left")) (tOp (rI CDivW fun i j => .int (i / j)) (tDGet (tVar 0) (tC (.str "left"))) (tVar 1))) (tRet (tVar 2))) { nx := fun _ H' => Q .non H', rt := Q } [some (.ref d), some (.int z), none] H1 := by
      intro H1 D1 k1
      obtain ⟨⟨gs, l, t, hd, hg, t0, tb⟩, hc, ncd, ncg⟩ := id D1
      have ndg : g ≠ d := ne_of hg hd (by intro z; cases z)
      refine ⟨_, rfl, d, _, rfl, get_l hd, _, rfl, l, z, rfl, rfl, (by omega), ?_⟩
      refine ⟨_, rfl, d, _, rfl, get_l hd, _, rfl, l, z, rfl, rfl, wide_div (b := 60) z0 (z60 z1) (by decide) (by decide), _, rfl, d, _, rfl, put_l hd, _, rfl, ?_⟩
      refine k _ _ (fmod_lo z0) (fmod_hi z0) ⟨⟨gs, _, t, upd_same, by rw [upd_ne ndg]; exact hg, t0, tb⟩, by rw [upd_ne ncd]; exact hc, ncd, ncg⟩ (k1.trans Kp.at_d)
    obtain ⟨⟨gs, l, t, hd, hg, t0, tb⟩, hc, ncd, ncg⟩ := id D
    have ndg : g ≠ d := ne_of hg hd (by intro z; cases z)
    refine ⟨_, rfl, d, _, rfl, get_l hd, rfl, _, rfl, ?_⟩
    refine ite2 (fun e => ?_) (fun e => tail H (D.mono (by omega)) Kp.refl)
    refine ⟨_, rfl, d, _, rfl, get_g hd, by show 0 ≤ sizeLine; decide, fun p hp => ?_⟩
    have hd1 := new_same (o := .lst []) hp _ _ hd
    have hg1 := new_same (o := .lst []) hp _ _ hg
    have hc1 := new_same (o := .lst []) hp _ _ hc
    refine ⟨_, _, .lst (SqL.of hg1) (dp_ints gs), .lst (SqL.of upd_same) .nil, shaped_ints gs, shaped_nil, _, rfl, ?_⟩
    rw [eqv_nil]
    cases gs with
    | nil =>
      refine iteF ?_
      refine ⟨_, rfl, d, g, c, b, rfl, D.new hp, hb, fun r H' D' k' => ?_⟩
      obtain ⟨⟨gs, l, t, hd', hg', t0, tb⟩, hc', ncd, ncg⟩ := id D'
      have ndg : g ≠ d := ne_of hg' hd' (by intro z; cases z)
      refine ⟨_, rfl, d, _, rfl, put_l hd', ?_⟩
      exact tail _ ⟨⟨gs, _, t, upd_same, by rw [upd_ne ndg]; exact hg', t0, tb⟩, by rw [upd_ne ncd]; exact hc', ncd, ncg⟩ (((Kp.new hp).trans k').trans Kp.at_d)
    | cons n r =>
      refine iteT ?_
      refine ⟨_, rfl, d, _, rfl, get_g hd1, .inl ⟨rfl, _, SqL.of hg1⟩, g, _, 0, 0, _, rfl, rfl, hg1, by decide, by decide, (ixN_seq (n := (List.map V.int (n :: r)).length) (i := 0) (j := 0) (by simp [ixN])).1, rfl, ?_⟩
      refine ⟨_, rfl, d, _, rfl, put_l (by rw [upd_ne ndg.symm]; exact hd1), ?_⟩
      refine tail _ ⟨⟨r, _, t, upd_same, by rw [upd_ne ndg, upd_same]; rfl, t0, by omega⟩, by rw [upd_ne ncd, upd_ne ncg]; exact hc1, ncd, ncg⟩ (((Kp.new hp).trans Kp.at_g).trans Kp.at_d)
/-! ### _law_pick, out of a list and out of a text -/
theorem scPick : FnScope ["_law_state", "_law_some"] ["_law_state", "_law_some"] (defScope sPick) := ⟨rfl, rfl, rfl, by decide +kernel, rfl, by decide +kernel, by decide +kernel⟩
/-- one of the items of a list, or one sign of a text -/
def spPick (K : PySem.W.Frag) (ns : List Int) : Sp := fun vs H Q _ => ∃ (d g c : Addr) (b : Nat), Dw ns d g c b H ∧ b ≤ 1000000000 ∧
  ((∃ (a : Addr) (xs : List V), vs = [.ref d, .ref a] ∧ H a = some (.lst xs) ∧ a ≠ d ∧ a ≠ g ∧ 0 < xs.length ∧ xs.length ≤ 1000000 ∧
    ∀ (x : V) (H' : Hp), x ∈ xs → Dw ns d g c (b + 1) H' → Kp d g H H' → Q x H') ∨
   (∃ z : Str, vs = [.ref d, .str z] ∧ 0 < z.length ∧ z.length ≤ 1000000 ∧ ∀ (x : Nat) (H' : Hp), x ∈ z.cps.toList → Dw ns d g c (b + 1) H' → Kp d g H H' → Q (.str ⟨#[x]⟩) H'))
theorem ok_pick {f fT : Addr} {fd fdT : FuncData} (ns : List Int) (F : Fun K "_law_pick" "_law_pick" sPick f fd) (GT : FnOk P w K mg base CX0 2 fT fdT ["_law_state", "_law_size"] (spTake ns)) (bT : Binds K fdT ["_law_state", "_law_size"] []) (kT : PySem.W.keepIn K (.ref fT) = true) (mT : mg "_law_take" = some (.ref fT))
    (ml : mg "len" = none) : FnOk P w K mg base CX0 3 f fd ["_law_state", "_law_some"] (spPick K ns) := by
  refine F.ok scPick (fun vs H Q E h => ?_) (fun cdv A outer s H vs Q E hr h => ?_)
  · obtain ⟨d, g, c, b, D, hb, ⟨a, xs, rfl, _⟩ | ⟨z, rfl, _⟩⟩ := h <;> rfl
  · obtain ⟨d, g, c, b, D, hb, h⟩ := h
    have hu := hu_of hr
    have nd := scPick.nd
    refine ⟨_, pss_one (ps_ret (pe_ix ix_seq (pv 1) (pe_call GT hr rfl mT kT bT .nil pass0 (pa_cons (pv 0) (pa_cons (pe_callB call_len rfl ml PySem.boot_len (pa_cons (pv 1) pa_nil)) pa_nil))) (fun _ _ => rfl))), ?_⟩
    rcases h with ⟨a, xs, rfl, ha, nad, nag, h0, h1, k⟩ | ⟨z, rfl, h0, h1, k⟩
    · refine ⟨_, rfl, _, rfl, _, rfl, _, _, rfl, .inl ⟨_, SqL.of ha, rfl⟩, d, g, c, b, _, rfl, D, hb, by omega, by omega, fun r H' r0 r1 D' k' => ?_⟩
      obtain ⟨v, hv, hm⟩ := at_int r0 r1
      exact .inl ⟨a, xs, r, v, rfl, rfl, SqL.of (k' a _ nad nag ha), hv, k v H' hm D' k'⟩
    · refine ⟨_, rfl, _, rfl, _, rfl, _, _, rfl, ⟨by rw [sizeLine_eq]; omega, rfl⟩, d, g, c, b, _, rfl, D, hb, by omega, by omega, fun r H' r0 r1 D' k' => ?_⟩
      have e : r = ((r.toNat : Nat) : Int) := by omega
      have hl : r.toNat < z.cps.toList.length := by
        have : z.cps.toList.length = z.length := by simp [Str.length]
        omega
      have q : atI z.cps.toList ((r.toNat : Nat) : Int) = some z.cps.toList[r.toNat] := atI_nat (List.getElem?_eq_getElem hl)
      rw [← e] at q
      exact .inr (.inr ⟨z, r, _, rfl, rfl, by rw [sizeLine_eq]; omega, q, k _ H' (List.getElem_mem hl) D' k'⟩)
/-! ### _law_begun -/
def spBegun (K : PySem.W.Frag) (ns : List Int) : Sp := fun vs H Q _ => ∃ (a : Addr), vs = [.ref a] ∧ SqL K H a (ns.map V.int) ∧ ns.length ≤ 63 ∧
  ∀ (d g c : Addr) (H' : Hp), Dw ns d g c 0 H' → (∀ b o, H b = some o → H' b = some o) → H d = none → H g = none → H c = none → Q (.ref d) H'
theorem scBegun : FnScope ["_law_script", "_law_great", "_law_cell"] ["_law_script"] (defScope sBegun) := ⟨rfl, rfl, rfl, by decide +kernel, rfl, by decide +kernel, by decide +kernel⟩
theorem ok_begun {f : Addr} {fd : FuncData} (ns : List Int) (F : Fun K "_law_begun" "_law_begun" sBegun f fd) (mli : mg "list" = none) : FnOk P w K mg base CX0 1 f fd ["_law_script"] (spBegun K ns) := by
  refine F.ok scBegun (fun vs H Q E h => ?_) (fun cdv A outer s H vs Q E hr h => ?_)
  · obtain ⟨a, rfl, _⟩ := h
    rfl
  · obtain ⟨a, rfl, hS, hl, k⟩ := h
    have hu := hu_of hr
    have nd := scBegun.nd
    refine ⟨_, pss_cons (ps_setLc (i := 1) (own := [("_law_cell", 2)]) (g := gName 2) rfl nd rfl rfl (sw_true rfl rfl rfl (by decide +kernel)) (pi_list (pv 0)) (blkOk_by (N := ["_law_script", "_law_great", "_law_cell"]) (sc := defScope sBegun) (by decide +kernel))
        (fun _ _ _ _ _ => pg_name (i := 2) nd rfl (.inl rfl)) (fun _ _ _ _ _ => pts_one (pt_cmpR op_ge (pv 2) (pe_op op_pow pe_int pe_int) (nomark _))) (fun _ _ _ _ _ => pe_op op_sub (pv 2) (pe_op op_pow pe_int pe_int)))
      (pss_one (ps_ret (pe_disp (pps_cons pe_str (pv 1) (pps_cons pe_str (pe_callTy call_list_of rfl mli (by decide +kernel) (pa_cons (pv 0) pa_nil)) (pps_cons pe_str pe_int (pps_cons pe_str pe_int pps_nil)))) (by rfl) (by rfl) (fun z => by cases z) (by decide)))), ?_⟩
    have keep0 : ∀ {H' : Hp} {g : Addr} {o : HO}, (∀ b o, H b = some o → H' b = some o) → H g = none → ∀ b u, H b = some u → upd H' g o b = some u := fun {H' g o} s hg b u e => by
      rw [upd_ne (ne_of_none e hg)]
      exact s b u e
    refine ⟨_, rfl, a, rfl, ⟨_, hS⟩, fun g hg => ?_⟩
    refine lc_list (K := K) (a := a) (xs := ns.map V.int) (fun i H' => (∀ b o, H b = some o → H' b = some o) ∧ ∃ gs : List Int, gs.length ≤ i ∧ H' g = some (.lst (gs.map V.int)))
      ⟨fun b o e => new_same hg b o e, [], Nat.le_refl _, upd_same⟩ (fun i H' _ ⟨s, _⟩ => Same.seq s hS) ?_ ?_
    · rintro i x H' hx ⟨s5, gs, hgl, hg'⟩
      obtain ⟨z, rfl⟩ : ∃ z : Int, x = V.int z := by
        obtain ⟨z, hz, e⟩ := List.mem_map.mp (List.mem_of_getElem? hx)
        exact ⟨z, e.symm⟩
      have hi : i < ns.length := by
        have := (List.getElem?_eq_some_iff.mp hx).1
        rw [List.length_map] at this
        exact this
      refine ⟨rfl, _, rfl, 10, 18, rfl, rfl, ⟨by decide, by decide, by decide⟩, _, _, rfl, rfl, _, rfl, ?_⟩
      refine ite2 (fun _ => ?_) (fun _ => ?_)
      · refine ⟨_, rfl, 10, 18, rfl, rfl, ⟨by decide, by decide, by decide⟩, _, _, rfl, rfl, _, hg', small1000 (by rw [List.length_map]; omega), keep0 s5 hg, gs ++ [z - 10 ^ (18 : Int).toNat], by rw [List.length_append]; show gs.length + 1 ≤ i + 1; omega, ?_⟩
        rw [upd_same, List.map_append]
        rfl
      · exact ⟨s5, gs, by omega, hg'⟩
    · rintro H1 ⟨s1, gs, hgl, hg1⟩ d hd
      refine ⟨_, rfl, _, rfl, a, _, rfl, .inl (Same.seq (new_same hd) (Same.seq s1 hS)), fun c hc => ?_⟩
      have ndc : c ≠ d := fun e => by rw [e, upd_same] at hc; cases hc
      have hd2 : (upd (upd H1 d (.dK [])) c (.lst (ns.map V.int))) d = some (.dK []) := by rw [upd_ne ndc.symm, upd_same]
      refine ⟨hd2, dk g c 0 0, rfl, (by show 4 ≤ 15; decide), ?_⟩
      rw [merge_dk]
      have ngd : g ≠ d := fun e => by rw [← e, hg1] at hd; cases hd
      have hg2 : upd H1 d (.dK []) g = some (.lst (gs.map V.int)) := by rw [upd_ne ngd]; exact hg1
      have ngc : g ≠ c := fun e => by rw [← e, hg2] at hc; cases hc
      have H1d : H d = none := by
        cases e : H d with
        | none => rfl
        | some u => rw [s1 d u e] at hd; cases hd
      have H1c : H c = none := by
        cases e : H c with
        | none => rfl
        | some u => rw [new_same hd c u (s1 c u e)] at hc; cases hc
      refine k d g c _ ⟨⟨gs, 0, 0, upd_same, by rw [upd_ne ngd, upd_ne ngc]; exact hg2, by omega, by omega⟩, by rw [upd_ne ndc, upd_same], ndc, ngc.symm⟩ (fun b o e => ?_) H1d hg H1c
      rw [upd_ne (ne_of_none e H1d), upd_ne (ne_of_none e H1c), upd_ne (ne_of_none e H1d)]
      exact s1 b o e
end
end Lw

set_option Elab.async false
set_option linter.all false
set_option maxRecDepth 100000
set_option maxHeartbeats 4000000
/-! a law's own body, run by the caller that the row names: what is around it is known there -/
namespace Ge
open PySem PySem.Spec PyProof.Rows L2 Gn
/-- what is known where a law's own body runs -/
structure Bed (K : PySem.W.Frag) (mg : Str → Option Value) (base : Heap) (A : Around) : Prop where
  kin : K.In base
  glob : base.Ns mainGlobals mg
  sys : ∃ o, base.get? sysModules = some o
  gd : A.guards = some []
section
variable {P : Program} {w : World} {K : PySem.W.Frag} {mg : Str → Option Value} {base : Heap}
/-- one call of a def of the text, by its body, at one place -/
theorem call_here {x qual : Str} {st : Stmt} {f : Addr} {fd : FuncData} {N ps : List Str} {k : Nat} {A : Around} {outer : List Env} {s : Shared} {H : Hp} {vs : List V} {us : List Value} {Q : VK}
    (F : Fun K x qual st f fd) (S : FnScope N ps (defScope st)) (hr : Room (k + 1) A) (e0 : Env0 P w K mg base A outer s H) (hb : BindsTo s fd ⟨us, []⟩ (ps.zip us)) (hl : vs.length = ps.length) (r : Vals vs us)
    (body : ∀ cdv : Value, Room k (A.deeper (envOfC qual (defScope st) s.heap.objs.size f cdv)) →
      ∃ t, PSs (cxOf CX0 P w K mg base N qual (defScope st) f cdv A outer s H E0).nox (defBody st) t ∧ t { nx := fun _ H' => Q .non H', rt := Q } (start N vs) H) :
    codeAny (model P w) A (.call (.ref f) ⟨us, []⟩) (CR CX0 outer P w H s Q E0) s := by
  obtain ⟨oc, od, kV, doc, pm, an, cdv, ct, osl, rfl, lk, hcd⟩ := F.ex
  have old : ∀ b o, base.get? b = some o → s.heap.get? b = some o := fun b o e => (e0.bs b o e).1
  have KX : K.In s.heap := e0.mod.kin.keeps old
  obtain ⟨t, ht, hq⟩ := body cdv (hr.deeper _)
  refine codeAny_call_function hr.depth (KX _ _ lk) rfl S.co S.gen rfl (PySem.W.codeRec_of KX hcd) (hb _ _ _ _ ?_)
  refine wpAny_newFunctionEnv_cells S.kind (fun ⟨n, v⟩ hy => ?_) (fun env he s1 z => ?_)
  · cases S.par n (List.of_mem_zip hy).1 with
    | inl q => exact .inl q
    | inr q => exact .inr ⟨q, PySem.W.cellsFrom_some _ _ _ (.inl q)⟩
  · subst he
    refine ⟨(e0.mod.nolimit.keeps old).keeps z.toInCall.keep, codeAny_func ?_⟩
    have I : Inv (cxOf CX0 P w K mg base N qual (defScope st) f cdv A outer s H E0) [] (start N vs) H s1 := inv_start S hr.hd e0 hl r z
    refine wpAny_mono (ht.nox.run [] s1 (start N vs) H _ I hq) (fun fl s' hs => ?_) (fun e s' hs => hs)
    match fl, hs with
    | .ret u, ⟨v, σ', H', J, rv, q⟩ => exact ⟨v, H', J.os, J.bare, J.base, J.hok, rv, q⟩
    | .next, ⟨σ', H', J, q⟩ => exact ⟨.non, H', J.os, J.bare, J.base, J.hok, rfl, q⟩
    | .brk, ⟨_, _, _, q⟩ => exact q.elim
    | .cont, ⟨_, _, _, q⟩ => exact q.elim
end
/-- nothing is tracked, or the script's list alone, as a thing that is only read -/
def Hs (a : Addr) (o : Obj) (xs : List V) : Hp := fun b => if b = a then some (.frz o (.lst xs)) else none
theorem hs_at {a : Addr} {o : Obj} {xs : List V} : Hs a o xs a = some (.frz o (.lst xs)) := if_pos rfl
theorem hs_no {a b : Addr} {o : Obj} {xs : List V} (h : b ≠ a) : Hs a o xs b = none := if_neg h
def H0 : Hp := fun _ => none
section
variable {P : Program} {w : World} {K : PySem.W.Frag} {mg mb : Str → Option Value} {s₁ : Shared} {a : Addr} {vs : List Value} {ns : List Int} {st : Stmt} {N : List Str} {x : Str} {k : Nat} {fa : Addr} {fd : FuncData}
/-- the state that the row's call begins with -/
theorem env_of {H : Hp} (KX : K.In s₁.heap) (hns : s₁.heap.Ns mainGlobals mg) (hb : s₁.heap.Ns builtinsNs mb) (hbb : ∀ x : Str, x ≠ "__name__" → mb x = bootBuiltins x) (hlim : s₁.heap.NoLimit) (hsee : ∃ mm, s₁.heap.Ns sysModules mm) (hg : s₁.gens = #[])
    (ha : s₁.heap.get? a = some { cls := .type "list", data := .seq vs.toArray }) (only : ∀ b, H b ≠ none → b = a) (hka : H a ≠ none → K.lookup a = none) (hok : HOk P w H s₁.heap) :
    Env0 P w K mg (hidT s₁.heap H) callerA [] s₁ H ∧ Bed K mg (hidT s₁.heap H) callerA := by
  have free : ∀ {b : Addr}, b ≠ a → H b = none := fun {b} n => by
    cases e : H b with
    | none => rfl
    | some u => exact absurd (only b (by rw [e]; simp)) n
  have keepNs : ∀ {b : Addr} {m : Str → Option Value}, s₁.heap.Ns b m → (hidT s₁.heap H).Ns b m := fun {b m} h => by
    obtain ⟨o, es, ep, e, dd, r⟩ := h
    refine ⟨o, es, ep, hidT_get e (free fun z => ?_), dd, r⟩
    subst z
    rw [ha] at e
    cases e
    cases dd
  have kIn : K.In (hidT s₁.heap H) := fun b o e => hidT_get (KX b o e) (by
    cases q : H b with
    | none => rfl
    | some u =>
      have z := only b (by rw [q]; simp)
      subst z
      rw [hka (by rw [q]; simp)] at e
      cases e)
  obtain ⟨mc, c1, c2⟩ := hlim
  obtain ⟨mm, o, es, ep, e1, e2, e3⟩ := hsee
  have sysf : H sysModules = none := free fun z => by
    subst z
    rw [ha] at e1
    cases e1
    cases e2
  refine ⟨⟨rfl, ⟨kIn, keepNs hns, ⟨mb, keepNs hb, hbb⟩, ⟨mc, keepNs c1, c2⟩⟩, fun b o e => of_hidT e, Nat.le_of_eq (hidT_size _ _), trivial, fun b z => absurd (show b ∈ ([] : List Addr) from z) (by simp), hok, .of_eq hg⟩, kIn, keepNs hns, ⟨o, hidT_get e1 sysf⟩, rfl⟩
/-- the law's call gives True, if its body does wherever it may run -/
theorem law_true (KX : K.In s₁.heap) (hns : s₁.heap.Ns mainGlobals mg) (hb : s₁.heap.Ns builtinsNs mb) (hbb : ∀ x : Str, x ≠ "__name__" → mb x = bootBuiltins x) (hlim : s₁.heap.NoLimit) (hsee : ∃ mm, s₁.heap.Ns sysModules mm) (hg : s₁.gens = #[])
    (ha : s₁.heap.get? a = some { cls := .type "list", data := .seq vs.toArray }) (hi : IntsAre vs ns) (hl : ns.length ≤ sizeLine) (hr : Room (k + 1) callerA)
    (F : Fun K "law" "law" st fa fd) (S : FnScope N [x] (defScope st)) (hbind : ∀ (s : Shared) (u : Value), BindsTo s fd ⟨[u], []⟩ [(x, u)])
    (body : ∀ (base : Heap) (A : Around) (s : Shared) (H : Hp) (cdv : Value), Bed K mg base A → Room k (A.deeper (envOfC "law" (defScope st) s.heap.objs.size fa cdv)) → SqL K H a (ns.map V.int) →
      ∃ t, PSs (cxOf CX0 P w K mg base N "law" (defScope st) fa cdv A [] s H E0).nox (defBody st) t ∧ t { nx := fun _ _ => False, rt := fun v _ => v = .bl true } (start N [.ref a]) H) :
    codeAny (model P w) callerA (.call (.ref fa) ⟨[.ref a], []⟩) (fun r s' => r = .ok (.ret (.bool true)) ∧ OldK s₁.heap s'.heap ∧ s'.os = s₁.os ∧ AllBare s'.gens) s₁ := by
  have rv := vals_ints hi
  have lenV := hi.length
  have go : ∀ H : Hp, (∀ b, H b = none ∨ ∃ o xs, H b = some (.frz o (.lst xs))) → SqL K H a (ns.map V.int) → Env0 P w K mg (hidT s₁.heap H) callerA [] s₁ H ∧ Bed K mg (hidT s₁.heap H) callerA →
      codeAny (model P w) callerA (.call (.ref fa) ⟨[.ref a], []⟩) (fun r s' => r = .ok (.ret (.bool true)) ∧ OldK s₁.heap s'.heap ∧ s'.os = s₁.os ∧ AllBare s'.gens) s₁ := by
    rintro H hO hS ⟨e0, B⟩
    have hok := e0.hok
    refine codeAny_mono (call_here (Q := fun v _ => v = .bl true) (vs := [.ref a]) (us := [.ref a]) F S hr e0 (hbind s₁ (.ref a)) rfl (.cons rfl .nil) fun cdv hr' => ?_) fun r s' h => ?_
    · obtain ⟨t, h1, h2⟩ := body (hidT s₁.heap H) callerA s₁ H cdv B hr' hS
      refine ⟨t, ⟨fun pins s0 σ H1 D I z => ?_⟩, ?_⟩
      · exact h1.run pins s0 σ H1 D I z
      · exact (show t { nx := fun _ _ => V.non = V.bl true, rt := fun v _ => v = V.bl true } (start N [.ref a]) H from by
          have e : (fun (_ : L2.St) (_ : Hp) => V.non = V.bl true) = fun _ _ => False := by funext _ _; simp
          rw [e]; exact h2)
    · match r, h with
      | .error e, h => exact False.elim h
      | .ok .next, h => exact False.elim h
      | .ok .brk, h => exact False.elim h
      | .ok .cont, h => exact False.elim h
      | .ok (.ret u), ⟨v, H', os, bare, un, hok', r', q⟩ =>
        subst q
        obtain rfl : u = Value.bool true := r'
        refine ⟨rfl, OldK.of_keep fun b o e => ?_, os, bare⟩
        rcases hO b with z | ⟨ob, xs, z⟩
        · exact un.keep b o e z (by intro m; exact absurd (show b ∈ ([] : List Addr) from m) (by simp)) (by simp)
        · obtain ⟨e1, _⟩ := hok b _ z
          obtain ⟨e2, _⟩ := hok' b _ (un.frzs b ob _ z)
          rw [e] at e1
          cases e1
          exact e2
  cases hk : K.lookup a with
  | some o =>
    have e := KX a o hk
    rw [ha] at e
    cases e
    refine go H0 (fun _ => .inl rfl) (.inr ⟨_, vs.toArray, _, hk, rfl, rfl, rfl, ?_, ?_⟩) (env_of KX hns hb hbb hlim hsee hg ha (fun b z => absurd rfl z) (fun z => absurd rfl z) fun b u z => nomatch (show (none : Option HO) = some u from z))
    · rw [List.size_toArray, lenV]
      exact hl
    · simpa using rv
  | none =>
    refine go (Hs a { cls := .type "list", data := .seq vs.toArray } (ns.map V.int)) (fun b => ?_) (.inl (.inr ⟨_, hs_at⟩)) (env_of KX hns hb hbb hlim hsee hg ha (fun b z => ?_) (fun _ => hk) fun b u z => ?_)
    · by_cases n : b = a
      · subst n
        exact .inr ⟨_, _, hs_at⟩
      · exact .inl (hs_no n)
    · by_cases n : b = a
      · exact n
      · exact absurd (hs_no n) z
    · by_cases n : b = a
      · subst n
        cases hs_at.symm.trans z
        exact ⟨ha, by rw [List.length_map]; exact hl, vs, _, rv, ha⟩
      · cases (hs_no n).symm.trans z
end
open PySem.W in
/-- the goal that the head leaves -/
theorem walk_law {l : PySem.W.OpenLaw} {n k : Nat} {q : Program} {loose : List Str} {XP : (Str → Option Value) → Heap → Prop} {YP : World → Heap → Prop} {d : DefRec} {K : Params → PySem.W.Frag} {x : Str} {st : Stmt} {N : List Str}
    (hn : l.most = some n) (hn2 : n ≤ sizeLine) (hdf : d.params.defaults = []) (hr : Room (k + 1) callerA) (hi : importsNone q = true) (S : FnScope N [x] (defScope st))
    (hY : ∀ (w : World) (h : Heap), YP w h → (K w.params).In h)
    (F : ∀ (w : World) (mg : Str → Option Value) (fa : Addr) (h : Heap), (K w.params).In h → h.Ns mainGlobals mg → mg d.name = some (.ref fa) →
      ∃ fd : FuncData, Fun (K w.params) "law" "law" st fa fd ∧ (∀ (s : Shared) (u : Value), BindsTo s fd ⟨[u], []⟩ [(x, u)]) ∧
        ∀ (base : Heap) (A : Around) (s : Shared) (H : Hp) (cdv : Value) (a : Addr) (ns : List Int), ns.length ≤ n → Bed (K w.params) mg base A → Room k (A.deeper (envOfC "law" (defScope st) s.heap.objs.size fa cdv)) → SqL (K w.params) H a (ns.map V.int) →
          ∃ t, PSs (cxOf CX0 l.prog w (K w.params) mg base N "law" (defScope st) fa cdv A [] s H E0).nox (defBody st) t ∧ t { nx := fun _ _ => False, rt := fun v _ => v = .bl true } (start N [.ref a]) H) :
    PySem.W.WalkO q loose XP YP l.row.toRowW d [] (fun f vs => PySem.call f vs) := by
  refine Att.attach_call hn hdf fun w s₀ s₁ mg mb fa o pm cd doc a vs ns G Y ho hd hcd hmg hobj hints hlen hg => ?_
  have KX := hY w _ Y
  obtain ⟨fd, F1, F2, F3⟩ := F w mg fa _ KX G.T.g hmg
  obtain ⟨mm, z, _⟩ := (G.T.seer hi).mods
  exact law_true KX G.T.g G.T.b G.T.builtins G.T.nolimit ⟨mm, z⟩ hg hobj hints (Nat.le_trans hlen hn2) hr F1 S F2 fun base A s H cdv B hr' hS => F3 base A s H cdv a ns hlen B hr' hS
end Ge

set_option Elab.async false
set_option linter.all false
set_option maxRecDepth 100000
set_option maxHeartbeats 4000000
/-! data that stand in the heap, dicts too; what repr says of them -/
namespace Gr
open PySem PySem.Spec PyProof.Rows L2 Gn
def keyD : Key → PyData
  | .inl i => .int i
  | .inr x => .str x
mutual
inductive Dr (H : Hp) : V → PyData → Prop
  | non : Dr H .non .none
  | bl (b : Bool) : Dr H (.bl b) (.bool b)
  | int (i : Int) : Dr H (.int i) (.int i)
  | str (x : Str) : Dr H (.str x) (.str x)
  | lst {a : Addr} {xs : List V} {ds : List PyData} : H a = some (.lst xs) → DrAll H xs ds → Dr H (.ref a) (.list ds)
  | tup {a : Addr} {xs : List V} {ds : List PyData} : H a = some (.tup xs) → DrAll H xs ds → Dr H (.ref a) (.tuple ds)
  | dct {a : Addr} {kvs : List (Key × V)} {ds : List (PyData × PyData)} : H a = some (.dK kvs) → DrKv H kvs ds → Dr H (.ref a) (.dict ds)
inductive DrAll (H : Hp) : List V → List PyData → Prop
  | nil : DrAll H [] []
  | cons {v : V} {vs : List V} {d : PyData} {ds : List PyData} : Dr H v d → DrAll H vs ds → DrAll H (v :: vs) (d :: ds)
inductive DrKv (H : Hp) : List (Key × V) → List (PyData × PyData) → Prop
  | nil : DrKv H [] []
  | cons {k : Key} {v : V} {kvs : List (Key × V)} {d : PyData} {ds : List (PyData × PyData)} : Dr H v d → DrKv H kvs ds → DrKv H ((k, v) :: kvs) ((keyD k, d) :: ds)
end
section
variable {H H' : Hp}
mutual
theorem Dr.mono (s : ∀ a o, H a = some o → H' a = some o) : ∀ (d : PyData) (v : V), Dr H v d → Dr H' v d
  | .none, _, h => by cases h; exact .non
  | .bool b, _, h => by cases h; exact .bl b
  | .int i, _, h => by cases h; exact .int i
  | .str x, _, h => by cases h; exact .str x
  | .list ds, _, h => by
    cases h with
    | lst e r => exact .lst (s _ _ e) (DrAll.mono s ds _ r)
  | .tuple ds, _, h => by
    cases h with
    | tup e r => exact .tup (s _ _ e) (DrAll.mono s ds _ r)
  | .dict ds, _, h => by
    cases h with
    | dct e r => exact .dct (s _ _ e) (DrKv.mono s ds _ r)
theorem DrAll.mono (s : ∀ a o, H a = some o → H' a = some o) : ∀ (ds : List PyData) (vs : List V), DrAll H vs ds → DrAll H' vs ds
  | [], _, h => by cases h; exact .nil
  | d :: ds, _, h => by
    cases h with
    | cons e r => exact .cons (Dr.mono s d _ e) (DrAll.mono s ds _ r)
theorem DrKv.mono (s : ∀ a o, H a = some o → H' a = some o) : ∀ (ds : List (PyData × PyData)) (vs : List (Key × V)), DrKv H vs ds → DrKv H' vs ds
  | [], _, h => by cases h; exact .nil
  | (k, d) :: ds, _, h => by
    cases h with
    | cons e r => exact .cons (Dr.mono s d _ e) (DrKv.mono s ds _ r)
end
theorem DrAll.snoc : ∀ {vs : List V} {ds : List PyData} {v : V} {d : PyData}, DrAll H vs ds → Dr H v d → DrAll H (vs ++ [v]) (ds ++ [d])
  | [], _, _, _, .nil, h => .cons h .nil
  | _ :: _, _, _, _, .cons e r, h => .cons e (DrAll.snoc r h)
theorem DrAll.length : ∀ {vs : List V} {ds : List PyData}, DrAll H vs ds → vs.length = ds.length
  | _, _, .nil => rfl
  | _, _, .cons _ r => by rw [List.length_cons, List.length_cons, DrAll.length r]
end
section
variable {X : Cx} {pins : List (Addr × Obj)} {σ : L2.St} {H : Hp} {s : Shared}
theorem rel_key {k : Key} {u : Value} (h : keyIs k u = true) {s : Heap} : Reads s u (keyD k) [] := by
  rcases keyIs_shape h with ⟨i, t, rfl, rfl⟩ | ⟨x, t, rfl, rfl⟩
  · exact .int i t
  · exact .str x t
theorem keys_read {h : Heap} {P : Program} {w : World} : ∀ (ds : List (PyData × PyData)) (kvs : List (Key × V)) (vs : List (Key × Value)) (es : List DictEntry), DrKv H kvs ds → KV kvs vs → Pairs (mixKind P w) es vs →
    ∃ as, ReadsAll h (es.map (·.key)) (ds.map (·.1)) as ∧ sysModules ∉ as
  | [], _, _, _, e, r, p => by
    cases e
    cases r
    cases p
    exact ⟨_, ReadsAll.nil, by simp⟩
  | (k, d) :: ds, _, _, _, e, r, p => by
    cases e with
    | cons h1 h2 =>
      cases r with
      | cons r1 r2 =>
        cases p with
        | cons p1 p2 p3 =>
          obtain ⟨bs, q2, n2⟩ := keys_read (h := h) ds _ _ _ h2 r2 p3
          obtain ⟨r3, _⟩ := r1
          rw [← r3] at p1
          exact ⟨_, ReadsAll.cons (rel_key p1) q2, fun m => n2 m⟩
theorem not_sys (I : Inv X pins σ H s) (hs : ∃ o, X.base.get? sysModules = some o) {a : Addr} {o : HO} (h : H a = some o) : sysModules ≠ a := fun e => by
  obtain ⟨ob, hob⟩ := hs
  have n := (I.bs _ _ hob).2
  rw [e, h] at n
  cases n
mutual
theorem Dr.reads (I : Inv X pins σ H s) (hs : ∃ o, X.base.get? sysModules = some o) : ∀ (d : PyData) (v : V) (u : Value), Dr H v d → RelV v u → ∃ as, Reads s.heap u d as ∧ sysModules ∉ as
  | .none, _, _, h, r => by
    cases h
    cases r
    exact ⟨_, Reads.none, by simp⟩
  | .bool b, _, _, h, r => by
    cases h
    cases r
    exact ⟨_, Reads.bool b, by simp⟩
  | .int i, _, _, h, r => by
    cases h
    obtain ⟨t, rfl⟩ := r
    exact ⟨_, Reads.int i t, by simp⟩
  | .str x, _, _, h, r => by
    cases h
    obtain ⟨t, rfl⟩ := r
    exact ⟨_, Reads.str x t, by simp⟩
  | .list ds, _, _, h, r => by
    cases h with
    | lst e ha =>
      cases r
      obtain ⟨its, rv, ⟨o, n, ho, hc, _, hd⟩, _⟩ := I.list (SqL.of e)
      obtain ⟨as, hr, hn⟩ := DrAll.reads I hs ds _ its ha rv
      exact ⟨_, Reads.list ho hc hd hr, fun m => by
        rcases List.mem_cons.mp m with z | z
        · exact not_sys I hs e z
        · exact hn z⟩
  | .tuple ds, _, _, h, r => by
    cases h with
    | tup e ha =>
      cases r
      obtain ⟨its, rv, ⟨o, ho, hc, n, hd⟩, _⟩ := I.tuple (SqT.of e)
      obtain ⟨as, hr, hn⟩ := DrAll.reads I hs ds _ its ha rv
      exact ⟨_, Reads.tuple ho hc hd hr, hn⟩
  | .dict ds, _, _, h, r => by
    cases h with
    | @dct a kvs _ e ha =>
      cases r
      obtain ⟨_, _, vs, kv, o, es, ep, ho, hx, hdt, _, ps, _⟩ := (show ObjOk X.prog X.w H s.heap a (.dK kvs) from I.hok a _ e)
      obtain ⟨as, hr, hn⟩ := DrKv.reads I hs ds kvs vs es.toList ha kv ps
      obtain ⟨bs, q1, q2⟩ := keys_read (h := s.heap) ds kvs vs es.toList ha kv ps
      exact ⟨_, Reads.dict ho hx.1 hdt q1 hr, fun m => by
        rcases List.mem_append.mp m with z | z
        · rcases List.mem_cons.mp z with z | z
          · exact not_sys I hs e z
          · exact q2 z
        · exact hn z⟩
theorem DrAll.reads (I : Inv X pins σ H s) (hs : ∃ o, X.base.get? sysModules = some o) : ∀ (ds : List PyData) (vs : List V) (us : List Value), DrAll H vs ds → Vals vs us → ∃ as, ReadsAll s.heap us ds as ∧ sysModules ∉ as
  | [], _, _, h, r => by
    cases h
    cases r
    exact ⟨_, ReadsAll.nil, by simp⟩
  | d :: ds, _, _, h, r => by
    cases h with
    | cons h1 h2 =>
      cases r with
      | cons r1 r2 =>
        obtain ⟨as, q1, n1⟩ := Dr.reads I hs d _ _ h1 r1
        obtain ⟨bs, q2, n2⟩ := DrAll.reads I hs ds _ _ h2 r2
        exact ⟨_, ReadsAll.cons q1 q2, fun m => (List.mem_append.mp m).elim n1 n2⟩
theorem DrKv.reads (I : Inv X pins σ H s) (hs : ∃ o, X.base.get? sysModules = some o) : ∀ (ds : List (PyData × PyData)) (kvs : List (Key × V)) (vs : List (Key × Value)) (es : List DictEntry), DrKv H kvs ds → KV kvs vs → Pairs (mixKind X.prog X.w) es vs →
    ∃ as, ReadsAll s.heap (es.map (·.val)) (ds.map (·.2)) as ∧ sysModules ∉ as
  | [], _, _, _, h, r, p => by
    cases h
    cases r
    cases p
    exact ⟨_, ReadsAll.nil, by simp⟩
  | (k, d) :: ds, _, _, _, h, r, p => by
    cases h with
    | cons h1 h2 =>
      cases r with
      | cons r1 r2 =>
        cases p with
        | cons p1 p2 p3 =>
          obtain ⟨as, q1, n1⟩ := Dr.reads I hs d _ _ h1 r1.2
          obtain ⟨bs, q2, n2⟩ := DrKv.reads I hs ds _ _ _ h2 r2 p3
          rw [← p2] at q1
          exact ⟨_, ReadsAll.cons q1 q2, fun m => (List.mem_append.mp m).elim n1 n2⟩
end
end
/-- repr(v), v any data -/
def rRepr : List V → Hp → VK → Prop := fun xs H Q => ∃ v d, xs = [v] ∧ Dr H v d ∧ d.showable = true ∧ d.depth ≤ 60 ∧ d.shown.length ≤ sizeLine ∧ Q (.str d.shown) H
theorem call_repr {X : Cx} (hg : X.A.guards = some []) (hu : X.A.units + 64 < cLine) (hs : ∃ o, X.base.get? sysModules = some o) : CallR X (.builtin "repr") rRepr := by
  intro pins s σ H xs us Q I r h
  obtain ⟨v, d, rfl, hd, sh, dp, sz, q⟩ := h
  obtain ⟨u, rfl, ru⟩ := vals1 r
  have fin : ∀ h' tk uk, (∀ b o, s.heap.get? b = some o → h'.get? b = some o) → EP X pins σ Q (.str d.shown uk) { s with heap := h', toks := tk } := fun h' tk uk k => ⟨.str d.shown, H, I.kept k, ⟨uk, rfl⟩, q⟩
  obtain ⟨as, hr, hn⟩ := Dr.reads I hs d v u hd ru
  cases hr with
  | none => exact PySem.P.repr_of_none (by have e := fin s.heap (s.toks + 1) s.toks (fun _ _ e => e); simpa only [PyData.shown] using e)
  | bool b => exact PySem.P.repr_of_bool (by have e := fin s.heap (s.toks + 1) s.toks (fun _ _ e => e); simpa only [PyData.shown] using e)
  | int i t => exact PySem.P.repr_of_int (by simpa [PyData.showable] using sh) (by have e := fin s.heap (s.toks + 1) s.toks (fun _ _ e => e); simpa only [PyData.shown] using e)
  | str x t => exact PySem.P.repr_of_str (by have e := fin s.heap (s.toks + 1) s.toks (fun _ _ e => e); simpa only [PyData.shown] using e) (by simpa only [PyData.shown] using sz)
  | list h1 h2 h3 h4 => exact repr_of_reads' (Reads.list h1 h2 h3 h4) sh (fun _ => hn) hg (by omega) (fun _ _ e => e) (fun h' u tk k => fin h' tk u k) sz
  | tuple h1 h2 h3 h4 => exact repr_of_reads' (Reads.tuple h1 h2 h3 h4) sh (fun _ => hn) hg (by omega) (fun _ _ e => e) (fun h' u tk k => fin h' tk u k) sz
  | dict h1 h2 h3 h4 h5 => exact repr_of_reads' (Reads.dict h1 h2 h3 h4 h5) sh (fun _ => hn) hg (by omega) (fun _ _ e => e) (fun h' u tk k => fin h' tk u k) sz
end Gr

set_option Elab.async false
set_option linter.all false
set_option maxRecDepth 100000
set_option maxHeartbeats 4000000
/-! more rules and words -/
namespace Gk
open PySem PySem.Spec PyProof.Rows L2 Gn Gr
section
variable {X : Cx} {CX : CXT} {k : Nat} {f : Addr} {fd : FuncData} {ps ks : List Str} {sp : Sp} {E : XK} {x : Str} {p pos : Pos} {kws : List Keyword} {tk : TA} {g : List Value → List Value → List Value} {gV : List V → List V → List V}
/-- f(k = v, ..) -/
theorem pe_kw (F : FnOk X.prog X.w X.K X.mg X.base CX k f fd ps sp) (hr : Room k X.A) (hg : Gl X x) (hm : X.mg x = some (.ref f)) (hk : PySem.W.keepIn X.K (.ref f) = true) (hb : KBinds X.K fd ps ks g gV) (hx : Passes CX X E) (hkw : PK X kws tk)
    (hall : (backToKw pos (keywordEach kws X.env)).all (·.1.isSome) = true := by rfl) (hks : (backToKw pos (keywordEach kws X.env)).filterMap (·.1) = ks := by rfl) (hdb : (x == ("__debug__" : Str)) = false := by decide)
    (hpl : ((backTo pos (starEach [] X.env)).any (·.1) || (backToKw pos (keywordEach kws X.env)).any (·.1.isNone)) = false := by rfl) :
    PE X (.Call (.Name x p) [] kws pos) (tCallK sp gV E tNil tk) := by
  refine ⟨fun pins s σ H Q I h => ?_⟩
  refine wpAny_Call_Name_kw (ld_glob I hg hm ?_ hdb)
  refine PySem.W.callWith_KW0 (h₀ := X.base) I.ok.mod.kin hk hall ?_ hpl
  refine thn (hkw.run pos pins s σ H _ I h) fun ws s2 ⟨zs, H2, I2, rz, q2⟩ => ⟨I2.kIn, ?_⟩
  rw [hks]
  exact run_fnk (us := []) (vs := []) F hr hb hx I2 .nil rz q2
/-- one parameter, given by its name or its place -/
theorem kb_one {K : PySem.W.Frag} {y : Str} (b : ∀ (s : Shared) (w : Value), BindsTo s fd ⟨[], [(y, w)]⟩ [(y, w)]) (b' : ∀ (s : Shared) (w : Value), BindsTo s fd ⟨[w], []⟩ [(y, w)]) : KBinds K fd [y] [y] (fun us ws => us ++ ws) (fun vs zs => vs ++ zs) := by
  refine ⟨fun s us ws _ hl => ?_, fun r q => Vals.append r q⟩
  match us, ws, hl with
  | [], [w], _ => exact b s w
  | [w], [], _ => exact b' s w
  | [], [], hl => exact absurd hl (by simp)
  | [], _ :: _ :: _, hl => exact absurd hl (by simp)
  | [_], _ :: _, hl => exact absurd hl (by simp)
  | _ :: _ :: _, _, hl => exact absurd hl (by simp)
end
/-- no test in a comprehension -/
theorem yes_of {σ : L2.St} {H : Hp} {A B : Hp → Prop} (h : A H) : tYes σ H (fun b H3 => if b = true then A H3 else B H3) := by
  show if true = true then A H else B H
  rw [if_pos rfl]
  exact h
/-! ## texts of signs below 128 -/
def Asc (n : Nat) (x : Str) : Prop := x.length ≤ n ∧ ∀ c ∈ x.cps.toList, c < 128
theorem len_cps (x : Str) : x.cps.toList.length = x.length := by simp [Str.length]
theorem cps_app (x y : Str) : (x ++ y).cps.toList = x.cps.toList ++ y.cps.toList := by
  show (x.cps ++ y.cps).toList = _
  simp
theorem Asc.app {n m : Nat} {x y : Str} (h : Asc n x) (k : Asc m y) : Asc (n + m) (x ++ y) := by
  refine ⟨by rw [strLen_append]; have := h.1; have := k.1; omega, fun c hc => ?_⟩
  rw [cps_app] at hc
  exact (List.mem_append.mp hc).elim (h.2 c) (k.2 c)
theorem Asc.mono {n m : Nat} {x : Str} (h : Asc n x) (k : n ≤ m) : Asc m x := ⟨Nat.le_trans h.1 k, h.2⟩
theorem Asc.one {c : Nat} (h : c < 128) : Asc 1 (⟨#[c]⟩ : Str) := ⟨Nat.le_refl _, fun b hb => by
  have : b = c := by simpa using hb
  omega⟩
theorem Asc.cut {n : Nat} {x : Str} (h : Asc n x) (lo hi : Option Int) : Asc n (cutS x lo hi) := by
  have e : (cutS x lo hi).cps.toList = (x.cps.toList.drop (HT.sIx x.length 0 lo)).take (HT.sIx x.length x.length hi - HT.sIx x.length 0 lo) := by
    unfold cutS
    simp
  refine ⟨?_, fun c hc => ?_⟩
  · rw [← len_cps, e, List.length_take, List.length_drop, len_cps]
    have := h.1
    omega
  · rw [e] at hc
    exact h.2 c (List.mem_of_mem_drop (List.mem_of_mem_take hc))
theorem Asc.ok {n : Nat} {x : Str} (h : Asc n x) : PyData.strOk x = true := by
  unfold PyData.strOk
  rw [Array.all_eq_true']
  intro c hc
  have := h.2 c (by simpa using hc)
  simp only [decide_eq_true_eq]
  omega
theorem Asc.shown {n : Nat} {x : Str} (h : Asc n x) : (reprText x).length ≤ 10 * n + 2 := by
  have := PySem.StrLaws.reprText_len x fun c hc => Nat.lt_of_lt_of_le (h.2 c hc) (by decide)
  have := h.1
  omega
/-! ## what is new since -/
def Nw (H H' : Hp) : Hp := fun a => match H a with | none => H' a | some _ => none
section
variable {H H' H2 : Hp} {a : Addr} {o : HO}
theorem nw_of (h : Nw H H' a = some o) : H a = none ∧ H' a = some o := by
  unfold Nw at h
  cases e : H a with
  | none => rw [e] at h; exact ⟨rfl, h⟩
  | some u => rw [e] at h; cases h
theorem nw_to (h : H a = none) (k : H' a = some o) : Nw H H' a = some o := by
  unfold Nw
  rw [h]
  exact k
theorem nw_sub : ∀ a o, Nw H H' a = some o → H' a = some o := fun a o h => (nw_of h).2
end
/-! ## numbers as texts -/
theorem shown_int {i : Int} (h : i.natAbs < 10 ^ 20) : (PyData.int i).showable = true ∧ (PyData.int i).shown.length ≤ 21 := by
  constructor
  · simp only [PyData.showable, decide_eq_true_eq]
    by_cases z : i.natAbs = 0
    · rw [z]; decide
    · refine (Nat.log2_lt z).mpr (Nat.lt_trans h ?_)
      decide +kernel
  · simp only [PyData.shown]
    show (Str.ofString (toString i)).length ≤ 21
    rw [PySem.ofString_length]
    exact int_text_length_le10 (by decide) h
/-! ## how much a value's text may hold -/
def Ok (n : Nat) (x : PyData) : Prop := x.showable = true ∧ x.depth ≤ n ∧ x.shown.length ≤ 200 * 4 ^ n
theorem pow_pos4 (n : Nat) : 1 ≤ 4 ^ n := Nat.pow_pos (by decide)
theorem pow_le4 {n m : Nat} (h : n ≤ m) : 4 ^ n ≤ 4 ^ m := Nat.pow_le_pow_right (by decide) h
theorem pow_s4 (n : Nat) : 4 ^ (n + 1) = 4 * 4 ^ n := by rw [Nat.pow_succ, Nat.mul_comm]
theorem Ok.mono {n m : Nat} {x : PyData} (h : Ok n x) (k : n ≤ m) : Ok m x :=
  ⟨h.1, Nat.le_trans h.2.1 k, Nat.le_trans h.2.2 (Nat.mul_le_mul_left _ (pow_le4 k))⟩
theorem Ok.flat {n : Nat} {x : PyData} (h1 : x.showable = true) (h2 : x.depth = 0) (h3 : x.shown.length ≤ 200) : Ok n x := by
  have := pow_pos4 n
  exact ⟨h1, by omega, by omega⟩
theorem ok_str {n : Nat} {x : Str} (h : Asc 19 x) : Ok n (.str x) := by
  have := h.shown
  refine Ok.flat (by simp only [PyData.showable]) (by simp only [PyData.depth]) ?_
  simp only [PyData.shown]
  omega
theorem ok_int {n : Nat} {i : Int} (h : i.natAbs < 10 ^ 20) : Ok n (.int i) := by
  obtain ⟨a, b⟩ := shown_int h
  exact Ok.flat a (by simp only [PyData.depth]) (by omega)
theorem ok_all {n : Nat} : ∀ {ds : List PyData}, (∀ x ∈ ds, Ok n x) → PyData.showableAll ds = true ∧ PyData.depthAll ds ≤ n ∧ (PyData.shownAll ds).length = ds.length ∧ ((PyData.shownAll ds).map (·.length)).sum ≤ ds.length * (200 * 4 ^ n)
  | [], _ => by
    refine ⟨by simp only [PyData.showableAll], by simp only [PyData.depthAll]; omega, by simp only [PyData.shownAll]; rfl, by simp only [PyData.shownAll]; simp⟩
  | x :: r, h => by
    obtain ⟨a1, a2, a3⟩ := h x (List.mem_cons_self ..)
    obtain ⟨b1, b2, b3, b4⟩ := ok_all (ds := r) fun y hy => h y (List.mem_cons_of_mem _ hy)
    refine ⟨?_, ?_, ?_, ?_⟩
    · simp only [PyData.showableAll, a1, b1, Bool.and_self]
    · simp only [PyData.depthAll]
      omega
    · simp only [PyData.shownAll, List.length_cons, b3]
    · simp only [PyData.shownAll, List.map_cons, List.sum_cons, List.length_cons]
      rw [Nat.succ_mul]
      omega
theorem two_mul {k n : Nat} (h : k ≤ 2) : k * (200 * 4 ^ n) ≤ 2 * (200 * 4 ^ n) := Nat.mul_le_mul_right _ h
theorem ok_list {n : Nat} {ds : List PyData} (h : ∀ x ∈ ds, Ok n x) (h2 : ds.length ≤ 2) : Ok (n + 1) (.list ds) := by
  obtain ⟨b1, b2, b3, b4⟩ := ok_all h
  have := listText_len_le (PyData.shownAll ds)
  have := two_mul (n := n) h2
  have := pow_pos4 n
  refine ⟨by simp only [PyData.showable, b1], by simp only [PyData.depth]; omega, ?_⟩
  simp only [PyData.shown]
  rw [pow_s4]
  omega
theorem ok_tuple {n : Nat} {ds : List PyData} (h : ∀ x ∈ ds, Ok n x) (h2 : ds.length ≤ 2) : Ok (n + 1) (.tuple ds) := by
  obtain ⟨b1, b2, b3, b4⟩ := ok_all h
  have := tupleText_len_le (PyData.shownAll ds)
  have := two_mul (n := n) h2
  have := pow_pos4 n
  refine ⟨by simp only [PyData.showable, b1], by simp only [PyData.depth]; omega, ?_⟩
  simp only [PyData.shown]
  rw [pow_s4]
  omega
theorem ok_kvs {n : Nat} : ∀ {ds : List (PyData × PyData)}, (∀ p ∈ ds, (∃ x, p.1 = .str x ∧ Asc 19 x) ∧ Ok n p.2) → PyData.showableKv ds = true ∧ PyData.depthKv ds ≤ n ∧ (PyData.shownKv ds).length = ds.length ∧ ((PyData.shownKv ds).map (·.length)).sum ≤ ds.length * (194 + 200 * 4 ^ n)
  | [], _ => by
    refine ⟨by simp only [PyData.showableKv], by simp only [PyData.depthKv]; omega, by simp only [PyData.shownKv]; rfl, by simp only [PyData.shownKv]; simp⟩
  | (kx, x) :: r, h => by
    obtain ⟨⟨y, e, hy⟩, a1, a2, a3⟩ := h (kx, x) (List.mem_cons_self ..)
    obtain ⟨b1, b2, b3, b4⟩ := ok_kvs (ds := r) fun y hy => h y (List.mem_cons_of_mem _ hy)
    have e : kx = .str y := e
    subst e
    have a1 : x.showable = true := a1
    have a2 : x.depth ≤ n := a2
    have a3 : x.shown.length ≤ 200 * 4 ^ n := a3
    have hy' := hy.shown
    refine ⟨?_, ?_, ?_, ?_⟩
    · simp only [PyData.showableKv, PyData.showable, a1, b1, Bool.and_self]
    · simp only [PyData.depthKv, PyData.depth]
      omega
    · simp only [PyData.shownKv, List.length_cons, b3]
    · simp only [PyData.shownKv, List.map_cons, List.sum_cons, List.length_cons, PyData.shown]
      rw [strLen_append, strLen_append, Nat.succ_mul]
      have e2 : ((": " : String) : Str).length = 2 := rfl
      omega
theorem ok_dict {n : Nat} {ds : List (PyData × PyData)} (h : ∀ p ∈ ds, (∃ x, p.1 = .str x ∧ Asc 19 x) ∧ Ok n p.2) (h2 : ds.length ≤ 2) : Ok (n + 1) (.dict ds) := by
  obtain ⟨b1, b2, b3, b4⟩ := ok_kvs h
  have := dictText_len_le (PyData.shownKv ds)
  have : ds.length * (194 + 200 * 4 ^ n) ≤ 2 * (194 + 200 * 4 ^ n) := Nat.mul_le_mul_right _ h2
  have := pow_pos4 n
  refine ⟨by simp only [PyData.showable, b1], by simp only [PyData.depth]; omega, ?_⟩
  simp only [PyData.shown]
  rw [pow_s4]
  omega
/-! ## keys '0', '1', .. -/
def tagS (n : Nat) : Str := ((toString (n : Int) : String) : Str)
def tags : Nat → List V → List (Key × V)
  | _, [] => []
  | n, v :: r => ((Sum.inr (tagS n) : Key), v) :: tags (n + 1) r
def tagD : Nat → List PyData → List (PyData × PyData)
  | _, [] => []
  | n, d :: r => (.str (tagS n), d) :: tagD (n + 1) r
theorem tags_snoc : ∀ (vs : List V) (n : Nat) (v : V), tags n (vs ++ [v]) = tags n vs ++ [((Sum.inr (tagS (n + vs.length)) : Key), v)]
  | [], n, v => rfl
  | w :: r, n, v => by
    have e : n + 1 + r.length = n + (w :: r).length := by rw [List.length_cons]; omega
    show (_, w) :: tags (n + 1) (r ++ [v]) = (_, w) :: (tags (n + 1) r ++ _)
    rw [tags_snoc r (n + 1) v, e]
theorem tags_dr {H : Hp} : ∀ {vs : List V} {ds : List PyData} (n : Nat), DrAll H vs ds → DrKv H (tags n vs) (tagD n ds)
  | _, _, _, .nil => .nil
  | _, _, n, .cons e r => .cons e (tags_dr (n + 1) r)
theorem tagD_len : ∀ (ds : List PyData) (n : Nat), (tagD n ds).length = ds.length
  | [], _ => rfl
  | _ :: r, n => by show (tagD (n + 1) r).length + 1 = r.length + 1; rw [tagD_len r]
theorem tag_asc {n : Nat} (h : n < 10) : Asc 19 (tagS n) := by
  have : n = 0 ∨ n = 1 ∨ n = 2 ∨ n = 3 ∨ n = 4 ∨ n = 5 ∨ n = 6 ∨ n = 7 ∨ n = 8 ∨ n = 9 := by omega
  rcases this with rfl | rfl | rfl | rfl | rfl | rfl | rfl | rfl | rfl | rfl <;> exact ⟨by decide +kernel, by decide +kernel⟩
theorem tagD_ok {m : Nat} : ∀ {ds : List PyData} (n : Nat), n + ds.length ≤ 9 → (∀ x ∈ ds, Ok m x) → ∀ p ∈ tagD n ds, (∃ x, p.1 = .str x ∧ Asc 19 x) ∧ Ok m p.2
  | [], _, _, _, p, hp => by cases hp
  | d :: r, n, hn, h, p, hp => by
    rw [List.length_cons] at hn
    rcases List.mem_cons.mp hp with e | hp
    · subst e
      exact ⟨⟨_, rfl, tag_asc (by omega)⟩, h d (List.mem_cons_self ..)⟩
    · exact tagD_ok (n + 1) (by omega) (fun x hx => h x (List.mem_cons_of_mem _ hx)) p hp
theorem tags_merge {vs : List V} (h : vs.length ≤ 2) : mergeK [] (tags 0 vs) = tags 0 vs := by
  match vs, h with
  | [], _ => rfl
  | [a], _ => rfl
  | [a, b], _ =>
    have n01 : ¬ (Sum.inr (tagS 0) : Key) = Sum.inr (tagS 1) := by decide +kernel
    show putK (putK [] (Sum.inr (tagS 0) : Key) a) (Sum.inr (tagS 1) : Key) b = [((Sum.inr (tagS 0) : Key), a), ((Sum.inr (tagS 1) : Key), b)]
    have e1 : putK [] (Sum.inr (tagS 0) : Key) a = [((Sum.inr (tagS 0) : Key), a)] := rfl
    rw [e1]
    exact putK_new b ((valV_neg n01).trans valV_nil)
/-- .. and a text is made of signs below 128 -/
def OkT (n : Nat) (x : PyData) : Prop := Ok n x ∧ ∀ s, x = .str s → Asc 19 s
theorem okT_of {n : Nat} {x : PyData} (h : Ok n x) (k : ∀ s, x ≠ .str s) : OkT n x := ⟨h, fun s e => absurd e (k s)⟩
theorem okT_str {n : Nat} {x : Str} (h : Asc 19 x) : OkT n (.str x) := ⟨ok_str h, fun s e => by cases e; exact h⟩
/-! ## the type of a value -/
def Ext (H H' : Hp) : Prop := ∀ a o, H a = some o → H' a = some o
theorem Ext.refl {H : Hp} : Ext H H := fun _ _ e => e
theorem Ext.trans {H H' H2 : Hp} (h : Ext H H') (k : Ext H' H2) : Ext H H2 := fun a o e => k a o (h a o e)
theorem Ext.new {H : Hp} {p : Addr} {o : HO} (h : H p = none) : Ext H (upd H p o) := fun a u e => new_same h a u e
inductive TyT (H : Hp) : V → String → Prop
  | non : TyT H .non "NoneType"
  | bl (b : Bool) : TyT H (.bl b) "bool"
  | int (i : Int) : TyT H (.int i) "int"
  | str (x : Str) : TyT H (.str x) "str"
  | lst {a : Addr} {xs : List V} : H a = some (.lst xs) → TyT H (.ref a) "list"
  | tup {a : Addr} {xs : List V} : H a = some (.tup xs) → TyT H (.ref a) "tuple"
  | dct {a : Addr} {kvs : List (Key × V)} : H a = some (.dK kvs) → TyT H (.ref a) "dict"
theorem TyT.x {K : PySem.W.Frag} {H : Hp} {v : V} {T : String} (h : TyT H v T) : TyX K H v (.type T) := by
  cases h with
  | non => exact .base .non
  | bl b => exact .base (.bl b)
  | int i => exact .base (.int i)
  | str x => exact .base (.str x)
  | lst e => exact .base (.lst e)
  | tup e => exact .base (.tup e)
  | dct e => exact .base (.dK e)
theorem TyT.ext {H H' : Hp} {v : V} {T : String} (h : TyT H v T) (k : Ext H H') : TyT H' v T := by
  cases h with
  | non => exact .non
  | bl b => exact .bl b
  | int i => exact .int i
  | str x => exact .str x
  | lst e => exact .lst (k _ _ e)
  | tup e => exact .tup (k _ _ e)
  | dct e => exact .dct (k _ _ e)
theorem dr_ty {H : Hp} {v : V} {x : PyData} (h : Dr H v x) : (∃ s, v = .str s ∧ x = .str s) ∨ (∃ i, v = .int i) ∨ (TyT H v "NoneType" ∨ TyT H v "bool" ∨ TyT H v "list" ∨ TyT H v "tuple" ∨ TyT H v "dict") := by
  cases h with
  | non => exact .inr (.inr (.inl .non))
  | bl b => exact .inr (.inr (.inr (.inl (.bl b))))
  | int i => exact .inr (.inl ⟨i, rfl⟩)
  | str x => exact .inl ⟨x, rfl, rfl⟩
  | lst e _ => exact .inr (.inr (.inr (.inr (.inl (.lst e)))))
  | tup e _ => exact .inr (.inr (.inr (.inr (.inr (.inl (.tup e))))))
  | dct e _ => exact .inr (.inr (.inr (.inr (.inr (.inr (.dct e))))))
/-- isinstance of a value whose type is told -/
theorem isi_ty {K : PySem.W.Frag} {H : Hp} {v : V} {T U : String} {r : Bool} {Q : VK} (h : TyT H v T) (k : kitB T U = some r) (q : Q (.bl r) H) : rIsi K [v, .ty U] H Q :=
  ⟨v, .ty U, .type T, .type U, r, rfl, .ty U, h.x, kit_ty k, q⟩
/-! ## what a name is, what an amount is -/
def letters : Str := "abcdefghijklmnopqrstuvwxyz"
def isL (c : Nat) : Bool := decide (c ∈ letters.cps.toList)
def nameOk (x : Str) : Bool := decide (1 ≤ x.length) && (decide (x.length ≤ 8) && x.cps.toList.all isL)
def amtOk (i : Int) : Bool := decide (1 ≤ i) && decide (i ≤ 1000000000)
def NameV (H : Hp) (v : V) (r : Bool) : Prop := (∃ x, v = .str x ∧ Asc 19 x ∧ r = nameOk x) ∨ (r = false ∧ (TyT H v "NoneType" ∨ TyT H v "bool" ∨ TyT H v "int" ∨ TyT H v "list" ∨ TyT H v "tuple" ∨ TyT H v "dict"))
def AmtV (H : Hp) (v : V) (r : Bool) : Prop := (∃ i, v = .int i ∧ r = amtOk i) ∨ (r = false ∧ (TyT H v "NoneType" ∨ TyT H v "bool" ∨ TyT H v "str" ∨ TyT H v "list" ∨ TyT H v "tuple" ∨ TyT H v "dict"))
def spName : Sp := fun vs H Q _ => ∃ v r, vs = [v] ∧ NameV H v r ∧ ∀ H', Ext H H' → Q (.bl r) H'
def spAmt : Sp := fun vs H Q _ => ∃ v r, vs = [v] ∧ AmtV H v r ∧ ∀ H', Ext H H' → Q (.bl r) H'
theorem NameV.ext {H H' : Hp} {v : V} {r : Bool} (h : NameV H v r) (k : Ext H H') : NameV H' v r := by
  rcases h with h | ⟨e, h⟩
  · exact .inl h
  · refine .inr ⟨e, ?_⟩
    rcases h with h | h | h | h | h | h
    · exact .inl (h.ext k)
    · exact .inr (.inl (h.ext k))
    · exact .inr (.inr (.inl (h.ext k)))
    · exact .inr (.inr (.inr (.inl (h.ext k))))
    · exact .inr (.inr (.inr (.inr (.inl (h.ext k)))))
    · exact .inr (.inr (.inr (.inr (.inr (h.ext k)))))
theorem AmtV.ext {H H' : Hp} {v : V} {r : Bool} (h : AmtV H v r) (k : Ext H H') : AmtV H' v r := by
  rcases h with h | ⟨e, h⟩
  · exact .inl h
  · refine .inr ⟨e, ?_⟩
    rcases h with h | h | h | h | h | h
    · exact .inl (h.ext k)
    · exact .inr (.inl (h.ext k))
    · exact .inr (.inr (.inl (h.ext k)))
    · exact .inr (.inr (.inr (.inl (h.ext k))))
    · exact .inr (.inr (.inr (.inr (.inl (h.ext k)))))
    · exact .inr (.inr (.inr (.inr (.inr (h.ext k)))))
theorem dr_judged {H : Hp} {v : V} {x : PyData} {n : Nat} (h : Dr H v x) (k : OkT n x) : (∃ r, NameV H v r) ∧ ∃ r, AmtV H v r := by
  rcases dr_ty h with ⟨s, rfl, rfl⟩ | ⟨i, rfl⟩ | h | h | h | h | h
  · exact ⟨⟨_, .inl ⟨s, rfl, k.2 s rfl, rfl⟩⟩, ⟨false, .inr ⟨rfl, .inr (.inr (.inl (.str s)))⟩⟩⟩
  · exact ⟨⟨false, .inr ⟨rfl, .inr (.inr (.inl (.int i)))⟩⟩, ⟨_, .inl ⟨i, rfl, rfl⟩⟩⟩
  · exact ⟨⟨false, .inr ⟨rfl, .inl h⟩⟩, ⟨false, .inr ⟨rfl, .inl h⟩⟩⟩
  · exact ⟨⟨false, .inr ⟨rfl, .inr (.inl h)⟩⟩, ⟨false, .inr ⟨rfl, .inr (.inl h)⟩⟩⟩
  · exact ⟨⟨false, .inr ⟨rfl, .inr (.inr (.inr (.inl h)))⟩⟩, ⟨false, .inr ⟨rfl, .inr (.inr (.inr (.inl h)))⟩⟩⟩
  · exact ⟨⟨false, .inr ⟨rfl, .inr (.inr (.inr (.inr (.inl h))))⟩⟩, ⟨false, .inr ⟨rfl, .inr (.inr (.inr (.inr (.inl h))))⟩⟩⟩
  · exact ⟨⟨false, .inr ⟨rfl, .inr (.inr (.inr (.inr (.inr h))))⟩⟩, ⟨false, .inr ⟨rfl, .inr (.inr (.inr (.inr (.inr h))))⟩⟩⟩
end Gk

set_option Elab.async false
set_option linter.all false
set_option maxRecDepth 100000
set_option maxHeartbeats 4000000
/-! rules for objects: static methods, keywords of a method, == and != by an own __eq__, tuple(dict) -/
namespace Go
open PySem PySem.Spec PyProof.Rows L2 Gn Gr Gk
section
variable {X : Cx} {CX : CXT} {k n : Nat} {C f g p : Addr} {mc : Value} {fd : FuncData} {ps ks : List Str} {sp : Sp} {E : XK} {o e : Expr} {es : List Expr} {kws : List Keyword} {m : Str} {pos apos : Pos} {ta : TE} {t tk : TA} {pl : Sem Bool} {gg : List Value → List Value → List Value} {gV : List V → List V → List V}
/-! ### a static method, through its class -/
structure SMet (K : PySem.W.Frag) (C : Addr) (mc : Value) (m : Str) (p g : Addr) : Prop where
  at_ : PySem.W.findCls K (.ref C) mc m = some (.get (.builtin "staticmethod.__get__") (.ref p) .none (.ref C))
  rc : ∃ rest, PySem.W.recIn K p "staticmethod" = some (.ref g :: rest)
theorem getsm_ok {pins : List (Addr × Obj)} {σ : L2.St} {H : Hp} {s : Shared} {A : Around} {E : Value → Shared → Prop} {Q : Value × List Value → Shared → Prop} (I : Inv X pins σ H s) (r : ClX.CRead X.K C mc) (c : SMet X.K C mc m p g)
    (h : ∀ s', Inv X pins σ H s' → Q (.ref g, []) s') : wpAny (model X.prog X.w) A (getMethod (.ref C) m pl) Q E s := by
  obtain ⟨rest, hp⟩ := c.rc
  refine PySem.W.method_cls I.kIn r.ga (PySem.W.cls_bind I.kIn r.rd c.at_ (wpAny_call (PySem.W.sm_get (s := { s with toks := s.toks + 1 }) I.kIn hp (PySem.W.handed_on rfl ?_))))
  exact h _ (I.tok _)
def tSMeth (C : Addr) (sp : Sp) (E : XK) (ta : TE) (t : TA) : TE := fun σ H Q => ta σ H fun x H1 => x = .ref C ∧ t σ H1 fun vs H2 => sp vs H2 Q E
theorem pe_smeth (he : PE X o ta) (r : ClX.CRead X.K C mc) (c : SMet X.K C mc m p g) (hk : PySem.W.keepIn X.K (.ref g) = true) (F : FnOk X.prog X.w X.K X.mg X.base CX k g fd ps sp) (hr : Room k X.A) (hb : Binds X.K fd ps []) (hx : Passes CX X E) (ha : PA X (e :: es) t)
    (hst : starEach (e :: es) X.env = (false, eval e X.env) :: starEach es X.env := by rfl) (hpl : (backTo pos (starEach es X.env)).any (·.1) = false := by rfl)
    (ht : eval (.Call (.Attribute o m apos) (e :: es) [] pos) X.env = (do
      let ov ← eval o X.env
      standAt apos.atName
      let (f, first) ← holding [ov] (getMethod ov m pl)
      callWith pos f first (backTo pos (starEach (e :: es) X.env)) (backToKw pos (keywordEach [] X.env))) := by rfl) :
    PE X (.Call (.Attribute o m apos) (e :: es) [] pos) (tSMeth C sp E ta t) := by
  refine ⟨fun pins s σ H Q I h => ?_⟩
  refine PySem.W.methodCall_KW (pl := pl) (thn (he.run pins s σ H _ I h) fun u s1 ⟨x, H1, I1, rx, ex, q⟩ => ?_) ht
  subst ex
  obtain rfl : u = Value.ref C := rx
  refine getsm_ok I1 r c fun s2 I2 => ?_
  refine PySem.W.callWith_K (first := []) (h₀ := X.base) I2.ok.mod.kin hk (thn (ha.run pos pins s2 σ H1 _ I2 q) fun us s3 ⟨vs, H2, I3, rv, q2⟩ => ⟨I3.kIn, ?_⟩) hst hpl
  exact run_fn (us := us) (vs := vs) (dvs := []) F hr hb .nil hx I3 rv (by rw [List.append_nil]; exact q2)
def tSMethK (C : Addr) (sp : Sp) (gV : List V → List V → List V) (E : XK) (ta : TE) (tk : TA) : TE := fun σ H Q => ta σ H fun x H1 => x = .ref C ∧ tk σ H1 fun zs H2 => sp (gV [] zs) H2 Q E
theorem pe_smethK (he : PE X o ta) (r : ClX.CRead X.K C mc) (c : SMet X.K C mc m p g) (hk : PySem.W.keepIn X.K (.ref g) = true) (F : FnOk X.prog X.w X.K X.mg X.base CX k g fd ps sp) (hr : Room k X.A) (hb : KBinds X.K fd ps ks gg gV) (hx : Passes CX X E) (hkw : PK X kws tk)
    (hall : (backToKw pos (keywordEach kws X.env)).all (·.1.isSome) = true := by rfl) (hks : (backToKw pos (keywordEach kws X.env)).filterMap (·.1) = ks := by rfl)
    (hpl : ((backTo pos (starEach [] X.env)).any (·.1) || (backToKw pos (keywordEach kws X.env)).any (·.1.isNone)) = false := by rfl)
    (ht : eval (.Call (.Attribute o m apos) [] kws pos) X.env = (do
      let ov ← eval o X.env
      standAt apos.atName
      let (f, first) ← holding [ov] (getMethod ov m pl)
      callWith pos f first (backTo pos (starEach [] X.env)) (backToKw pos (keywordEach kws X.env))) := by rfl) :
    PE X (.Call (.Attribute o m apos) [] kws pos) (tSMethK C sp gV E ta tk) := by
  refine ⟨fun pins s σ H Q I h => ?_⟩
  refine PySem.W.methodCall_KW (pl := pl) (thn (he.run pins s σ H _ I h) fun u s1 ⟨x, H1, I1, rx, ex, q⟩ => ?_) ht
  subst ex
  obtain rfl : u = Value.ref C := rx
  refine getsm_ok I1 r c fun s2 I2 => ?_
  refine PySem.W.callWith_KW0 (first := []) (h₀ := X.base) I2.ok.mod.kin hk hall ?_ hpl
  refine thn (hkw.run pos pins s2 σ H1 _ I2 q) fun ws s3 ⟨zs, H2, I3, rz, q2⟩ => ⟨I3.kIn, ?_⟩
  rw [hks]
  exact run_fnk (us := []) (vs := []) F hr hb hx I3 .nil rz q2
/-! ### o.m(k = v) -/
def tMethK (C : Addr) (m : Str) (sp : Sp) (gV : List V → List V → List V) (E : XK) (ta : TE) (tk : TA) : TE := fun σ H Q => ta σ H fun x H1 => ∃ a dx fs, x = .ref a ∧ H1 a = some (.ins C dx fs) ∧ fs.lookup m = none ∧ tk σ H1 fun zs H2 => sp (gV [x] zs) H2 Q E
theorem pe_methK (he : PE X o ta) (c : Cls X.K C) (hm : Meth X.K C m f) (F : FnOk X.prog X.w X.K X.mg X.base CX k f fd ps sp) (hr : Room k X.A) (hb : KBinds X.K fd ps ks gg gV) (hx : Passes CX X E) (hkw : PK X kws tk)
    (hall : (backToKw pos (keywordEach kws X.env)).all (·.1.isSome) = true := by rfl) (hks : (backToKw pos (keywordEach kws X.env)).filterMap (·.1) = ks := by rfl)
    (hpl : ((backTo pos (starEach [] X.env)).any (·.1) || (backToKw pos (keywordEach kws X.env)).any (·.1.isNone)) = false := by rfl)
    (ht : eval (.Call (.Attribute o m apos) [] kws pos) X.env = (do
      let ov ← eval o X.env
      standAt apos.atName
      let (f, first) ← holding [ov] (getMethod ov m pl)
      callWith pos f first (backTo pos (starEach [] X.env)) (backToKw pos (keywordEach kws X.env))) := by rfl) :
    PE X (.Call (.Attribute o m apos) [] kws pos) (tMethK C m sp gV E ta tk) := by
  refine ⟨fun pins s σ H Q I h => ?_⟩
  refine PySem.W.methodCall_KW (pl := pl) (thn (he.run pins s σ H _ I h) fun u s1 ⟨x, H1, I1, rx, a, dx, fs, ex, ea, l, q⟩ => ?_) ht
  subst ex
  obtain rfl : u = Value.ref a := rx
  refine getmeth_ok I1 ea c hm l ?_
  refine PySem.W.callWith_KW0 (first := [.ref a]) (h₀ := X.base) I1.ok.mod.kin hm.kp hall ?_ hpl
  refine thn (hkw.run pos pins s1 σ H1 _ I1 q) fun ws s3 ⟨zs, H2, I3, rz, q2⟩ => ⟨I3.kIn, ?_⟩
  rw [hks]
  exact run_fnk (us := [.ref a]) (vs := [.ref a]) F hr hb hx I3 (.cons rfl .nil) rz q2
/-! ### == and != by an own __eq__ -/
/-- the own __eq__ at f of the class at C; no __ne__ besides object's -/
structure OwnE (K : PySem.W.Frag) (C f : Addr) : Prop where
  eq : PySem.W.findIn K (.ref C) "__eq__" = some (some (.ref f))
  fn : PySem.W.isFn K (.ref f) = true
  cls : ∃ nm q N bs hdct sn sub ab col dd k0 k1 k2 k3 k5 newId, K.lookup C = some (excClassObj nm q C N bs [.type "object"] hdct sn sub ab col dd k0 k1 k2 k3 k5 newId) ∧ PySem.W.nsOkIn K N = true ∧ PySem.W.nsIn K N "__eq__" = some (some (.ref f)) ∧ PySem.W.nsIn K N "__ne__" = some none
  ob : ∃ of : Obj, K.lookup f = some of ∧ of.cls = .type "function"
/-- two instances of the class; the own == is asked -/
def rOwn (C : Addr) (sp : Sp) (E : XK) (neg : Bool) : R2 := fun x y H Q => ∃ a b dx dy fs gs, x = .ref a ∧ y = .ref b ∧ H a = some (.ins C dx fs) ∧ H b = some (.ins C dy gs) ∧ sp [.ref a, .ref b] H (fun v H' => ∃ r, v = .bl r ∧ Q (.bl (if neg then !r else r)) H') E
theorem op_eqO (F : FnOk X.prog X.w X.K X.mg X.base CX n f fd ps sp) (hr : Room n X.A) (w : OwnE X.K C f) (hb : Binds X.K fd ps []) (hx : Passes CX X E) : OpR X (compareOp .Eq) (rOwn C sp E false) := by
  intro pins s σ H x y v u Q I rx ry h
  obtain ⟨a, b, dx, dy, fs, gs, rfl, rfl, ha, hb', hs⟩ := h
  cases rx
  cases ry
  obtain ⟨mA, O1, _⟩ := ins_get I.hok ha
  obtain ⟨mB, O2, _⟩ := ins_get I.hok hb'
  obtain ⟨od, J, _⟩ := O1.look
  obtain ⟨od', J', _⟩ := O2.look
  obtain ⟨m, hF⟩ := I.fr
  show wpAny (model X.prog X.w) X.A (richCompare .Eq (.ref a) (.ref b)) (EP X pins σ Q) X.xe s
  refine PySem.W.cmp_K (op := .Eq) (tb := .ref C) hr.units0 hF I.ok.mod.kin J J'.type (by simp [PySem.W.notFirst]) w.eq w.fn ?_
  refine thn (run_fn (us := [.ref a, .ref b]) (vs := [.ref a, .ref b]) (dvs := []) F hr hb .nil hx I (.cons rfl (.cons rfl .nil)) (by rw [List.append_nil]; exact hs)) fun r s' hq => ?_
  obtain ⟨z, H', I', rz, c, rfl, q⟩ := hq
  cases rz
  exact ⟨.bl c, H', I', rfl, q⟩
theorem ns_has {K : PySem.W.Frag} {h : Heap} {N : Addr} {m : Str → Option Value} {x : Str} {v : Value} (X : K.In h) (G : h.Ns N m) (e : PySem.W.nsIn K N x = some (some v)) : m x = some v := by
  obtain ⟨o, es, ep, ho, hd, _, hf⟩ := G
  rw [← hf]
  unfold PySem.W.nsIn at e
  cases q : K.lookup N with
  | none => rw [q] at e; cases e
  | some ob =>
    have z := X _ _ q
    rw [ho] at z
    cases z
    rw [q] at e
    obtain ⟨c, dd, dt, sl⟩ := o
    have hd : dt = .dict es ep := hd
    subst hd
    simp only at e
    unfold nsFind findBy
    rw [← Array.find?_toList]
    split at e
    · rename_i en he
      rw [he]
      cases e
      rfl
    · split at e <;> cases e
theorem eq_obj : ∃ y : Option Value, typeLookup (.type "object") "__eq__" = pure y := ⟨_, PySem.F.slot_object_eq.lookup⟩
theorem op_neO (F : FnOk X.prog X.w X.K X.mg X.base CX n f fd ps sp) (hr : Room (n + 1) X.A) (w : OwnE X.K C f) (hb : Binds X.K fd ps []) (hx : ∀ (pins : List (Addr × Obj)) (σ : L2.St) (H : Hp) (s : Shared) (e : Value) (s' : Shared), Inv X pins σ H s → CX X.stack H s E e s' → X.xe e s') : OpR X (compareOp .NotEq) (rOwn C sp E true) := by
  intro pins s σ H x y v u Q I rx ry h
  obtain ⟨a, b, dx, dy, fs, gs, rfl, rfl, ha, hb', hs⟩ := h
  cases rx
  cases ry
  obtain ⟨mA, O1, _⟩ := ins_get I.hok ha
  obtain ⟨mB, O2, _⟩ := ins_get I.hok hb'
  obtain ⟨nm, q, N, bs, hdct, sn, sub, ab, col, dd, k0, k1, k2, k3, k5, newId, hC, hN, he, hn⟩ := w.cls
  obtain ⟨of, ho, hoc⟩ := w.ob
  obtain ⟨yv, hy⟩ := eq_obj
  have G : s.heap.Ns N (s.heap.nsMap N) := .of_isNs (PySem.W.isNs_of_in I.kIn hN)
  have hl : ([Value.ref a, Value.ref b] ++ []).length = ps.length := by
    have := F.len _ _ _ _ hs
    simpa using this
  obtain ⟨_, _, _, ea, _⟩ := (show ObjOk X.prog X.w H s.heap a (.ins C dx fs) from I.hok a _ ha)
  obtain ⟨_, _, _, eb, _⟩ := (show ObjOk X.prog X.w H s.heap b (.ins C dy gs) from I.hok b _ hb')
  have W : s.heap.OwnEqNoNe a C f "object" [.type "object"] :=
    ⟨_, of, nm, q, N, bs, hdct, sn, sub, ab, col, dd, k0, k1, k2, k3, k5, newId, s.heap.nsMap N, yv, ea, rfl, I.kIn _ _ hC, G, ns_has I.kIn G he, I.kIn _ _ ho, hoc, PySem.F.cmp_object.mro, hy, PySem.W.ns_none_of I.kIn G hn⟩
  have hbind : BindsTo s fd ⟨[.ref a, .ref b], []⟩ (ps.zip [.ref a, .ref b]) := hb s [.ref a, .ref b] I.kIn hl
  have run := F.run X.A.in1 X.stack s H ⟨[.ref a, .ref b], []⟩ [.ref a, .ref b] [.ref a, .ref b] _ E (hr.in1) I.env0.in1 hbind (.cons rfl (.cons rfl .nil)) hs
  obtain ⟨hp, g, d, tk, os⟩ := s
  refine compareOp_ne_ownEq PySem.F.cmp_object W eb rfl (by have := hr.units; omega) (wpAny_call (codeAny_mono run fun r s' hq => ?_))
  cases r with
  | error e => exact hx pins σ H _ e s' I hq
  | ok fl =>
    cases fl with
    | ret u =>
      obtain ⟨z, H', I', rz, c, rfl, q⟩ := I.after hq
      cases rz
      exact ⟨c, rfl, .bl (!c), H', I', rfl, q⟩
    | next => exact False.elim hq
    | brk => exact False.elim hq
    | cont => exact False.elim hq
end
end Go

set_option Elab.async false
set_option linter.all false
set_option maxRecDepth 100000
set_option maxHeartbeats 4000000
/-! forests as data: rows, their text, what is a forest -/
namespace Gf
open PySem PySem.Spec PyProof.Rows L2 TL Gn Gr Gk
abbrev FRow := Str × Option Str
def parV : Option Str → V
  | none => .non
  | some m => .str m
def kvOf (r : FRow) : Key × V := (Sum.inr r.1, parV r.2)
def wordsOf : FRow → List Str
  | (n, none) => ["account", n]
  | (n, some m) => ["account", n, "in", m]
def lineOf (r : FRow) : Str := Txt.join " " (wordsOf r)
def textOf (rs : List FRow) : Str := Txt.join "\n" (rs.map lineOf ++ [Str.empty])
def fNames (rs : List FRow) : List Str := rs.map (·.1)
/-- the row may stand behind these names -/
def RowOk (E : List Str) (r : FRow) : Prop := nameOk r.1 = true ∧ r.1 ∉ E ∧ ∀ m, r.2 = some m → m ∈ E
def GoodF : List Str → List FRow → Prop
  | _, [] => True
  | E, r :: rs => RowOk E r ∧ GoodF (E ++ [r.1]) rs
theorem good_at : ∀ {rs : List FRow} {E : List Str} {i : Nat} {r : FRow}, GoodF E rs → rs[i]? = some r → RowOk (E ++ fNames (rs.take i)) r
  | [], _, _, _, _, h => by simp at h
  | x :: rs, E, 0, r, g, h => by
    simp only [List.getElem?_cons_zero, Option.some.injEq] at h
    subst h
    simpa [fNames] using g.1
  | x :: rs, E, i + 1, r, g, h => by
    have q := good_at g.2 (show rs[i]? = some r by simpa using h)
    simpa [fNames, List.append_assoc] using q
theorem good_snoc : ∀ {rs : List FRow} {E : List Str} {r : FRow}, GoodF E rs → RowOk (E ++ fNames rs) r → GoodF E (rs ++ [r])
  | [], E, r, g, h => ⟨by simpa [fNames] using h, trivial⟩
  | x :: rs, E, r, g, h => ⟨g.1, good_snoc g.2 (by simpa [fNames, List.append_assoc] using h)⟩
theorem names_take (rs : List FRow) (i : Nat) : fNames (rs.take i) = (fNames rs).take i := by unfold fNames; rw [List.map_take]
theorem good_mem {rs : List FRow} (g : GoodF [] rs) {r : FRow} (h : r ∈ rs) : nameOk r.1 = true ∧ ∀ m, r.2 = some m → m ∈ fNames rs ∧ nameOk m = true := by
  obtain ⟨i, hi⟩ := List.mem_iff_getElem?.mp h
  have q := good_at g hi
  rw [List.nil_append] at q
  have nm : ∀ m, m ∈ fNames rs → nameOk m = true := by
    intro m hm
    obtain ⟨z, hz, rfl⟩ := List.mem_map.mp hm
    obtain ⟨j, hj⟩ := List.mem_iff_getElem?.mp hz
    exact (good_at g hj).1
  refine ⟨q.1, fun m hm => ?_⟩
  have z := q.2.2 m hm
  rw [names_take] at z
  have z2 := List.mem_of_mem_take z
  exact ⟨z2, nm m z2⟩
theorem good_nodup : ∀ {rs : List FRow} {E : List Str}, GoodF E rs → (fNames rs).Nodup ∧ ∀ n ∈ fNames rs, n ∉ E
  | [], _, _ => by simp [fNames]
  | x :: rs, E, g => by
    obtain ⟨a, b⟩ := good_nodup g.2
    constructor
    · show (x.1 :: fNames rs).Nodup
      refine List.nodup_cons.mpr ⟨fun h => ?_, a⟩
      exact b _ h (by simp)
    · intro n hn
      rcases List.mem_cons.mp (show n ∈ x.1 :: fNames rs from hn) with rfl | h
      · exact g.1.2.1
      · exact fun z => b n h (by simp [z])
/-! names -/
theorem name_len {x : Str} (h : nameOk x = true) : 1 ≤ x.length ∧ x.length ≤ 8 := by
  unfold nameOk at h
  simp only [Bool.and_eq_true, decide_eq_true_eq] at h
  exact ⟨h.1, h.2.1⟩
theorem letters_lo : ∀ c ∈ letters.cps.toList, 96 < c ∧ c < 123 := by decide +kernel
theorem name_cps {x : Str} (h : nameOk x = true) : ∀ c ∈ x.cps.toList, 96 < c ∧ c < 123 := by
  unfold nameOk at h
  simp only [Bool.and_eq_true, decide_eq_true_eq] at h
  intro c hc
  have := List.all_eq_true.mp h.2.2 c hc
  exact letters_lo c (by simpa [isL] using this)
theorem name_asc {x : Str} (h : nameOk x = true) : Asc 8 x := ⟨(name_len h).2, fun c hc => by have := name_cps h c hc; omega⟩
theorem name_asc19 {x : Str} (h : nameOk x = true) : Asc 19 x := (name_asc h).mono (by decide)
/-! lines and texts -/
theorem tl_def (x : Str) : tl x = x.cps.toList := rfl
theorem sp_tl : tl (" " : Str) = [32] := by decide +kernel
theorem nl_tl : tl ("\n" : Str) = [10] := by decide +kernel
theorem e_tl : tl Str.empty = [] := rfl
theorem e_eq : (("" : String) : Str) = Str.empty := ext_tl (by decide +kernel)
theorem acc_tl : tl ("account" : Str) = [97, 99, 99, 111, 117, 110, 116] := by decide +kernel
theorem in_tl : tl ("in" : Str) = [105, 110] := by decide +kernel
theorem accs_tl : tl ("account " : Str) = [97, 99, 99, 111, 117, 110, 116, 32] := by decide +kernel
theorem ins_tl : tl (" in " : Str) = [32, 105, 110, 32] := by decide +kernel
def lineL : FRow → List Nat
  | (n, none) => tl ("account " : Str) ++ tl n
  | (n, some m) => tl ("account " : Str) ++ (tl n ++ (tl (" in " : Str) ++ tl m))
theorem tl_line (r : FRow) : tl (lineOf r) = lineL r := by
  obtain ⟨n, q⟩ := r
  unfold lineOf
  rw [join_eq, tl_join, sp_tl]
  cases q with
  | none =>
    show tl ("account" : Str) ++ ([32] ++ tl n) = tl ("account " : Str) ++ tl n
    rw [acc_tl, accs_tl]
    rfl
  | some m =>
    show tl ("account" : Str) ++ ([32] ++ (tl n ++ ([32] ++ (tl ("in" : Str) ++ ([32] ++ tl m))))) = tl ("account " : Str) ++ (tl n ++ (tl (" in " : Str) ++ tl m))
    rw [acc_tl, accs_tl, in_tl, ins_tl]
    rfl
theorem joinL_end (S : List Nat) : ∀ ls : List (List Nat), joinL S (ls ++ [[]]) = (ls.map (· ++ S)).flatten
  | [] => rfl
  | [p] => by
    show p ++ (S ++ []) = _
    simp
  | p :: q :: r => by
    have e := joinL_end S (q :: r)
    show p ++ (S ++ joinL S (q :: r ++ [[]])) = _
    rw [e]
    simp
theorem tl_text (rs : List FRow) : tl (textOf rs) = (rs.map fun r => lineL r ++ [10]).flatten := by
  unfold textOf
  rw [join_eq, tl_join, nl_tl, List.map_append, List.map_map]
  show joinL [10] (List.map (tl ∘ lineOf) rs ++ [[]]) = _
  rw [joinL_end, List.map_map]
  congr 1
  refine List.map_congr_left fun r _ => ?_
  show tl (lineOf r) ++ [10] = _
  rw [tl_line]
theorem text_nil : textOf [] = Str.empty := ext_tl (by rw [tl_text]; rfl)
theorem text_snoc (rs : List FRow) (r : FRow) : textOf (rs ++ [r]) = textOf rs ++ (⟨(lineL r ++ [10]).toArray⟩ : Str) := by
  refine ext_tl ?_
  rw [tl_append, tl_text, tl_text, tl_mk]
  simp
theorem word_ns {r : FRow} (h1 : nameOk r.1 = true) (h2 : ∀ m, r.2 = some m → nameOk m = true) : ∀ p ∈ wordsOf r, 32 ∉ tl p ∧ 10 ∉ tl p := by
  obtain ⟨n, q⟩ := r
  have nn : ∀ {x : Str}, nameOk x = true → 32 ∉ tl x ∧ 10 ∉ tl x := fun {x} h => ⟨fun z => by have := name_cps h _ z; omega, fun z => by have := name_cps h _ z; omega⟩
  have ha : 32 ∉ tl ("account" : Str) ∧ 10 ∉ tl ("account" : Str) := by rw [acc_tl]; decide
  have hi : 32 ∉ tl ("in" : Str) ∧ 10 ∉ tl ("in" : Str) := by rw [in_tl]; decide
  cases q with
  | none =>
    intro p hp
    simp only [wordsOf, List.mem_cons, List.not_mem_nil, or_false] at hp
    rcases hp with rfl | rfl
    · exact ha
    · exact nn h1
  | some m =>
    intro p hp
    simp only [wordsOf, List.mem_cons, List.not_mem_nil, or_false] at hp
    rcases hp with rfl | rfl | rfl | rfl
    · exact ha
    · exact nn h1
    · exact hi
    · exact nn (h2 _ rfl)
theorem wordsOf_ne (r : FRow) : wordsOf r ≠ [] := by
  obtain ⟨n, q⟩ := r
  cases q <;> simp [wordsOf]
theorem split_line {r : FRow} (h1 : nameOk r.1 = true) (h2 : ∀ m, r.2 = some m → nameOk m = true) : Txt.split (lineOf r) " " = wordsOf r :=
  split_join sp_tl (by decide +kernel) (wordsOf_ne r) fun p hp => (word_ns h1 h2 p hp).1
theorem line_nn {r : FRow} (h1 : nameOk r.1 = true) (h2 : ∀ m, r.2 = some m → nameOk m = true) : 10 ∉ tl (lineOf r) := by
  obtain ⟨n, q⟩ := r
  rw [tl_line]
  have w := word_ns h1 h2
  have a1 : 10 ∉ tl ("account " : Str) := by rw [accs_tl]; decide
  have a2 : 10 ∉ tl (" in " : Str) := by rw [ins_tl]; decide
  cases q with
  | none =>
    have wn := (w n (by simp [wordsOf])).2
    intro z
    rcases List.mem_append.mp (show 10 ∈ tl ("account " : Str) ++ tl n from z) with z | z
    · exact a1 z
    · exact wn z
  | some m =>
    have wn := (w n (by simp [wordsOf])).2
    have wm := (w m (by simp [wordsOf])).2
    intro z
    rcases List.mem_append.mp (show 10 ∈ tl ("account " : Str) ++ (tl n ++ (tl (" in " : Str) ++ tl m)) from z) with z | z
    · exact a1 z
    rcases List.mem_append.mp z with z | z
    · exact wn z
    rcases List.mem_append.mp z with z | z
    · exact a2 z
    · exact wm z
theorem split_text {rs : List FRow} (g : GoodF [] rs) : Txt.split (textOf rs) "\n" = rs.map lineOf ++ [Str.empty] := by
  refine split_join nl_tl (by decide +kernel) (by simp) fun p hp => ?_
  rcases List.mem_append.mp hp with h | h
  · obtain ⟨r, hr, rfl⟩ := List.mem_map.mp h
    obtain ⟨a, b⟩ := good_mem g hr
    exact line_nn a fun m hm => (b m hm).2
  · rw [List.mem_singleton.mp h]
    exact List.not_mem_nil
theorem line_len {r : FRow} (h1 : nameOk r.1 = true) (h2 : ∀ m, r.2 = some m → nameOk m = true) : (lineOf r).length ≤ 30 := by
  obtain ⟨n, q⟩ := r
  have l1 := (name_len h1).2
  have e : (lineOf (n, q)).length = (lineL (n, q)).length := by rw [← tl_line, tl_def, len_cps]
  rw [e]
  have ln : (tl n).length = n.length := len_cps n
  have la : (tl ("account " : Str)).length = 8 := by rw [accs_tl]; rfl
  have li : (tl (" in " : Str)).length = 4 := by rw [ins_tl]; rfl
  have l1 : n.length ≤ 8 := l1
  cases q with
  | none =>
    show (tl ("account " : Str) ++ tl n).length ≤ 30
    rw [List.length_append]
    omega
  | some m =>
    have l2 := (name_len (h2 m rfl)).2
    have lm : (tl m).length = m.length := len_cps m
    show (tl ("account " : Str) ++ (tl n ++ (tl (" in " : Str) ++ tl m))).length ≤ 30
    simp only [List.length_append]
    omega
/-- what a line of these words says -/
def readRow : List Str → Option FRow
  | [a, n] => if a = ("account" : Str) then some (n, none) else none
  | [a, n, i, m] => if a = ("account" : Str) ∧ i = ("in" : Str) then some (n, some m) else none
  | _ => none
theorem read_words (r : FRow) : readRow (wordsOf r) = some r := by
  obtain ⟨n, q⟩ := r
  cases q <;> simp [wordsOf, readRow]
/-- one text, one list of rows -/
theorem text_inj {rs rs' : List FRow} (g : GoodF [] rs) (g' : GoodF [] rs') (h : textOf rs = textOf rs') : rs = rs' := by
  have e := split_text g
  rw [h, split_text g'] at e
  have e2 : rs'.map lineOf = rs.map lineOf := List.append_cancel_right e
  have key : ∀ {rs : List FRow}, (∀ r ∈ rs, nameOk r.1 = true ∧ ∀ m, r.2 = some m → nameOk m = true) → (rs.map lineOf).map (fun l => readRow (Txt.split l " ")) = rs.map some := by
    intro rs hg
    rw [List.map_map]
    refine List.map_congr_left fun r hr => ?_
    obtain ⟨a, b⟩ := hg r hr
    show readRow (Txt.split (lineOf r) " ") = some r
    rw [split_line a b, read_words]
  have gg : ∀ {rs : List FRow}, GoodF [] rs → ∀ r ∈ rs, nameOk r.1 = true ∧ ∀ m, r.2 = some m → nameOk m = true := fun g r hr => ⟨(good_mem g hr).1, fun m hm => ((good_mem g hr).2 m hm).2⟩
  have k1 := key (gg g)
  have k2 := key (gg g')
  rw [e2, k1] at k2
  exact List.map_inj_right (fun _ _ e => Option.some.inj e) |>.mp k2
end Gf

set_option Elab.async false
set_option linter.all false
set_option maxRecDepth 100000
set_option maxHeartbeats 4000000
/-! tuple(dict), .. -/
namespace Gt
open PySem PySem.Spec PyProof.Rows L2 Gn Gr Gk Go
section
variable {prog : Program} {w : World} {A : Around} {E : Value → Shared → Prop} {s : Shared} {T : String} {r d : Addr} {n : Nat} {P : Nat → Value → Prop} {OK : Heap → Prop}
theorem collect_kdl {Q : List Value → Shared → Prop} (K : PySem.W.KdlSrc prog w T r d n P OK) (hh : A.handled = none) (hok : OK s.heap) (hn : n ≤ sizeLine)
    (hQ : ∀ (h' : Heap) (tk : Nat) (acc : Array Value), (∀ b o, s.heap.get? b = some o → h'.get? b = some o) → ItemsOf P acc n → Q acc.toList { s with heap := h', toks := tk }) :
    wpAny (model prog w) A (collect (.ref r)) Q E s := by
  unfold collect
  refine wpAny_bind (wpAny_runValue (codeAny_builtin F.entry_proto_collect ?_))
  rw [Around.under_plainId F.plain_proto_collect _]
  show wpAny _ A.in1 (newList [] >>= fun l => again (.builtin "list.__iadd__" ⟨[l, .ref r], []⟩)) _ _ s
  refine wpAny_bind (wpAny_newObj_type ?_)
  refine wpAny_pure ⟨plainId_quiet F.plain_list_iadd _, codeAny_builtin F.entry_list_iadd ?_⟩
  rw [Around.under_plainId F.plain_list_iadd _]
  show wpAny _ A.in1 (Builtin.List.listExtendWith (.ref s.heap.objs.size) (.ref r) (.ref s.heap.objs.size)) _ _ _
  have hS : (s.heap.push { cls := .type "list", data := .seq ([] : List Value).toArray }).get? s.heap.objs.size = some { cls := .type "list", data := .seq #[] 0 } := Heap.get?_push_size _ rfl
  have hlt := K.there _ hok
  refine wpAny_mono (PySem.W.kdl_extend (A := A) (R := fun rr s' => rr = .ok (.ret (.ref s.heap.objs.size)) ∧ ∃ (h' : Heap) (tk : Nat) (acc : Array Value) (c' : Nat), s' = { s with heap := h', toks := tk } ∧
      (∀ b o, s.heap.get? b = some o → h'.get? b = some o) ∧ h'.get? s.heap.objs.size = some { cls := .type "list", dict := none, data := .seq acc c', slots := #[] } ∧ ItemsOf P acc n)
    (s := { s with heap := s.heap.push { cls := .type "list", data := .seq ([] : List Value).toArray } }) K hh (K.keep _ _ hok fun b _ o e => Heap.get?_push_of_some _ e) s.heap.objs.size (Nat.ne_of_gt hlt.1) (Nat.ne_of_gt hlt.2) _ 0 hS
    (fun h' tk acc c' hk e hi => ⟨rfl, h', tk, acc, c', rfl, fun b o q => hk b o (Nat.ne_of_lt (Heap.lt_size q)) (Heap.get?_push_of_some _ q), e, hi⟩) hn) (fun fin s' h => ?_) (fun e s' h => ?_)
  · cases fin with
    | done f =>
      obtain ⟨e, h', tk, acc, c', rfl, hk, hS', hi⟩ := h
      cases e
      show wpAny _ A (load s.heap.objs.size >>= _) _ _ _
      exact wpAny_bind (wpAny_load hS' (wpAny_pure (hQ h' tk acc hk hi)))
    | again c' =>
      refine ⟨h.1, codeAny_mono h.2 fun rr s'' hr' => ?_⟩
      obtain ⟨rfl, h', tk, acc, c', rfl, hk, hS', hi⟩ := hr'
      show wpAny _ A (load s.heap.objs.size >>= _) _ _ _
      exact wpAny_bind (wpAny_load hS' (wpAny_pure (hQ h' tk acc hk hi)))
  · exact absurd h.1 (by simp)
theorem code_tuple_new_dict {Q₁ : Value → Shared → Prop} (K : PySem.W.KdlSrc prog w "dict" r d n P OK) (hh : A.handled = none) (hok : OK s.heap) (hn : n ≤ sizeLine)
    (h : ∀ (h' : Heap) (tk : Nat) (acc : Array Value), (∀ b o, s.heap.get? b = some o → h'.get? b = some o) → ItemsOf P acc n →
      Q₁ (.ref h'.objs.size) { s with heap := h'.push { cls := .type "tuple", data := .seq acc }, toks := tk }) :
    codeAny (model prog w) A (.call (.builtin "tuple.__new__") ⟨[.type "tuple", .ref r], []⟩) (wants Q₁ E) s := by
  refine codeAny_of_tree ?_
  show wpAny _ A.in1 (do checkBuiltinCall "tuple.__new__" ⟨[.type "tuple", .ref r], []⟩; again (.builtin "tuple.__new__" ⟨[.type "tuple", .ref r], []⟩)) _ _ s
  refine wpAny_bind (wpAny_of_eq (F.newCall_tuple_1 _) (wpAny_pure ⟨plainId_quiet F.plain_tuple_new _, codeAny_builtin F.entry_tuple_new ?_⟩))
  rw [Around.under_plainId F.plain_tuple_new _]
  have hsub := sub_tuple_self
  have hinit := init_tuple_lookup
  have hmh := madeHere_tuple
  have hTI : s.TypeIs (.ref r) "dict" := K.type _ hok
  have hh1 : A.in1.handled = none := hh
  wp_walk using wpAny_typeOf hTI, collect_kdl (A := A.in1) K hh1 hok hn
  intro h' tk acc hk hacc
  show wpAny _ _ (Builtin.Tuple.tupleExact acc.toList.toArray >>= fun v => ret v) _ _ _
  unfold Builtin.Tuple.tupleExact
  refine wpAny_bind (wpAny_newObj_type ?_ (by show acc.toList.toArray.size ≤ sizeLine; simp only [Array.toArray_toList]; rw [hacc.1]; exact hn))
  refine wpAny_pure ?_
  have e : acc.toList.toArray = acc := by simp
  rw [e]
  exact h h' tk acc hk hacc
theorem call_tuple_dict {Q : Value → Shared → Prop} (K : PySem.W.KdlSrc prog w "dict" r d n P OK) (hh : A.handled = none) (hok : OK s.heap) (hn : n ≤ sizeLine)
    (hQ : ∀ (h' : Heap) (tk : Nat) (acc : Array Value), (∀ b o, s.heap.get? b = some o → h'.get? b = some o) → ItemsOf P acc n →
      Q (.ref h'.objs.size) { s with heap := h'.push { cls := .type "tuple", data := .seq acc }, toks := tk }) :
    wpAny (model prog w) A (call (.type "tuple") [.ref r]) Q E s := by
  refine callType_codes (Q₁ := fun obj s₁ => s₁.TypeIs obj "tuple" ∧ Q obj s₁) F.called_tuple (F.typeCall_tuple_1 _) F.entry_object_init
    (code_tuple_new_dict (A := A.in1) K hh hok hn fun h' tk acc hk hacc => ⟨⟨_, Heap.get?_push_size _ rfl, rfl⟩, hQ h' tk acc hk hacc⟩) fun obj s₁ h₁ => ?_
  exact ⟨h₁.1, F.args_object_init_2 obj _, object_init_meets F.called_tuple.init.lookup F.called_tuple.made (by decide) prog w A.in1 _ s₁ ⟨h₁.1, rfl, h₁.2⟩⟩
end
/-- tuple(dict): a new tuple of its keys -/
def rTupD : List V → Hp → VK → Prop := fun xs H Q => ∃ p kvs, xs = [.ref p] ∧ H p = some (.dK kvs) ∧ ∀ q, H q = none → Q (.ref q) (upd H q (.tup (kvs.map fun kv => kV kv.1)))
theorem call_tuple_dK {X : Cx} (hc : X.calm = true) : CallR X (.type "tuple") rTupD := by
  intro pins s σ H xs us Q I r h
  obtain ⟨p, kvs, e, hk, q⟩ := h
  subst e
  obtain ⟨u, eu, rx⟩ := vals1 r
  subst eu
  obtain rfl : u = Value.ref p := rx
  obtain ⟨z, lo, vs, rk, hd⟩ := (show ObjOk X.prog X.w H s.heap p (.dK kvs) from I.hok p _ hk)
  obtain ⟨ep, hat⟩ := hd.dictAt
  have hl : kvs.length = vs.length := Paired.length rk
  refine call_tuple_dict (PySem.W.kdl_dict (knd := mixKind X.prog X.w) (kvs := vs) (ep := ep) lo) (I.ok.hd hc) hat (by rw [← hl]; exact z) fun h' tk acc hkeep hacc => ?_
  have I1 : Inv X pins σ H { s with heap := h' } := I.kept (t' := s.toks) hkeep
  have rr : Vals (kvs.map fun kv => kV kv.1) acc.toList := by
    have el : acc.toList.length = acc.size := by simp
    refine vals_of_at (by rw [List.length_map, el, hacc.1, hl]) fun j x w h1 h2 => ?_
    obtain ⟨k, y, hky, hi⟩ := hacc.2 j w (by rw [← Array.getElem?_toList]; exact h2)
    have e1 : (kvs.map (·.1))[j]? = some k := by
      rw [KV.keys rk, List.getElem?_map, hky] <;> rfl
    have e2 : (kvs.map fun kv => kV kv.1)[j]? = some (kV k) := by
      have e3 : (kvs.map fun kv => kV kv.1) = (kvs.map (·.1)).map kV := by rw [List.map_map] <;> rfl
      rw [e3, List.getElem?_map, e1] <;> rfl
    rw [e2] at h1
    cases h1
    exact keyIs_rel hi
  have I2 : Inv X pins σ (upd H h'.objs.size (.tup (kvs.map fun kv => kV kv.1))) { s with heap := h'.push { cls := .type "tuple", data := .seq acc }, toks := tk } :=
    I1.laid (t' := tk) (fun b o e => Heap.get?_push_of_some _ e) (Nat.le_refl _) (show ObjOk X.prog X.w _ _ _ (.tup (kvs.map fun kv => kV kv.1)) from ⟨by rw [List.length_map]; exact z, acc.toList, rr, by
      have := IsTup.new h' acc
      simpa using this⟩)
  exact ⟨.ref h'.objs.size, _, I2, rfl, q _ (I1.hok.fresh (Nat.le_refl _))⟩
/-- {k: v for ..} over a walk -/
theorem dc_it {J : It} {n : Nat} {G : Hp → Prop} {Y : Nat → Hp → V → Hp → Prop} (w : Walk J n G Y) {g : TG} {tt : TT} {tk tv : TE} {vs : List Nat} {σ : L2.St} {H1 : Hp} {D : Addr} {Qd : Hp → Prop} (Pv : Nat → Hp → Prop) (h0 : Pv 0 (upd H1 D (.dK []))) (hG : ∀ i H, i ≤ n → Pv i H → G H)
    (hs : ∀ i x H H', i < n → Pv i H → Y i H x H' → g x (wipe σ vs) H' fun σ2 H2 => wipe σ2 vs = wipe σ vs ∧ tt σ2 H2 fun b H3 =>
      if b = true then tk σ2 H3 fun y H4 => tv σ2 H4 fun z H5 => ∃ kvs k, y = kV k ∧ H5 D = some (.dK kvs) ∧ kvs.length < sizeLine ∧ Pv (i + 1) (upd H5 D (.dK (putK kvs k z))) else Pv (i + 1) H3) (hd : ∀ H, Pv n H → Qd H) :
    ∃ W : Nat → Nat → Hp → Prop, (∃ m, W 0 m (upd H1 D (.dK []))) ∧ ∀ i m H, W i m H →
      (J.stop i H ∧ Qd H) ∨ (J.go i H ∧ ∃ Nx : Hp → Prop, (∀ H', Nx H' → ∃ m', m' < m ∧ W (i + 1) m' H') ∧ ∀ x H', J.yld i H x H' → g x (wipe σ vs) H' fun σ2 H2 => wipe σ2 vs = wipe σ vs ∧ tt σ2 H2 fun b H3 =>
        if b = true then tk σ2 H3 fun y H4 => tv σ2 H4 fun z H5 => ∃ kvs k, y = kV k ∧ H5 D = some (.dK kvs) ∧ kvs.length < sizeLine ∧ Nx (upd H5 D (.dK (putK kvs k z))) else Nx H3) := by
  refine ⟨fun i m H => m = n - i ∧ i ≤ n ∧ Pv i H, ⟨n, by simp, Nat.zero_le _, h0⟩, ?_⟩
  rintro i m H ⟨rfl, hi, p⟩
  have q := hG i H hi p
  by_cases hlt : i < n
  · exact .inr ⟨w.goes i H hlt q, Pv (i + 1), fun H' p' => ⟨n - (i + 1), by omega, rfl, hlt, p'⟩, fun x H' y => hs i x H H' hlt p (w.yields i H x H' hlt q y)⟩
  · have e : i = n := by omega
    subst e
    exact .inl ⟨w.stops H q, hd H p⟩
end Gt

set_option Elab.async false
set_option linter.all false
set_option maxRecDepth 100000
set_option maxHeartbeats 4000000
/-! names and words, for any law -/
namespace Lw
open L2 hiding Ext
open PySem PySem.Spec PyProof.Rows Gn Gr Gk Go Gt Gf
theorem iteS {c A B : Prop} [Decidable c] (hc : c) (h : A) : if decide c = true then A else B := by
  rw [if_pos (decide_eq_true hc)]
  exact h
theorem iteN {c A B : Prop} [Decidable c] (hc : ¬ c) (h : B) : if decide c = true then A else B := by
  rw [if_neg (by rw [decide_eq_false hc]; exact Bool.false_ne_true)]
  exact h
theorem take_succ_map {α β : Type} {l : List α} {i : Nat} {c : α} (f : α → β) (h : l[i]? = some c) : (l.take (i + 1)).map f = (l.take i).map f ++ [f c] := by
  rw [List.take_add_one, h, List.map_append]
  rfl
theorem cps_at {z : Str} {i : Nat} {c : Nat} (h : z.cps[i]? = some c) : z.cps.toList[i]? = some c := by simpa using h
theorem cps_len (z : Str) : z.cps.toList.length = z.cps.size := by simp
theorem strs_flat (E : List Str) : (E.map V.str).all flatV = true := by
  rw [List.all_map]
  exact List.all_eq_true.mpr fun _ _ => rfl
theorem inV_strs (x : Str) (E : List Str) : inV (.str x) (E.map V.str) = decide (x ∈ E) := by
  unfold inV
  rw [List.any_map]
  induction E with
  | nil => simp
  | cons y r ih =>
    rw [List.any_cons, ih]
    show ((y == x) || _) = _
    by_cases e : y = x
    · subst e; simp
    · have e' : ¬ x = y := fun z => e z.symm
      simp [e, e']
theorem strlen (a b : Str) : (a ++ b).length = a.length + b.length := strLen_append a b
theorem sum_le {α : Type} (f : α → Nat) {b : Nat} : ∀ l : List α, (∀ x ∈ l, f x ≤ b) → (l.map f).sum ≤ l.length * b
  | [], _ => by simp
  | x :: r, h => by
    have h1 := h x (List.mem_cons_self ..)
    have h2 := sum_le f r fun y hy => h y (List.mem_cons_of_mem _ hy)
    rw [List.map_cons, List.sum_cons, List.length_cons, Nat.succ_mul]
    omega
/-! ### names -/
def lettersOnly (x : Str) : Prop := ∀ c ∈ x.cps.toList, c ∈ letters.cps.toList
theorem nameOk_of {x : Str} (h1 : 1 ≤ x.length) (h2 : x.length ≤ 8) (h : lettersOnly x) : nameOk x = true := by
  unfold nameOk
  rw [decide_eq_true h1, decide_eq_true h2, Bool.true_and, Bool.true_and]
  exact List.all_eq_true.mpr fun c hc => by simpa [isL] using h c hc
theorem lo_of {x : Str} (h : nameOk x = true) : lettersOnly x := by
  unfold nameOk at h
  simp only [Bool.and_eq_true, decide_eq_true_eq] at h
  intro c hc
  simpa [isL] using List.all_eq_true.mp h.2.2 c hc
theorem lo_app {x y : Str} (h : lettersOnly x) (k : lettersOnly y) : lettersOnly (x ++ y) := by
  intro c hc
  rw [cps_app] at hc
  exact (List.mem_append.mp hc).elim (h c) (k c)
theorem lo_cut {x : Str} (h : lettersOnly x) (lo hi : Option Int) : lettersOnly (cutS x lo hi) := by
  intro c hc
  unfold cutS at hc
  exact h c (List.mem_of_mem_drop (List.mem_of_mem_take (by simpa using hc)))
theorem cut6 (x : Str) : (cutS x none (some 6)).length ≤ 6 := by
  rw [← len_cps]
  unfold cutS
  show (List.take _ _).toArray.toList.length ≤ 6
  rw [List.toList_toArray, List.length_take]
  have : HT.sIx x.length x.length (some ((6 : Nat) : Int)) = min 6 x.length := HT.sIx_nat _ _ _
  have this : HT.sIx x.length x.length (some 6) = min 6 x.length := this
  rw [this]
  omega
theorem z_len : ("z" : Str).length = 1 := by decide +kernel
theorem z_lo : lettersOnly ("z" : Str) := by unfold lettersOnly; decide +kernel
def cand (x : Str) (c : Nat) : Str := cutS x none (some 6) ++ "z" ++ oneS' c
  where oneS' (c : Nat) : Str := ⟨#[c]⟩
theorem one_len (c : Nat) : (cand.oneS' c).length = 1 := rfl
theorem one_lo {c : Nat} (h : c ∈ letters.cps.toList) : lettersOnly (cand.oneS' c) := by
  intro b hb
  have : b = c := by simpa [cand.oneS'] using hb
  rw [this]
  exact h
theorem cand_ok {x : Str} (h : lettersOnly x) {c : Nat} (hc : c ∈ letters.cps.toList) : nameOk (cand x c) = true := by
  have h6 := cut6 x
  refine nameOk_of ?_ ?_ (lo_app (lo_app (lo_cut h _ _) z_lo) (one_lo hc))
  · unfold cand
    rw [strlen, strlen, z_len, one_len]
    omega
  · unfold cand
    rw [strlen, strlen, z_len, one_len]
    omega
theorem cand_inj {x : Str} {c c' : Nat} (h : cand x c = cand x c') : c = c' := by
  have e : (cand x c).cps.toList = (cand x c').cps.toList := by rw [h]
  unfold cand at e
  rw [cps_app, cps_app, cps_app, cps_app] at e
  have e2 := List.append_cancel_left e
  simpa [cand.oneS'] using e2
def cands (x : Str) : List Str := letters.cps.toList.map (cand x)
theorem nodup_map {α β : Type} {f : α → β} (hf : ∀ a b, f a = f b → a = b) : ∀ {l : List α}, l.Nodup → (l.map f).Nodup
  | [], _ => by simp
  | a :: r, h => by
    obtain ⟨h1, h2⟩ := List.nodup_cons.mp h
    refine List.nodup_cons.mpr ⟨fun z => ?_, nodup_map hf h2⟩
    obtain ⟨b, hb, e⟩ := List.mem_map.mp z
    exact h1 (hf _ _ e ▸ hb)
theorem cands_nodup (x : Str) : (cands x).Nodup := nodup_map (fun _ _ h => cand_inj h) (by decide +kernel)
theorem cands_len (x : Str) : (cands x).length = 26 := by
  unfold cands
  rw [List.length_map]
  decide +kernel
theorem pigeon : ∀ {ws fs : List Str}, ws.Nodup → (∀ x ∈ ws, x ∈ fs) → ws.length ≤ fs.length
  | [], _, _, _ => Nat.zero_le _
  | x :: ws, fs, hn, hs => by
    obtain ⟨n1, n2⟩ := List.nodup_cons.mp hn
    have hx := hs x (List.mem_cons_self ..)
    have q := pigeon (fs := fs.erase x) n2 fun y hy => (List.mem_erase_of_ne (fun e => n1 (by rw [← e]; exact hy))).mpr (hs y (List.mem_cons_of_mem _ hy))
    have := List.length_erase_of_mem hx
    have := List.length_pos_of_mem hx
    rw [List.length_cons]
    omega
theorem fresh_cand (x : Str) {fs : List Str} (h : fs.length ≤ 8) : ∃ w r, (cands x).filter (fun y => !decide (y ∈ fs)) = w :: r ∧ w ∈ cands x ∧ w ∉ fs := by
  cases e : (cands x).filter (fun y => !decide (y ∈ fs)) with
  | nil =>
    exfalso
    have := pigeon (cands_nodup x) (fs := fs) fun y hy => by
      by_cases m : y ∈ fs
      · exact m
      · have : y ∈ (cands x).filter (fun y => !decide (y ∈ fs)) := List.mem_filter.mpr ⟨hy, by simp [m]⟩
        rw [e] at this
        cases this
    rw [cands_len] at this
    omega
  | cons w r =>
    have hw : w ∈ (cands x).filter (fun y => !decide (y ∈ fs)) := by rw [e]; exact List.mem_cons_self ..
    obtain ⟨a, b⟩ := List.mem_filter.mp hw
    exact ⟨w, r, rfl, a, by simpa using b⟩
theorem join_len (ys : List Str) : (Txt.join Str.empty ys).cps.toList = (ys.map fun y => y.cps.toList).flatten := by
  show TL.tl _ = _
  rw [TL.join_eq, TL.tl_join, e_tl]
  have : ∀ ls : List (List Nat), TL.joinL [] ls = ls.flatten := by
    intro ls
    induction ls with
    | nil => rfl
    | cons p r ih =>
      cases r with
      | nil => show p = _; simp
      | cons q r =>
        show p ++ ([] ++ TL.joinL [] (q :: r)) = _
        rw [ih]
        simp
  rw [this]
theorem join_signs (cs : List Nat) : (Txt.join Str.empty (cs.map cand.oneS')).cps.toList = cs := by
  rw [join_len, List.map_map]
  induction cs with
  | nil => rfl
  | cons c r ih =>
    rw [List.map_cons, List.flatten_cons, ih]
    rfl
def ownText : Str := "account in join ask deposit release send lose copy withdraw arrive spent ideal total over"
def owns : List Str := Txt.split ownText " "
theorem owns_ok : ∀ w ∈ owns, nameOk w = true := by decide +kernel
theorem owns_len : owns.length = 15 := by decide +kernel
theorem filter_take {α : Type} {l : List α} {i : Nat} {c : α} (p : α → Bool) (h : l[i]? = some c) : (l.take (i + 1)).filter p = (l.take i).filter p ++ (if p c = true then [c] else []) := by
  rw [List.take_add_one, h, List.filter_append]
  show _ ++ List.filter p [c] = _
  cases e : p c <;> simp [e]
theorem sizes1128 : ∀ x ∈ ([.int 1, .int 1, .int 2, .int 8] : List V), ∃ j : Int, x = .int j ∧ 1 ≤ j ∧ j ≤ 8 := by
  intro x hx
  simp only [List.mem_cons, List.not_mem_nil, or_false] at hx
  rcases hx with rfl | rfl | rfl | rfl <;> exact ⟨_, rfl, by decide, by decide⟩
end Lw

set_option Elab.async false
set_option linter.all false
set_option maxRecDepth 100000
set_option maxHeartbeats 4000000
namespace Lw
open L2 hiding Ext
open PySem PySem.Spec PyProof.Rows Gn Gr Gk Go Gt Gf
section
variable {P : Program} {w : World} {K : PySem.W.Frag} {mg : Str → Option Value} {base : Heap}
/-- the built-in names, and the module's numbers and letters -/
structure Names (mg : Str → Option Value) : Prop where
  isi : mg "isinstance" = none
  str : mg "str" = none
  int : mg "int" = none
  bool : mg "bool" = none
  list : mg "list" = none
  tuple : mg "tuple" = none
  dict : mg "dict" = none
  len : mg "len" = none
  all : mg "all" = none
  enum : mg "enumerate" = none
  range : mg "range" = none
  min : mg "min" = none
  zip : mg "zip" = none
  repr : mg "repr" = none
  letters : ∃ t, mg "LETTERS" = some (.str letters t)
  longest : ∃ t, mg "LONGEST" = some (.int 8 t)
  largest : ∃ t, mg "LARGEST" = some (.int 1000000000 t)
theorem scName : FnScope ["value", "letter"] ["value"] (defScope sName) := ⟨rfl, rfl, rfl, by decide +kernel, rfl, by decide +kernel, by decide +kernel⟩
theorem ok_name {f : Addr} {fd : FuncData} (F : Fun K "is_name" "is_name" sName f fd) (T : Names mg) : FnOk P w K mg base CX0 1 f fd ["value"] spName := by
  refine F.ok scName (fun vs H Q E h => ?_) (fun cdv A outer s H vs Q E hr h => ?_)
  · obtain ⟨v, r, rfl, _⟩ := h
    rfl
  · obtain ⟨v, r, rfl, hv, k⟩ := h
    have hu := hu_of hr
    have nd := scName.nd
    obtain ⟨t1, hL⟩ := T.letters
    obtain ⟨t2, hM⟩ := T.longest
    refine ⟨_, pss_cons (ps_if (pt_not (pt_val (pe_callB call_isi rfl T.isi (by decide +kernel) (pa_cons (pv 0) (pa_cons (pe_bltn (v := .ty "str") rfl T.str (by decide +kernel) rfl) pa_nil))))) (pss_one (ps_ret pe_bl)) pss_nil)
      (pss_cons (ps_if (PW.pt (pw_or (pt_cmpR op_lt (pe_callB call_len_str rfl T.len PySem.boot_len (pa_cons (pv 0) pa_nil)) pe_int (nomark _)) (pw_or1 (pt_cmpR op_gt (pe_callB call_len_str rfl T.len PySem.boot_len (pa_cons (pv 0) pa_nil)) (pe_glob (v := .int 8) rfl hM ⟨_, rfl⟩) (nomark _))))) (pss_one (ps_ret pe_bl)) pss_nil)
      (pss_one (ps_ret (pe_callB (cr_all rfl) rfl T.all (by decide +kernel) (pa_cons (pe_lc (own := [("letter", 1)]) (g := gName 1) (tt := tYes) rfl nd (pi_str (pv 0)) (blkOk_by (N := ["value", "letter"]) (sc := defScope sName) (by decide +kernel))
        (fun _ _ _ _ _ => pg_name (i := 1) nd rfl (.inl rfl)) (fun _ _ _ _ _ => pts_nil) (fun _ _ _ _ _ => pe_cmpR op_in_sign (pv 1) (pe_glob (v := .str letters) rfl hL ⟨_, rfl⟩) rfl)) pa_nil))))), ?_⟩
    rcases hv with ⟨x, rfl, hx, rfl⟩ | ⟨rfl, hv⟩
    · refine ⟨_, rfl, _, _, _, _, true, rfl, .ty _, (TyT.str x).x, kit_ty (by decide +kernel), true, rfl, iteF ?_⟩
      have hx1 := hx.1
      refine ⟨_, rfl, x, rfl, by rw [sizeLine_eq]; omega, _, _, rfl, rfl, _, rfl, ?_⟩
      unfold nameOk at k
      refine ite2 (fun e => ?_) (fun n1 => ?_)
      · refine iteT ?_
        have e : (x.length : Int) < 1 := of_decide_eq_true e
        rw [show decide (1 ≤ x.length) = false from decide_eq_false (by omega), Bool.false_and] at k
        exact k H Ext.refl
      · have n1 : ¬ (x.length : Int) < 1 := of_decide_eq_false (Bool.eq_false_iff.mpr n1)
        rw [show decide (1 ≤ x.length) = true from decide_eq_true (by omega), Bool.true_and] at k
        refine ⟨_, rfl, x, rfl, by rw [sizeLine_eq]; omega, _, _, rfl, rfl, _, rfl, ?_⟩
        refine ite2 (fun e => ?_) (fun n2 => ?_)
        · have e : (8 : Int) < x.length := of_decide_eq_true e
          rw [show decide (x.length ≤ 8) = false from decide_eq_false (by omega), Bool.false_and] at k
          exact k H Ext.refl
        · have n2 : ¬ (8 : Int) < x.length := of_decide_eq_false (Bool.eq_false_iff.mpr n2)
          rw [show decide (x.length ≤ 8) = true from decide_eq_true (by omega), Bool.true_and] at k
          refine ⟨_, rfl, x, rfl, fun D hD => ?_⟩
          refine lc_it walk_str (fun i H' => H' D = some (.lst (((x.cps.toList.take i).map isL).map V.bl)) ∧ Ext H H') ⟨upd_same, Ext.new hD⟩ (fun _ _ _ _ => trivial) ?_ ?_
          · rintro i y H1 H2 hi ⟨hd, he⟩ ⟨rfl, c, hc, rfl⟩
            refine ⟨rfl, yes_of ?_⟩
            refine ⟨_, rfl, c, _, rfl, rfl, _, hd, ?_, ?_, fun a o e => ?_⟩
            · have := len_cps x
              rw [List.length_map, List.length_map, List.length_take]
              exact small1000 (by omega)
            · rw [upd_same, take_succ_map isL (cps_at hc), List.map_append]
              rfl
            · rw [upd_ne (ne_of_none e hD)]
              exact he a o e
          · rintro H1 ⟨hd, he⟩
            refine ⟨D, _, rfl, SqL.of hd, ?_⟩
            rw [← cps_len, List.take_length, List.all_map]
            exact k H1 he
    · rcases hv with h | h | h | h | h | h <;> exact ⟨_, rfl, _, _, _, _, false, rfl, .ty _, h.x, kit_ty (by decide +kernel), false, rfl, iteT (k H Ext.refl)⟩
theorem scInt : FnScope ["value"] ["value"] (defScope sInt) := ⟨rfl, rfl, rfl, by decide +kernel, rfl, by decide +kernel, by decide +kernel⟩
theorem scAmount : FnScope ["value"] ["value"] (defScope sAmount) := ⟨rfl, rfl, rfl, by decide +kernel, rfl, by decide +kernel, by decide +kernel⟩
/-- what is_int tells of a value -/
def IntV (H : Hp) (v : V) (r : Bool) : Prop := (∃ i, v = .int i ∧ r = true) ∨ (r = false ∧ (TyT H v "NoneType" ∨ TyT H v "bool" ∨ TyT H v "str" ∨ TyT H v "list" ∨ TyT H v "tuple" ∨ TyT H v "dict"))
def spInt : Sp := fun vs H Q _ => ∃ v r, vs = [v] ∧ IntV H v r ∧ Q (.bl r) H
theorem ok_int {f : Addr} {fd : FuncData} (F : Fun K "is_int" "is_int" sInt f fd) (T : Names mg) : FnOk P w K mg base CX0 1 f fd ["value"] spInt := by
  refine F.ok scInt (fun vs H Q E h => ?_) (fun cdv A outer s H vs Q E hr h => ?_)
  · obtain ⟨v, r, rfl, _⟩ := h
    rfl
  · obtain ⟨v, r, rfl, hv, k⟩ := h
    refine ⟨_, pss_one (ps_ret (pe_and (pe_callB call_isi rfl T.isi (by decide +kernel) (pa_cons (pv 0) (pa_cons (pe_bltn (v := .ty "int") rfl T.int (by decide +kernel) rfl) pa_nil))) (pe_one (pe_not (pe_callB call_isi rfl T.isi (by decide +kernel) (pa_cons (pv 0) (pa_cons (pe_bltn (v := .ty "bool") rfl T.bool (by decide +kernel) rfl) pa_nil))))))), ?_⟩
    rcases hv with ⟨i, rfl, rfl⟩ | ⟨rfl, hv⟩
    · refine ⟨_, rfl, _, _, _, _, true, rfl, .ty _, (TyT.int i).x, kit_ty (by decide +kernel), true, rfl, iteT ?_⟩
      exact ⟨_, rfl, _, _, _, _, false, rfl, .ty _, (TyT.int i).x, kit_ty (by decide +kernel), _, rfl, k⟩
    · rcases hv with h | h | h | h | h | h
      all_goals first
        | exact ⟨_, rfl, _, _, _, _, true, rfl, .ty _, h.x, kit_ty (by decide +kernel), true, rfl, iteT ⟨_, rfl, _, _, _, _, true, rfl, .ty _, h.x, kit_ty (by decide +kernel), _, rfl, k⟩⟩
        | exact ⟨_, rfl, _, _, _, _, false, rfl, .ty _, h.x, kit_ty (by decide +kernel), false, rfl, iteF k⟩
theorem ok_amount {f fI : Addr} {fd fdI : FuncData} (F : Fun K "is_amount" "is_amount" sAmount f fd) (T : Names mg) (GI : FnOk P w K mg base CX0 1 fI fdI ["value"] spInt) (bI : Binds K fdI ["value"] []) (kI : PySem.W.keepIn K (.ref fI) = true) (mI : mg "is_int" = some (.ref fI)) :
    FnOk P w K mg base CX0 2 f fd ["value"] spAmt := by
  refine F.ok scAmount (fun vs H Q E h => ?_) (fun cdv A outer s H vs Q E hr h => ?_)
  · obtain ⟨v, r, rfl, _⟩ := h
    rfl
  · obtain ⟨v, r, rfl, hv, k⟩ := h
    obtain ⟨t3, hG⟩ := T.largest
    refine ⟨_, pss_one (ps_ret (pe_and (pe_call GI hr rfl mI kI bI .nil pass0 (pa_cons (pv 0) pa_nil)) (pe_one (pe_chain op_le op_le pe_int (pv 0) (pe_glob (v := .int 1000000000) rfl hG ⟨_, rfl⟩))))), ?_⟩
    rcases hv with ⟨i, rfl, rfl⟩ | ⟨rfl, hv⟩
    · refine ⟨_, rfl, _, _, rfl, .inl ⟨i, rfl, rfl⟩, true, rfl, iteT ?_⟩
      refine ⟨_, rfl, _, _, rfl, rfl, _, rfl, ?_⟩
      unfold amtOk at k
      refine ite2 (fun e => ?_) (fun e => ?_)
      · refine ⟨_, _, rfl, rfl, ?_⟩
        rw [e, Bool.true_and] at k
        exact k H Ext.refl
      · rw [Bool.eq_false_iff.mpr e, Bool.false_and] at k
        exact k H Ext.refl
    · exact ⟨_, rfl, _, _, rfl, .inr ⟨rfl, hv⟩, false, rfl, iteF (k H Ext.refl)⟩
/-! ### is_row, of a row that may stand there -/
def RowAt (H : Hp) (v : V) (r : FRow) : Prop := ∃ p, v = V.ref p ∧ H p = some (.tup [.str r.1, parV r.2])
def RowsAt (H : Hp) (vs : List V) (rs : List FRow) : Prop := vs.length = rs.length ∧ ∀ (i : Nat) (r : FRow), rs[i]? = some r → ∃ p, vs[i]? = some (V.ref p) ∧ H p = some (.tup [.str r.1, parV r.2])
theorem RowsAt.ext {H H' : Hp} {vs : List V} {rs : List FRow} (h : RowsAt H vs rs) (k : Ext H H') : RowsAt H' vs rs :=
  ⟨h.1, fun i r hr => by obtain ⟨p, a, b⟩ := h.2 i r hr; exact ⟨p, a, k _ _ b⟩⟩
def spRow : Sp := fun vs H Q _ => ∃ (v : V) (e : Addr) (r : FRow) (E : List Str), vs = [v, .ref e] ∧ RowAt H v r ∧ H e = some (.lst (E.map V.str)) ∧ RowOk E r ∧ ∀ H', Ext H H' → Q (.bl true) H'
theorem scRow : FnScope ["value", "earlier", "name", "parent"] ["value", "earlier"] (defScope sRow) := ⟨rfl, rfl, rfl, by decide +kernel, rfl, by decide +kernel, by decide +kernel⟩
theorem ok_row {f fN : Addr} {fd fdN : FuncData} (F : Fun K "is_row" "is_row" sRow f fd) (T : Names mg) (GN : FnOk P w K mg base CX0 1 fN fdN ["value"] spName) (bN : Binds K fdN ["value"] []) (kN : PySem.W.keepIn K (.ref fN) = true) (mN : mg "is_name" = some (.ref fN)) :
    FnOk P w K mg base CX0 2 f fd ["value", "earlier"] spRow := by
  refine F.ok scRow (fun vs H Q E h => ?_) (fun cdv A outer s H vs Q E hr h => ?_)
  · obtain ⟨v, e, r, E, rfl, _⟩ := h
    rfl
  · obtain ⟨v, e, r, E, rfl, ⟨p, rfl, hp⟩, he, ⟨r1, r2, r3⟩, k⟩ := h
    have hu := hu_of hr
    have nd := scRow.nd
    refine ⟨_, pss_cons (ps_if (PW.pt (pw_or (pt_not (pt_val (pe_callB call_isi rfl T.isi (by decide +kernel) (pa_cons (pv 0) (pa_cons (pe_bltn (v := .ty "tuple") rfl T.tuple (by decide +kernel) rfl) pa_nil))))) (pw_or1 (pt_cmpR op_ne (pe_callB call_len_seq rfl T.len PySem.boot_len (pa_cons (pv 0) pa_nil)) pe_int (nomark _))))) (pss_one (ps_ret pe_bl)) pss_nil)
      (pss_cons (ps_asg (pv 0) (by exact (pg_tup rfl (pgs_cons (pg_name (i := 2) nd rfl (.inl rfl)) (pgs_cons (pg_name (i := 3) nd rfl (.inl rfl)) pgs_nil)))))
      (pss_cons (ps_if (PW.pt (pw_or (pt_not (pt_val (pe_call GN hr rfl mN kN bN .nil pass0 (pa_cons (pv 2) pa_nil)))) (pw_or1 (pt_cmpR op_in_seq (pv 2) (pv 1) rfl)))) (pss_one (ps_ret pe_bl)) pss_nil)
      (pss_one (ps_ret (pe_or (pe_cmpR op_isN (pv 3) pe_non (nomark _)) (pe_one (pe_cmpR op_in_seq (pv 3) (pv 1) rfl))))))), ?_⟩
    refine ⟨_, rfl, _, _, _, _, true, rfl, .ty _, (TyT.tup hp).x, kit_ty (by decide +kernel), true, rfl, iteF ?_⟩
    refine ⟨_, rfl, p, _, rfl, .inr (SqT.of hp), rfl, _, rfl, iteNS rfl ?_⟩
    refine ⟨_, rfl, p, _, rfl, SqT.of hp, rfl, _, _, rfl, _, _, rfl, rfl, ?_⟩
    refine ⟨_, rfl, _, _, rfl, .inl ⟨r.1, rfl, name_asc19 r1, rfl⟩, fun H1 k1 => ?_⟩
    rw [r1]
    refine ⟨true, rfl, iteF ?_⟩
    refine ⟨_, rfl, _, rfl, e, _, rfl, .inl (SqL.of (k1 _ _ he)), rfl, strs_flat E, _, rfl, ?_⟩
    rw [inV_strs, decide_eq_false r2]
    refine iteF ?_
    refine ⟨_, rfl, rfl, ?_⟩
    cases e2 : r.2 with
    | none =>
      refine ⟨true, rfl, iteT ?_⟩
      exact k _ k1
    | some m =>
      refine ⟨false, rfl, iteF ?_⟩
      refine ⟨_, rfl, _, rfl, e, _, rfl, .inl (SqL.of (k1 _ _ he)), rfl, strs_flat E, ?_⟩
      show Q (.bl (inV (.str m) (E.map V.str))) H1
      rw [inV_strs, decide_eq_true (r3 m e2)]
      exact k _ k1
/-! ### first_wrong, of rows of a forest -/
def spWrong (K : PySem.W.Frag) : Sp := fun vs H Q _ => ∃ (l : Addr) (xs : List V) (rs : List FRow), vs = [.ref l] ∧ SqL K H l xs ∧ (∀ H', Ext H H' → SqL K H' l xs) ∧ RowsAt H xs rs ∧ GoodF [] rs ∧ rs.length ≤ 1000 ∧ ∀ H', Ext H H' → Q (.int rs.length) H'
theorem scWrong : FnScope ["rows", "earlier", "at", "row"] ["rows"] (defScope sWrong) := ⟨rfl, rfl, rfl, by decide +kernel, rfl, by decide +kernel, by decide +kernel⟩
theorem ok_wrong {f fR : Addr} {fd fdR : FuncData} (F : Fun K "first_wrong" "first_wrong" sWrong f fd) (T : Names mg) (GR : FnOk P w K mg base CX0 2 fR fdR ["value", "earlier"] spRow) (bR : Binds K fdR ["value", "earlier"] []) (kR : PySem.W.keepIn K (.ref fR) = true) (mR : mg "is_row" = some (.ref fR)) :
    FnOk P w K mg base CX0 3 f fd ["rows"] (spWrong K) := by
  refine F.ok scWrong (fun vs H Q E h => ?_) (fun cdv A outer s H vs Q E hr h => ?_)
  · obtain ⟨l, xs, rs, rfl, _⟩ := h
    rfl
  · obtain ⟨l, xs, rs, rfl, hl, hlk, hR, hg, hn, k⟩ := h
    have hu := hu_of hr
    have nd := scWrong.nd
    refine ⟨_, pss_cons (ps_set (i := 1) nd rfl (.inl rfl) (pe_lst pa_nil))
      (pss_cons (ps_for PassesOwn.never rfl (pi_enum rfl T.enum (pa_cons (pv 0) pa_nil)) (by exact (pg_tup rfl (pgs_cons (pg_name (i := 2) nd rfl (.inl rfl)) (pgs_cons (pg_name (i := 3) nd rfl (.inl rfl)) pgs_nil))))
        (pss_cons (ps_if (pt_not (pt_val (pe_call GR hr rfl mR kR bR .nil pass0 (pa_cons (pv 3) (pa_cons (pv 1) pa_nil))))) (pss_one (ps_ret (pv 2))) pss_nil)
        (pss_one (ps_expr (pe_bm PySem.F.plainAttrs_list PySem.F.slot_list_append PySem.F.type_list_append mt_append (pv 1) (pa_cons (pe_ix ix_tup (pv 3) pe_int (fun _ _ => rfl)) pa_nil))))))
      (pss_one (ps_ret (pe_callB call_len_seq rfl T.len PySem.boot_len (pa_cons (pv 0) pa_nil))))), ?_⟩
    refine ⟨Nat.zero_le _, fun e he => ?_⟩
    refine ⟨_, rfl, l, xs, rfl, hlk _ (Ext.new he), ?_⟩
    refine for_it walk_enum (fun i σ H' => ∃ (v2 v3 : Option V), σ = [some (.ref l), some (.ref e), v2, v3] ∧ H' e = some (.lst ((fNames (rs.take i)).map V.str)) ∧ Ext H H') ⟨none, none, rfl, upd_same, Ext.new he⟩ (fun i σ H' _ ⟨_, _, _, _, k1⟩ => hlk _ k1) ?_ ?_
    · rintro i x σ H1 H2 hi ⟨v2, v3, rfl, e1, k1⟩ ⟨t, a, b, rfl, ht, rfl, ea, eb⟩
      have ea : some (V.int (i : Nat)) = some a := ea
      cases ea
      have hir : i < rs.length := by have := hR.1; omega
      obtain ⟨p, h1, h2⟩ := hR.2 i _ (List.getElem?_eq_getElem hir)
      have eb : xs[i]? = some b := eb
      rw [h1] at eb
      cases eb
      have ok := good_at hg (List.getElem?_eq_getElem hir)
      rw [List.nil_append] at ok
      have k2 : Ext H (upd H1 t (.tup [.int (i : Nat), .ref p])) := k1.trans (Ext.new ht)
      have e2 : (upd H1 t (.tup [.int (i : Nat), .ref p])) e = some (.lst ((fNames (rs.take i)).map V.str)) := new_same ht _ _ e1
      refine ⟨t, _, rfl, SqT.of upd_same, rfl, _, _, rfl, _, _, rfl, rfl, ?_⟩
      refine ⟨_, rfl, _, rfl, _, e, rs[i], fNames (rs.take i), rfl, ⟨p, rfl, k2 _ _ h2⟩, e2, ok, fun H3 k3 => ?_⟩
      refine ⟨true, rfl, iteF ?_⟩
      have e3 := k3 _ _ e2
      refine ⟨_, rfl, .inl ⟨rfl, _, SqL.of e3⟩, _, rfl, p, _, _, _, rfl, rfl, SqT.of ((k2.trans k3) _ _ h2), rfl, e, _, _, rfl, rfl, e3, ?_, ?_⟩
      · rw [sizeLine_eq, List.length_map, fNames, List.length_map, List.length_take]
        omega
      · refine ⟨_, _, rfl, ?_, fun a o ha => ?_⟩
        · rw [upd_same, names_take, names_take]
          show _ = some (HO.lst (((fNames rs).take (i + 1)).map V.str))
          rw [List.map_take, List.map_take, List.take_add_one]
          have : (List.map V.str (fNames rs))[i]? = some (V.str rs[i].1) := by
            rw [List.getElem?_map, fNames, List.getElem?_map, List.getElem?_eq_getElem hir]
            rfl
          rw [this]
          rfl
        · rw [upd_ne (ne_of_none ha he)]
          exact k3 _ _ (k2 _ _ ha)
    · rintro σ H1 ⟨v2, v3, rfl, e1, k1⟩
      refine ⟨_, rfl, l, xs, rfl, .inl (hlk _ k1), ?_⟩
      rw [hR.1]
      exact k _ k1
end
end Lw

set_option Elab.async false
set_option linter.all false
set_option maxRecDepth 100000
set_option maxHeartbeats 4000000
namespace Lw
open L2 hiding Ext
open PySem PySem.Spec PyProof.Rows Gn Gr Gk Go Gt Gf
/-- what of the text the class Forest has -/
structure FC (K : PySem.W.Frag) (mg : Str → Option Value) (C fI : Addr) (mc : Value) : Prop where
  cl : Cls K C
  make : Mk K C fI
  nP : NoAttr K C "_parents"
  cr : ClX.CRead K C mc
  most : ∃ u, ClX.CVal K C mc "MOST" (.int 8) u
  ha : PySem.W.findIn K (.ref C) "__class__" = some (some (.builtin "object.__class__"))
  hn : PySem.W.specialIn K (.builtin "object.__class__") "__get__" = some (some (.builtin "getset_descriptor.__get__"))
  htk : PySem.W.takesIn K (.builtin "object.__class__") = some true
  hm : PySem.W.mroIn K C (.type "object") = some true
  self : PySem.W.kitOne K (.ref C) (.ref C) = some true
  g : mg "Forest" = some (.ref C)
def kvs (rs : List FRow) : List (Key × V) := rs.map kvOf
def FoAt (C : Addr) (H : Hp) (a : Addr) (rs : List FRow) : Prop := ∃ dx q, H a = some (.ins C dx [("_parents", .ref q)]) ∧ H q = some (.dK (kvs rs))
theorem FoAt.ext {C a : Addr} {H H' : Hp} {rs : List FRow} (h : FoAt C H a rs) (k : Ext H H') : FoAt C H' a rs := by
  obtain ⟨dx, q, h1, h2⟩ := h
  exact ⟨dx, q, k _ _ h1, k _ _ h2⟩
def Good (rs : List FRow) : Prop := 1 ≤ rs.length ∧ rs.length ≤ 8 ∧ GoodF [] rs
theorem kvs_none {rs : List FRow} {n : Str} (h : n ∉ fNames rs) : valV (kvs rs) (Sum.inr n : Key) = none := by
  induction rs with
  | nil => rfl
  | cons r t ih =>
    have h1 : ¬ r.1 = n := fun e => h (by simp [fNames, e])
    have h2 : n ∉ fNames t := fun e => h (List.mem_cons_of_mem _ e)
    show valV ((Sum.inr r.1, parV r.2) :: kvs t) (Sum.inr n : Key) = none
    rw [valV_neg (fun e => h1 (Sum.inr.inj e))]
    exact ih h2
theorem kvs_some : ∀ {rs : List FRow} {r : FRow}, (fNames rs).Nodup → r ∈ rs → valV (kvs rs) (Sum.inr r.1 : Key) = some (parV r.2)
  | [], _, _, h => by cases h
  | x :: t, r, hn, h => by
    have hn' : (x.1 :: fNames t).Nodup := hn
    obtain ⟨n1, n2⟩ := List.nodup_cons.mp hn'
    show valV ((Sum.inr x.1, parV x.2) :: kvs t) (Sum.inr r.1 : Key) = _
    rcases List.mem_cons.mp h with rfl | h
    · exact valV_pos rfl
    · have ne : ¬ x.1 = r.1 := fun e => n1 (by rw [e]; exact List.mem_map.mpr ⟨r, h, rfl⟩)
      rw [valV_neg (fun e => ne (Sum.inr.inj e))]
      exact kvs_some n2 h
section
variable {P : Program} {w : World} {K : PySem.W.Frag} {mg : Str → Option Value} {base : Heap} {C fI : Addr} {mc : Value}
theorem FC.ty (T : FC K mg C fI mc) {H : Hp} {a dx : Addr} {fs : List (Str × V)} (h : H a = some (.ins C dx fs)) : TyX K H (.ref a) (.ref C) := .base (.ins h T.cl T.ha T.hn T.htk T.hm)
/-! ### Forest.__init__ -/
def spInit (C : Addr) : Sp := fun vs H Q _ => ∃ (x l dx : Addr) (xs : List V) (rs : List FRow), vs = [.ref x, .ref l] ∧ H x = some (.ins C dx []) ∧ H l = some (.lst xs) ∧ RowsAt H xs rs ∧ Good rs ∧
  ∀ H' D, (∀ a o, a ≠ x → H a = some o → H' a = some o) → H' x = some (.ins C dx [("_parents", .ref D)]) → H' D = some (.dK (kvs rs)) → Q .non H'
theorem scInit : FnScope ["self", "rows", "name", "parent"] ["self", "rows"] (defScope sInit) := ⟨rfl, rfl, rfl, by decide +kernel, rfl, by decide +kernel, by decide +kernel⟩
theorem ok_init {f fW : Addr} {fd fdW : FuncData} (F : Fun K "__init__" "Forest.__init__" sInit f fd) (T : Names mg) (Z : FC K mg C fI mc) (GW : FnOk P w K mg base CX0 3 fW fdW ["rows"] (spWrong K)) (bW : Binds K fdW ["rows"] []) (kW : PySem.W.keepIn K (.ref fW) = true) (mW : mg "first_wrong" = some (.ref fW)) :
    FnOk P w K mg base CX0 4 f fd ["self", "rows"] (spInit C) := by
  refine F.ok scInit (fun vs H Q E h => ?_) (fun cdv A outer s H vs Q E hr h => ?_)
  · obtain ⟨x, l, dx, xs, rs, rfl, _⟩ := h
    rfl
  · obtain ⟨x, l, dx, xs, rs, rfl, hx, hl, hR, ⟨g1, g8, hg⟩, k⟩ := h
    have hu := hu_of hr
    have nd := scInit.nd
    obtain ⟨um, hM⟩ := Z.most
    refine ⟨_, pss_cons (ps_if (pt_not (pt_val (pe_callB call_isiT rfl T.isi (by decide +kernel) (pa_cons (pv 1) (pa_cons (pe_tup (pa_cons (pe_bltn (v := .ty "list") rfl T.list (by decide +kernel) rfl) (pa_cons (pe_bltn (v := .ty "tuple") rfl T.tuple (by decide +kernel) rfl) pa_nil))) pa_nil))))) pss_never pss_nil)
      (pss_cons (ps_if (PW.pt (pw_or (pt_cmpR op_lt (pe_callB call_len_seq rfl T.len PySem.boot_len (pa_cons (pv 1) pa_nil)) pe_int (nomark _)) (pw_or1 (pt_cmpR op_gt (pe_callB call_len_seq rfl T.len PySem.boot_len (pa_cons (pv 1) pa_nil)) (ClX.pe_cval (pe_glob (v := .ref C) rfl Z.g rfl)) (nomark _))))) pss_never pss_nil)
      (pss_cons (ps_if (pt_cmpR op_lt (pe_call GW hr rfl mW kW bW .nil pass0 (pa_cons (pv 1) pa_nil)) (pe_callB call_len_seq rfl T.len PySem.boot_len (pa_cons (pv 1) pa_nil)) (nomark _)) pss_never pss_nil)
      (pss_one (ps_fld (pv 0) (pe_dc (own := [("name", 2), ("parent", 3)]) (g := gTup K 2 (gCons (gName 2) (gCons (gName 3) gNil))) (tt := tYes) rfl nd (pi_list (pv 1)) (blkOk_by (N := ["self", "rows", "name", "parent"]) (sc := defScope sInit) (by decide +kernel))
        (fun _ _ _ _ _ => by exact (pg_tup rfl (pgs_cons (pg_name (i := 2) nd rfl (.inl rfl)) (pgs_cons (pg_name (i := 3) nd rfl (.inl rfl)) pgs_nil)))) (fun _ _ _ _ _ => pts_nil) (fun _ _ _ _ _ => pv 2) (fun _ _ _ _ _ => pv 3)) rfl)))), ?_⟩
    have hlen : xs.length = rs.length := hR.1
    refine ⟨_, rfl, by show 2 ≤ sizeLine; decide, fun tp htp => ?_⟩
    have hx1 := new_same (o := .tup [.ty "list", .ty "tuple"]) htp _ _ hx
    have hl1 := new_same (o := .tup [.ty "list", .ty "tuple"]) htp _ _ hl
    have k1 : Ext H (upd H tp (.tup [.ty "list", .ty "tuple"])) := Ext.new htp
    have ht1 : (upd H tp (.tup [.ty "list", .ty "tuple"])) tp = some (.tup [.ty "list", .ty "tuple"]) := upd_same
    generalize upd H tp (.tup [.ty "list", .ty "tuple"]) = H1 at hx1 hl1 k1 ht1 ⊢
    refine ⟨_, tp, _, _, [.type "list", .type "tuple"], true, rfl, ht1, .cons (.ty _) (.cons (.ty _) .nil), (TyT.lst hl1).x, kitAny_cons (b := true) (kit_ty (by decide +kernel)) (fun z => by cases z) (fun _ => rfl), true, rfl, iteF ?_⟩
    refine ⟨_, rfl, l, _, rfl, .inl (SqL.of hl1), _, _, rfl, rfl, _, rfl, iteN (by omega) ?_⟩
    refine ⟨_, rfl, l, _, rfl, .inl (SqL.of hl1), C, mc, _, um, rfl, Z.cr, hM, _, _, rfl, rfl, _, rfl, iteN (by omega) ?_⟩
    refine ⟨_, rfl, l, xs, rs, rfl, SqL.of hl1, fun H' k' => SqL.of (k' _ _ hl1), hR.ext k1, hg, by omega, fun H2 k2 => ?_⟩
    have hl2 := k2 _ _ hl1
    have hx2 := k2 _ _ hx1
    refine ⟨_, rfl, l, _, rfl, .inl (SqL.of hl2), _, _, rfl, rfl, _, rfl, iteN (by omega) ?_⟩
    refine ⟨_, rfl, l, rfl, ⟨_, SqL.of hl2⟩, fun D hD => ?_⟩
    refine dc_it walk_list (fun i H' => H' D = some (.dK (kvs (rs.take i))) ∧ Ext H2 H') ⟨upd_same, Ext.new hD⟩ (fun i H' _ ⟨_, e⟩ => SqL.of (e _ _ hl2)) ?_ ?_
    · rintro i y H3 H4 hi ⟨d3, k3⟩ ⟨rfl, hy⟩
      have hir : i < rs.length := by omega
      obtain ⟨p, h1, h2⟩ := hR.2 i _ (List.getElem?_eq_getElem hir)
      rw [h1] at hy
      cases hy
      have ok := good_at hg (List.getElem?_eq_getElem hir)
      rw [List.nil_append] at ok
      refine ⟨p, _, rfl, SqT.of (k3 _ _ (k2 _ _ (k1 _ _ h2))), rfl, _, _, rfl, _, _, rfl, rfl, rfl, yes_of ?_⟩
      refine ⟨_, rfl, _, rfl, kvs (rs.take i), (Sum.inr rs[i].1 : Key), rfl, d3, ?_, ?_, fun a o ha => ?_⟩
      · rw [sizeLine_eq, kvs, List.length_map, List.length_take]
        omega
      · rw [upd_same, putK_new _ (kvs_none ok.2.1)]
        show _ = some (HO.dK ((rs.take (i + 1)).map kvOf))
        rw [take_succ_map kvOf (List.getElem?_eq_getElem hir)]
        rfl
      · rw [upd_ne (ne_of_none ha hD)]
        exact k3 _ _ ha
    · rintro H3 ⟨d3, k3⟩
      rw [hlen, List.take_length] at d3
      refine ⟨_, rfl, x, C, dx, [], rfl, k3 _ _ hx2, Z.cl, Z.nP, by decide, ?_⟩
      refine k _ D (fun a o na ha => ?_) upd_same ?_
      · rw [upd_ne na]
        exact k3 _ _ (k2 _ _ (k1 _ _ ha))
      · rw [upd_ne (ne_of_none hx2 hD).symm]
        exact d3
theorem keys_strs (rs : List FRow) : ((kvs rs).map fun kv => kV kv.1) = (fNames rs).map V.str := by
  unfold kvs fNames
  rw [List.map_map, List.map_map]
  rfl
/-! ### names -/
def spNames (C : Addr) : Sp := fun vs H Q _ => ∃ (a : Addr) (rs : List FRow), vs = [.ref a] ∧ FoAt C H a rs ∧ ∀ H' t, Ext H H' → H t = none → H' t = some (.tup ((fNames rs).map V.str)) → Q (.ref t) H'
theorem scNames : FnScope ["self"] ["self"] (defScope sNames) := ⟨rfl, rfl, rfl, by decide +kernel, rfl, by decide +kernel, by decide +kernel⟩
theorem ok_names {f : Addr} {fd : FuncData} (F : Fun K "names" "Forest.names" sNames f fd) (T : Names mg) (Z : FC K mg C fI mc) : FnOk P w K mg base CX0 1 f fd ["self"] (spNames C) := by
  refine F.ok scNames (fun vs H Q E h => ?_) (fun cdv A outer s H vs Q E hr h => ?_)
  · obtain ⟨a, rs, rfl, _⟩ := h
    rfl
  · obtain ⟨a, rs, rfl, ⟨dx, q, h1, h2⟩, k⟩ := h
    refine ⟨_, pss_one (ps_ret (pe_callTy (call_tuple_dK rfl) rfl T.tuple (by decide +kernel) (pa_cons (pe_fld (pv 0) rfl) pa_nil))), ?_⟩
    refine ⟨_, rfl, a, C, dx, _, _, rfl, h1, Z.cl, Z.nP, rfl, q, _, rfl, h2, fun t ht => ?_⟩
    rw [keys_strs]
    exact k _ t (Ext.new ht) ht upd_same
end
def parOf (rs : List FRow) (n : Str) : Option Str := (rs.find? fun r => decide (r.1 = n)).bind (·.2)
theorem parOf_at : ∀ {rs : List FRow} {r : FRow}, (fNames rs).Nodup → r ∈ rs → parOf rs r.1 = r.2
  | [], _, _, h => by cases h
  | x :: t, r, hn, h => by
    have hn' : (x.1 :: fNames t).Nodup := hn
    obtain ⟨n1, n2⟩ := List.nodup_cons.mp hn'
    unfold parOf
    rcases List.mem_cons.mp h with rfl | h
    · rw [List.find?_cons_of_pos (by simp)]
      rfl
    · have ne : ¬ x.1 = r.1 := fun e => n1 (by rw [e]; exact List.mem_map.mpr ⟨r, h, rfl⟩)
      rw [List.find?_cons_of_neg (by simpa using ne)]
      exact parOf_at n2 h
def ancF (rs : List FRow) : Nat → Str → List Str
  | 0, _ => []
  | k + 1, n => n :: match parOf rs n with
    | none => []
    | some m => ancF rs k m
def ancR (rs : List FRow) (k : Nat) : Option Str → List Str
  | none => []
  | some m => ancF rs k m
theorem ancF_s (rs : List FRow) (k : Nat) (n : Str) : ancF rs (k + 1) n = n :: ancR rs k (parOf rs n) := by
  show n :: _ = n :: _
  cases parOf rs n <;> rfl
section
variable {P : Program} {w : World} {K : PySem.W.Frag} {mg : Str → Option Value} {base : Heap} {C fI : Addr} {mc : Value}
/-! ### ancestors -/
theorem par_idx {rs : List FRow} (hg : GoodF [] rs) {j : Nat} {r : FRow} (h : rs[j]? = some r) {m : Str} (hm : r.2 = some m) : ∃ j' r', j' < j ∧ rs[j']? = some r' ∧ r'.1 = m := by
  have ok := (good_at hg h).2.2 m hm
  rw [List.nil_append] at ok
  obtain ⟨r', h1, h2⟩ := List.mem_map.mp ok
  obtain ⟨j', hj⟩ := List.mem_iff_getElem?.mp h1
  have hlt : j' < j := by
    have := (List.getElem?_eq_some_iff.mp hj).1
    rw [List.length_take] at this
    omega
  rw [List.getElem?_take_of_lt hlt] at hj
  exact ⟨j', r', hlt, hj, h2⟩
def spAnc (C : Addr) : Sp := fun vs H Q _ => ∃ (a : Addr) (rs : List FRow) (i : Nat) (r : FRow), vs = [.ref a, .str r.1] ∧ FoAt C H a rs ∧ Good rs ∧ rs[i]? = some r ∧
  ∀ H' l, Ext H H' → H l = none → H' l = some (.lst ((ancF rs (i + 1) r.1).map V.str)) → Q (.ref l) H'
theorem scAnc : FnScope ["self", "name", "found", "above"] ["self", "name"] (defScope sAnc) := ⟨rfl, rfl, rfl, by decide +kernel, rfl, by decide +kernel, by decide +kernel⟩
theorem ok_anc {f pN fN : Addr} {fd fdN : FuncData} (F : Fun K "ancestors" "Forest.ancestors" sAnc f fd) (T : Names mg) (Z : FC K mg C fI mc) (hpN : PropOf K C "names" pN fN) (GN : FnOk P w K mg base CX0 1 fN fdN ["self"] (spNames C)) (bN : Binds K fdN ["self"] []) :
    FnOk P w K mg base CX0 3 f fd ["self", "name"] (spAnc C) := by
  refine F.ok scAnc (fun vs H Q E h => ?_) (fun cdv A outer s H vs Q E hr h => ?_)
  · obtain ⟨a, rs, i, r, rfl, _⟩ := h
    rfl
  · obtain ⟨a, rs, i, r, rfl, ⟨dx, q, h1, h2⟩, ⟨g1, g8, hg⟩, hi, k⟩ := h
    have hu := hu_of hr
    have nd := scAnc.nd
    have hnd := (good_nodup hg).1
    refine ⟨_, pss_cons (ps_if (pt_cmpR op_notIn_seq (pv 1) (pe_prop (pv 0) Z.cl hpN GN hr bN .nil pass0 rfl) rfl) pss_never pss_nil)
      (pss_cons (ps_set (i := 2) nd rfl (.inl rfl) (pe_lst (pa_cons (pv 1) pa_nil)))
      (pss_cons (ps_set (i := 3) nd rfl (.inl rfl) (pe_dget hu (pe_fld (pv 0) rfl) (pv 1) (fun _ _ => rfl)))
      (pss_cons (ps_while PassesOwn.never (pt_cmpR op_notN (pv 3) pe_non (nomark _))
        (pss_cons (ps_expr (pe_bm PySem.F.plainAttrs_list PySem.F.slot_list_append PySem.F.type_list_append mt_append (pv 2) (pa_cons (pv 3) pa_nil)))
        (pss_one (ps_set (i := 3) nd rfl (.inl rfl) (pe_dget hu (pe_fld (pv 0) rfl) (pv 3) (fun _ _ => rfl))))))
      (pss_one (ps_ret (pv 2)))))), ?_⟩
    have hrm : r ∈ rs := List.mem_of_getElem? hi
    have hin : r.1 ∈ fNames rs := List.mem_map.mpr ⟨r, hrm, rfl⟩
    have hil : i < rs.length := (List.getElem?_eq_some_iff.mp hi).1
    refine ⟨_, rfl, _, rfl, a, dx, _, rfl, h1, a, rs, rfl, ⟨dx, q, h1, h2⟩, fun H1 t k1 ht0 ht => ?_⟩
    refine ⟨t, _, rfl, .inr (SqT.of ht), rfl, strs_flat _, _, rfl, ?_⟩
    rw [inV_strs, decide_eq_true hin]
    refine iteF ?_
    refine ⟨_, rfl, by show 1 ≤ sizeLine; decide, fun l hl => ?_⟩
    have hlH : H l = none := by
      cases e : H l with
      | none => rfl
      | some u => rw [k1 _ _ e] at hl; cases hl
    have k2 : Ext H (upd H1 l (.lst [.str r.1])) := k1.trans (Ext.new hl)
    have hl2 : (upd H1 l (.lst [.str r.1])) l = some (.lst ([r.1].map V.str)) := upd_same
    generalize upd H1 l (.lst [.str r.1]) = H2 at k2 hl2 ⊢
    have get : ∀ {H' : Hp} {x : FRow}, Ext H H' → x ∈ rs → DGet H' q (.str x.1) (some (parV x.2)) := by
      intro H' x kk hx
      rw [← kvs_some hnd hx]
      exact DGet.k (k := Sum.inr x.1) (kk _ _ h2)
    refine ⟨_, rfl, a, C, dx, _, _, rfl, k2 _ _ h1, Z.cl, Z.nP, rfl, _, rfl, q, _, rfl, get k2 hrm, ?_⟩
    refine while_by (fun σ H' => ∃ (pq : Option Str) (pre : List Str) (kk : Nat), σ = [some (.ref a), some (.str r.1), some (.ref l), some (parV pq)] ∧ H' l = some (.lst (pre.map V.str)) ∧ pre.length + kk = i + 1 ∧
        (∀ m, pq = some m → ∃ (j : Nat) (r' : FRow), j < kk ∧ rs[j]? = some r' ∧ r'.1 = m) ∧ pre ++ ancR rs kk pq = ancF rs (i + 1) r.1 ∧ Ext H H')
      (fun _ H' => match H' l with | some (.lst xs) => 100 - xs.length | _ => 0) ⟨r.2, [r.1], i, rfl, hl2, by simp; omega, fun m hm => ?_, ?_, k2⟩ ?_ ?_
    · obtain ⟨j', r', a1, a2, a3⟩ := par_idx hg hi hm
      exact ⟨j', r', a1, a2, a3⟩
    · rw [ancF_s, parOf_at hnd hrm]
      rfl
    · rintro σ H3 ⟨pq, pre, kk, rfl, e3, hk, hm, he, k3⟩
      cases pq with
      | none =>
        refine ⟨_, rfl, rfl, _, rfl, iteNS rfl ?_⟩
        refine ⟨_, rfl, k _ l k3 hlH ?_⟩
        rw [e3]
        have : pre = ancF rs (i + 1) r.1 := by rw [← he]; simp [ancR]
        rw [this]
      | some m =>
        obtain ⟨j, r', j1, j2, rfl⟩ := hm m rfl
        have hr' : r' ∈ rs := List.mem_of_getElem? j2
        refine ⟨_, rfl, rfl, _, rfl, ?_⟩
        show if (!decide (V.str r'.1 = V.non)) = true then _ else _
        rw [decide_eq_false (by intro z; cases z)]
        refine iteT ?_
        refine ⟨_, rfl, .inl ⟨rfl, _, SqL.of e3⟩, _, rfl, l, _, _, rfl, rfl, e3, ?_, ?_⟩
        · rw [sizeLine_eq, List.length_map]
          omega
        have k4 : Ext H (upd H3 l (.lst (pre.map V.str ++ [.str r'.1]))) := fun b o hb => by
          rw [upd_ne (ne_of_none hb hlH)]
          exact k3 _ _ hb
        refine ⟨_, rfl, a, C, dx, _, _, rfl, k4 _ _ h1, Z.cl, Z.nP, rfl, _, rfl, q, _, rfl, get k4 hr', ?_⟩
        obtain ⟨kp, rfl⟩ : ∃ kp, kk = kp + 1 := ⟨kk - 1, by omega⟩
        refine ⟨⟨r'.2, pre ++ [r'.1], kp, rfl, by rw [upd_same, List.map_append]; rfl, by rw [List.length_append]; show pre.length + 1 + kp = _; omega, fun m' hm' => ?_, ?_, k4⟩, ?_⟩
        · obtain ⟨j', r'', a1, a2, a3⟩ := par_idx hg j2 hm'
          exact ⟨j', r'', by omega, a2, a3⟩
        · rw [← he]
          show pre ++ [r'.1] ++ ancR rs kp r'.2 = pre ++ ancF rs (kp + 1) r'.1
          rw [ancF_s, parOf_at hnd hr', List.append_assoc]
          rfl
        · show (match (upd H3 l (.lst (pre.map V.str ++ [.str r'.1]))) l with | some (.lst xs) => 100 - xs.length | _ => 0) < (match H3 l with | some (.lst xs) => 100 - xs.length | _ => 0)
          rw [upd_same, e3]
          show 100 - (pre.map V.str ++ [V.str r'.1]).length < 100 - (pre.map V.str).length
          rw [List.length_append, List.length_map]
          show 100 - (pre.length + 1) < _
          omega
    · exact fun σ H Q Q' hq ⟨v, e1, e2, b, e3, h⟩ => ⟨v, e1, e2, b, e3, hq _ _ h⟩
end
end Lw

set_option Elab.async false
set_option linter.all false
set_option maxRecDepth 100000
set_option maxHeartbeats 4000000
namespace Lw
open L2 hiding Ext
open PySem PySem.Spec PyProof.Rows Gn Gr Gk Go Gt Gf
section
variable {P : Program} {w : World} {K : PySem.W.Frag} {mg : Str → Option Value} {base : Heap}
/-- the two defs that draw, as they stand -/
structure Draw (P : Program) (w : World) (K : PySem.W.Frag) (mg : Str → Option Value) (base : Heap) (ns : List Int) (fT fP : Addr) (fdT fdP : FuncData) : Prop where
  GT : FnOk P w K mg base CX0 2 fT fdT ["_law_state", "_law_size"] (spTake ns)
  bT : Binds K fdT ["_law_state", "_law_size"] []
  kT : PySem.W.keepIn K (.ref fT) = true
  mT : mg "_law_take" = some (.ref fT)
  GP : FnOk P w K mg base CX0 3 fP fdP ["_law_state", "_law_some"] (spPick K ns)
  bP : Binds K fdP ["_law_state", "_law_some"] []
  kP : PySem.W.keepIn K (.ref fP) = true
  mP : mg "_law_pick" = some (.ref fP)
  len : mg "len" = none
  range : mg "range" = none
/-! ### _law_words -/
abbrev nWords : List Str := ["_law_state", "_law_size", "_law_own", "_law_letters", "_law_found", "_law_k", "_law_word", "_law_j", "_law_letter", "_law_other"]
def spWords (ns : List Int) : Sp := fun vs H Q _ => ∃ (d g c : Addr) (b : Nat) (z : Int), vs = [.ref d, .int z] ∧ Dw ns d g c b H ∧ b ≤ 900000000 ∧ 0 ≤ z ∧ z ≤ 8 ∧
  ∀ (l : Addr) (ws : List Str) (H' : Hp), H l = none → l ≠ d → l ≠ g → H' l = some (.lst (ws.map V.str)) → ws.length = z.toNat → ws.Nodup → (∀ x ∈ ws, nameOk x = true) → Dw ns d g c (b + 200) H' → Kp d g H H' → Q (.ref l) H'
theorem scWords : FnScope nWords ["_law_state", "_law_size"] (defScope sWords) := ⟨rfl, rfl, rfl, by decide +kernel, rfl, by decide +kernel, by decide +kernel⟩
theorem ok_words {f fT fP : Addr} {fd fdT fdP : FuncData} (ns : List Int) (F : Fun K "_law_words" "_law_words" sWords f fd) (R : Draw P w K mg base ns fT fP fdT fdP) : FnOk P w K mg base CX0 4 f fd ["_law_state", "_law_size"] (spWords ns) := by
  refine F.ok scWords (fun vs H Q E h => ?_) (fun cdv A outer s H vs Q E hr h => ?_)
  · obtain ⟨d, g, c, b, z, rfl, _⟩ := h
    rfl
  · obtain ⟨d, g, c, b, z, rfl, D, hb, z0, z8, k⟩ := h
    have hu := hu_of hr
    have nd := scWords.nd
    have hr2 : Room 2 (A.deeper (envOfC "_law_words" (defScope sWords) s.heap.objs.size f cdv)) := hr.mono (by decide)
    refine ⟨_, pss_cons (ps_set (i := 2) nd rfl (.inl rfl) (pe_split pe_str pe_str))
      (pss_cons (ps_asg (pe_tup (pa_cons pe_str (pa_cons (pe_lst pa_nil) pa_nil))) (by exact (pg_tup rfl (pgs_cons (pg_name (i := 3) nd rfl (.inr rfl)) (pgs_cons (pg_name (i := 4) nd rfl (.inr rfl)) pgs_nil)))))
      (pss_cons (ps_for PassesOwn.never rfl (pi_range1 rfl R.range (pa_cons (pv 1) pa_nil)) (pg_name (i := 5) nd rfl (.inl rfl))
        (pss_cons (ps_set (i := 6) nd rfl (.inr rfl) (pe_call R.GP hr rfl R.mP R.kP R.bP .nil pass0 (pa_cons (pv 0) (pa_cons (pv 2) pa_nil))))
        (pss_cons (ps_if (pt_cmpR op_gt (pe_call R.GT hr2 rfl R.mT R.kT R.bT .nil pass0 (pa_cons (pv 0) (pa_cons pe_int pa_nil))) pe_int (nomark _))
          (pss_one (ps_set (i := 6) nd rfl (.inr rfl) (pe_join pe_str (pe_lc (own := [("_law_j", 7)]) (g := gName 7) (tt := tYes) rfl nd (pi_range1 rfl R.range (pa_cons (pe_call R.GP hr rfl R.mP R.kP R.bP .nil pass0 (pa_cons (pv 0) (pa_cons (pe_lst (pa_cons pe_int (pa_cons pe_int (pa_cons pe_int (pa_cons pe_int pa_nil))))) pa_nil))) pa_nil)) (blkOk_by (N := nWords) (sc := defScope sWords) (by decide +kernel))
            (fun _ _ _ _ _ => pg_name (i := 7) nd rfl (.inl rfl)) (fun _ _ _ _ _ => pts_nil) (fun _ _ _ _ _ => pe_call R.GP hr rfl R.mP R.kP R.bP .nil pass0 (pa_cons (pv 0) (pa_cons (pv 3) pa_nil))))))) pss_nil)
        (pss_cons (ps_if (pt_cmpR op_in_seq (pv 6) (pv 4) rfl)
          (pss_one (ps_set (i := 6) nd rfl (.inr rfl) (pe_ix ix_list (pe_lc (own := [("_law_other", 9)]) (g := gName 9) rfl nd (pi_list
              (pe_lc (own := [("_law_letter", 8)]) (g := gName 8) (tt := tYes) rfl nd (pi_str (pv 3)) (blkOk_by (N := nWords) (sc := defScope sWords) (by decide +kernel))
                (fun _ _ _ _ _ => pg_name (i := 8) nd rfl (.inl rfl)) (fun _ _ _ _ _ => pts_nil) (fun _ _ _ _ _ => pe_op op_add_str (pe_op op_add_str (pe_slice sl_str (pv 6) po_none (po_some pe_int)) pe_str) (pv 8)))) (blkOk_by (N := nWords) (sc := defScope sWords) (by decide +kernel))
              (fun _ _ _ _ _ => pg_name (i := 9) nd rfl (.inl rfl)) (fun _ _ _ _ _ => pts_one (pt_cmpR (r := rIn K true) op_notIn_seq (pv 9) (pv 4) rfl)) (fun _ _ _ _ _ => pv 9)) pe_int (fun _ _ => rfl)))) pss_nil)
        (pss_one (ps_expr (pe_bm PySem.F.plainAttrs_list PySem.F.slot_list_append PySem.F.type_list_append mt_append (pv 4) (pa_cons (pv 6) pa_nil))))))))
      (pss_one (ps_ret (pv 4))))), ?_⟩
    have ho1 : (ownText.length : Nat) ≤ 100 := by decide +kernel
    refine ⟨⟨_, rfl⟩, ownText, _, rfl, rfl, by decide +kernel, by rw [sizeLine_eq]; omega, fun o hoN => ?_⟩
    have Do := D.new (o := .lst (owns.map V.str)) hoN
    have hno : o ≠ d := D.nd hoN
    have hgo : o ≠ g := D.ng hoN
    have ho : (upd H o (.lst (owns.map V.str))) o = some (.lst (owns.map V.str)) := upd_same
    have ko : Kp d g H (upd H o (.lst (owns.map V.str))) := Kp.new hoN
    show tSeq _ _ _ _ (upd H o (.lst (owns.map V.str)))
    generalize upd H o (.lst (owns.map V.str)) = H1 at Do ho ko ⊢
    refine ⟨Nat.zero_le _, fun l hl => ?_⟩
    have Dl := Do.new (o := .lst []) hl
    have hnl : l ≠ d := Do.nd hl
    have hgl : l ≠ g := Do.ng hl
    have hcl : l ≠ c := fun e => by rw [e, Do.cl] at hl; cases hl
    have hol : l ≠ o := (ne_of_none ho hl).symm
    have hlH : H l = none := D.free Do ko hl
    have kl : Kp d g H (upd H1 l (.lst [])) := ko.trans (Kp.new hl)
    have ho2 := new_same (o := .lst []) hl _ _ ho
    have hl2 : (upd H1 l (.lst [])) l = some (.lst (([] : List Str).map V.str)) := upd_same
    generalize upd H1 l (.lst []) = H2 at Dl kl ho2 hl2 ⊢
    refine ⟨by show 2 ≤ sizeLine; decide, fun t ht => ?_⟩
    have Dt := Dl.new (o := .tup [.str letters, .ref l]) ht
    have kt : Kp d g H (upd H2 t (.tup [.str letters, .ref l])) := kl.trans (Kp.new ht)
    have ho3 := new_same (o := .tup [.str letters, .ref l]) ht _ _ ho2
    have hl3 := new_same (o := .tup [.str letters, .ref l]) ht _ _ hl2
    refine ⟨t, _, rfl, SqT.of upd_same, rfl, _, _, rfl, _, _, rfl, rfl, ?_⟩
    show tSeq _ _ _ _ (upd H2 t (.tup [.str letters, .ref l]))
    generalize upd H2 t (.tup [.str letters, .ref l]) = H3 at Dt kt ho3 hl3 ⊢
    refine ⟨_, rfl, z, rfl, by omega, by omega, for_range (lo := 0) (n := z.toNat) (fun i σ H' => ∃ (v5 v6 : Option V) (ws : List Str), σ = [some (.ref d), some (.int z), some (.ref o), some (.str letters), some (.ref l), v5, v6, none, none, none] ∧
        H' o = some (.lst (owns.map V.str)) ∧ H' l = some (.lst (ws.map V.str)) ∧ ws.length = i ∧ ws.Nodup ∧ (∀ x ∈ ws, nameOk x = true) ∧ Dw ns d g c (b + 20 * i) H' ∧ Kp d g H H')
      ⟨none, none, [], rfl, ho3, hl3, rfl, List.nodup_nil, (fun x hx => by cases hx), Dt, kt⟩ ?_ ?_⟩
    · rintro i σ H4 hi ⟨v5, v6, ws, rfl, o4, l4, wl, wn, wok, D4, k4⟩
      refine ⟨_, rfl, _, rfl, d, g, c, _, D4, by omega, .inl ⟨o, _, rfl, o4, hno, hgo, by rw [List.length_map, owns_len]; decide, by rw [List.length_map, owns_len]; decide, fun y H5 hy D5 k5 => ?_⟩⟩
      obtain ⟨w0, hw0, rfl⟩ := List.mem_map.mp hy
      have hw0 := owns_ok w0 hw0
      refine ⟨_, rfl, d, g, c, _, 3, rfl, D5, by omega, by decide, by decide, fun r H6 r0 r1 D6 k6 => ?_⟩
      have l6 := k6 _ _ hnl hgl (k5 _ _ hnl hgl l4)
      have o6 := k6 _ _ hno hgo (k5 _ _ hno hgo o4)
      have k46 : Kp d g H H6 := (k4.trans k5).trans k6
      have fin : ∀ (wd : Str) (H' : Hp) (v5' : Option V), nameOk wd = true → wd ∉ ws → H' o = some (.lst (owns.map V.str)) → H' l = some (.lst (ws.map V.str)) → Dw ns d g c (b + 20 * i + 20) H' → Kp d g H H' →
          ∃ (v5 v6 : Option V) (ws' : List Str), [some (.ref d), some (.int z), some (.ref o), some (.str letters), some (.ref l), v5', some (.str wd), none, none, none] = [some (.ref d), some (.int z), some (.ref o), some (.str letters), some (.ref l), v5, v6, none, none, none] ∧
            (upd H' l (.lst (ws.map V.str ++ [V.str wd]))) o = some (.lst (owns.map V.str)) ∧ (upd H' l (.lst (ws.map V.str ++ [V.str wd]))) l = some (.lst (ws'.map V.str)) ∧ ws'.length = i + 1 ∧ ws'.Nodup ∧ (∀ x ∈ ws', nameOk x = true) ∧ Dw ns d g c (b + 20 * (i + 1)) (upd H' l (.lst (ws.map V.str ++ [V.str wd]))) ∧ Kp d g H (upd H' l (.lst (ws.map V.str ++ [V.str wd]))) := by
        intro wd H' v5' h1 h2 h3 h4 h5 h6
        refine ⟨_, _, ws ++ [wd], rfl, by rw [upd_ne hol.symm]; exact h3, by rw [upd_same, List.map_append]; rfl, by rw [List.length_append, wl]; rfl, ?_, fun x hx => ?_, (h5.put h4 hnl hgl hcl).mono (by omega), fun a u n1 n2 ha => ?_⟩
        · refine List.nodup_append.mpr ⟨wn, by simp, fun a ha a' ha' => ?_⟩
          rw [List.mem_singleton] at ha'
          subst ha'
          exact fun e => h2 (e ▸ ha)
        · rcases List.mem_append.mp hx with hx | hx
          · exact wok x hx
          · rw [List.mem_singleton.mp hx]
            exact h1
        · rw [upd_ne (ne_of_none ha hlH)]
          exact h6 a u n1 n2 ha
      refine ⟨_, _, rfl, rfl, _, rfl, ?_⟩
      refine ite2 (fun e => ?A) (fun e => ?B)
      case' A =>
        refine ⟨⟨_, rfl⟩, _, rfl, by show 4 ≤ sizeLine; decide, fun q hq => ?_⟩
        have D7 := D6.new (o := .lst [.int 1, .int 1, .int 2, .int 8]) hq
        refine ⟨d, g, c, _, D7, by omega, .inl ⟨q, _, rfl, upd_same, D6.nd hq, D6.ng hq, by show 0 < 4; decide, by show 4 ≤ 1000000; decide, fun y2 H8 hy2 D8 k8 => ?_⟩⟩
        obtain ⟨j, rfl, j1, j8⟩ := sizes1128 _ hy2
        have l8 := k8 _ _ hnl hgl (new_same (o := .lst [.int 1, .int 1, .int 2, .int 8]) hq _ _ l6)
        have o8 := k8 _ _ hno hgo (new_same (o := .lst [.int 1, .int 1, .int 2, .int 8]) hq _ _ o6)
        have k48 : Kp d g H H8 := (k46.trans (Kp.new hq)).trans k8
        refine ⟨j, rfl, by omega, by omega, fun L hL => ?_⟩
        have nL : L ≠ d := D8.nd hL
        have gL : L ≠ g := D8.ng hL
        have cL : L ≠ c := fun e => by rw [e, D8.cl] at hL; cases hL
        refine lc_range (lo := 0) (n := j.toNat) (fun i' H' => ∃ cs : List Nat, H' L = some (.lst ((cs.map cand.oneS').map V.str)) ∧ cs.length = i' ∧ (∀ x ∈ cs, x ∈ letters.cps.toList) ∧ Dw ns d g c (b + 20 * i + 3 + i') H' ∧ Kp d g H8 H')
          ⟨[], upd_same, rfl, (fun x hx => by cases hx), (D8.new hL).mono (by omega), Kp.new hL⟩ ?_ ?_
        · rintro i' H9 hi' ⟨cs, d9, cl, cok, D9, k9⟩
          refine ⟨rfl, yes_of ?_⟩
          refine ⟨_, rfl, _, rfl, d, g, c, _, D9, by omega, .inr ⟨_, rfl, by decide +kernel, by decide +kernel, fun y3 H10 hy3 D10 k10 => ?_⟩⟩
          have d10 := k10 _ _ nL gL d9
          refine ⟨_, d10, ?_, cs ++ [y3], ?_, by rw [List.length_append, cl]; rfl, fun x hx => ?_, (D10.put d10 nL gL cL).mono (by omega), fun a u n1 n2 ha => ?_⟩
          · rw [List.length_map, List.length_map]
            exact small1000 (by omega)
          · rw [upd_same, List.map_append, List.map_append]
            rfl
          · rcases List.mem_append.mp hx with hx | hx
            · exact cok x hx
            · rw [List.mem_singleton.mp hx]
              exact hy3
          · rw [upd_ne (ne_of_none ha hL)]
            exact k10 _ _ n1 n2 (k9 _ _ n1 n2 ha)
        rintro H9 ⟨cs, d9, cl, cok, D9, k9⟩
        have jw : nameOk (Txt.join Str.empty (cs.map cand.oneS')) = true := by
          have e9 := join_signs cs
          refine nameOk_of ?_ ?_ (fun x hx => ?_)
          · rw [← len_cps, e9]; omega
          · rw [← len_cps, e9]; omega
          · rw [e9] at hx
            exact cok x hx
        refine ⟨_, L, cs.map cand.oneS', rfl, rfl, .inl (SqL.of d9), ?_, ?_⟩
        · have e0 : ("" : Str).length = 0 := by decide +kernel
          have hs := sum_le (fun y : Str => y.length) (b := 1) (cs.map cand.oneS') fun x hx => by
            obtain ⟨x', _, rfl⟩ := List.mem_map.mp hx
            exact Nat.le_refl 1
          rw [List.length_map] at hs ⊢
          rw [e0]
          omega
        rw [e_eq]
        obtain ⟨wd, hwd, hwk⟩ : ∃ wd, wd = Txt.join Str.empty (cs.map cand.oneS') ∧ nameOk wd = true := ⟨_, rfl, jw⟩
        rw [← hwd]
        have lT := k9 _ _ hnl hgl l8
        have oT := k9 _ _ hno hgo o8
        have kT : Kp d g H H9 := k48.trans k9
        have DT : Dw ns d g c (b + 20 * i + 15) H9 := D9.mono (by omega)
        generalize H9 = HT at lT oT kT DT ⊢
      case' B =>
        obtain ⟨wd, hwd, hwk⟩ : ∃ wd, wd = w0 ∧ nameOk wd = true := ⟨_, rfl, hw0⟩
        rw [← hwd]
        have lT := l6
        have oT := o6
        have kT := k46
        have DT : Dw ns d g c (b + 20 * i + 15) H6 := D6.mono (by omega)
        generalize H6 = HT at lT oT kT DT ⊢
      all_goals
        refine ⟨_, rfl, _, rfl, l, _, rfl, .inl (SqL.of lT), rfl, strs_flat ws, _, rfl, ?_⟩
        rw [inV_strs]
        refine ite2 (fun e => ?_) (fun e => ?_)
        · have hwl := (name_len hwk).2
          refine ⟨_, rfl, letters, rfl, fun D1 hD1 => ?_⟩
          refine lc_it walk_str (fun i' H' => H' D1 = some (.lst (((letters.cps.toList.take i').map (cand wd)).map V.str)) ∧ Ext HT H') ⟨upd_same, Ext.new hD1⟩ (fun _ _ _ _ => trivial) ?_ ?_
          · rintro i' y H1' H2' hi' ⟨hd', he'⟩ ⟨rfl, c', hc', rfl⟩
            have hc2 := cps_at hc'
            refine ⟨rfl, yes_of ?_⟩
            have h6 := cut6 wd
            refine ⟨_, rfl, 6, rfl, wd, rfl, by rw [sizeLine_eq]; omega, _, _, rfl, rfl, by rw [z_len, sizeLine_eq]; omega, _, rfl, _, _, rfl, rfl, by rw [strlen, z_len, sizeLine_eq]; show _ + 1 + 1 ≤ _; omega, _, hd', ?_, ?_, fun a u ha => ?_⟩
            · have : letters.cps.toList.length = 26 := by decide +kernel
              rw [List.length_map, List.length_map, List.length_take]
              exact small1000 (by omega)
            · rw [upd_same, take_succ_map (cand wd) hc2, List.map_append]
              rfl
            · rw [upd_ne (ne_of_none ha hD1)]
              exact he' _ _ ha
          rintro H1' ⟨hd', he'⟩
          rw [← cps_len, List.take_length] at hd'
          have hd' : H1' D1 = some (.lst ((cands wd).map V.str)) := hd'
          have oT1 := he' _ _ oT
          have lT1 := he' _ _ lT
          refine ⟨D1, rfl, ⟨_, SqL.of hd'⟩, fun D2 hD2 => ?_⟩
          refine lc_it walk_list (fun i' H' => H' D2 = some (.lst ((((cands wd).take i').filter (fun y => !decide (y ∈ ws))).map V.str)) ∧ Ext H1' H') ⟨upd_same, Ext.new hD2⟩ (fun i H' _ ⟨_, e⟩ => SqL.of (e _ _ hd')) ?_ ?_
          · rintro i' y H2' H3' hi' ⟨d2, k2⟩ ⟨rfl, hy⟩
            rw [List.getElem?_map] at hy
            obtain ⟨x, hx, rfl⟩ := Option.map_eq_some_iff.mp hy
            have ef := filter_take (fun y => !decide (y ∈ ws)) hx
            refine ⟨rfl, _, rfl, _, rfl, l, _, rfl, .inl (SqL.of (k2 _ _ lT1)), rfl, strs_flat ws, ?_⟩
            show ∃ b, V.bl (!inV (.str x) (ws.map V.str)) = V.bl b ∧ _
            rw [inV_strs]
            refine ⟨_, rfl, ite2 (fun e => ?_) (fun e => ?_)⟩
            · rw [if_pos e] at ef
              refine ⟨_, rfl, _, d2, ?_, ?_, fun a u ha => ?_⟩
              · have h1 := List.length_filter_le (fun y => !decide (y ∈ ws)) ((cands wd).take i')
                rw [List.length_take, cands_len] at h1
                rw [List.length_map]
                exact small1000 (by omega)
              · rw [upd_same, ef, List.map_append]
                rfl
              · rw [upd_ne (ne_of_none ha hD2)]
                exact k2 _ _ ha
            · rw [if_neg e, List.append_nil] at ef
              exact ⟨by rw [ef]; exact d2, k2⟩
          rintro H2' ⟨d2, k2⟩
          rw [List.length_map, List.take_length] at d2
          obtain ⟨w1, rst, e1, m1, n1⟩ := fresh_cand wd (fs := ws) (by omega)
          rw [e1] at d2
          have w1ok : nameOk w1 = true := by
            obtain ⟨c', hc', rfl⟩ := List.mem_map.mp m1
            exact cand_ok (lo_of hwk) hc'
          refine ⟨D2, _, _, V.str w1, rfl, rfl, SqL.of d2, (show atI (V.str w1 :: rst.map V.str) ((0 : Nat) : Int) = some (V.str w1) from atI_nat rfl), ?_⟩
          have lT2 := k2 _ _ lT1
          refine ⟨_, rfl, .inl ⟨rfl, _, SqL.of lT2⟩, _, rfl, l, _, _, rfl, rfl, lT2, by rw [List.length_map]; exact small1000 (by omega), ?_⟩
          exact fin _ _ _ w1ok n1 (k2 _ _ oT1) lT2 ((DT.keep fun a u ha => k2 _ _ (he' _ _ ha)).mono (by omega)) (kT.trans (Kp.of fun a u ha => k2 _ _ (he' _ _ ha)))
        · have e : wd ∉ ws := fun m => e (decide_eq_true m)
          refine ⟨_, rfl, .inl ⟨rfl, _, SqL.of lT⟩, _, rfl, l, _, _, rfl, rfl, lT, by rw [List.length_map]; exact small1000 (by omega), ?_⟩
          exact fin _ _ _ hwk e oT lT (DT.mono (by omega)) kT
    · rintro σ H4 ⟨v5, v6, ws, rfl, o4, l4, wl, wn, wok, D4, k4⟩
      exact ⟨_, rfl, k l ws H4 hlH hnl hgl l4 wl wn wok (D4.mono (by omega)) k4⟩
end
theorem RowsAt.kp {ns : List Int} {d g c : Addr} {b : Nat} {H H' : Hp} {vs : List V} {rs : List FRow} (h : RowsAt H vs rs) (D : Dw ns d g c b H) (k : Kp d g H H') : RowsAt H' vs rs := by
  obtain ⟨⟨gs, l, t, hd, hg, _, _⟩, _⟩ := D
  exact ⟨h.1, fun i r hr => by
    obtain ⟨p, a, e⟩ := h.2 i r hr
    exact ⟨p, a, k _ _ (ne_of e hd (by intro z; cases z)) (ne_of e hg (by intro z; cases z)) e⟩⟩
theorem RowsAt.snoc {H : Hp} {vs : List V} {rs : List FRow} {p : Addr} {r : FRow} (h : RowsAt H vs rs) (hp : H p = some (.tup [.str r.1, parV r.2])) : RowsAt H (vs ++ [V.ref p]) (rs ++ [r]) := by
  refine ⟨by rw [List.length_append, List.length_append, h.1]; rfl, fun i x hx => ?_⟩
  by_cases e : i < rs.length
  · rw [List.getElem?_append_left e] at hx
    rw [List.getElem?_append_left (by rw [h.1]; exact e)]
    exact h.2 i x hx
  · rw [List.getElem?_append_right (by omega)] at hx
    rw [List.getElem?_append_right (by rw [h.1]; omega), h.1]
    have z : i - rs.length = 0 := by
      have := (List.getElem?_eq_some_iff.mp hx).1
      simpa using this
    rw [z] at hx ⊢
    cases hx
    exact ⟨p, rfl, hp⟩
section
variable {P : Program} {w : World} {K : PySem.W.Frag} {mg : Str → Option Value} {base : Heap}
/-! ### _law_forest -/
def spForest (ns : List Int) : Sp := fun vs H Q _ => ∃ (d g c : Addr) (b : Nat) (m : Int), vs = [.ref d, .int m] ∧ Dw ns d g c b H ∧ b ≤ 800000000 ∧ 1 ≤ m ∧ m ≤ 8 ∧
  ∀ (l : Addr) (xs : List V) (rs : List FRow) (H' : Hp), H l = none → l ≠ d → l ≠ g → H' l = some (.lst xs) → RowsAt H' xs rs → Good rs → Dw ns d g c (b + 300) H' → Kp d g H H' → Q (.ref l) H'
abbrev nForest : List Str := ["_law_state", "_law_most", "_law_rows", "_law_name", "_law_parents", "_law_row"]
theorem scForest : FnScope nForest ["_law_state", "_law_most"] (defScope sForest) := ⟨rfl, rfl, rfl, by decide +kernel, rfl, by decide +kernel, by decide +kernel⟩
theorem ok_forest {f fT fP fW : Addr} {fd fdT fdP fdW : FuncData} (ns : List Int) (F : Fun K "_law_forest" "_law_forest" sForest f fd) (R : Draw P w K mg base ns fT fP fdT fdP)
    (GW : FnOk P w K mg base CX0 4 fW fdW ["_law_state", "_law_size"] (spWords ns)) (bW : Binds K fdW ["_law_state", "_law_size"] []) (kW : PySem.W.keepIn K (.ref fW) = true) (mW : mg "_law_words" = some (.ref fW)) :
    FnOk P w K mg base CX0 5 f fd ["_law_state", "_law_most"] (spForest ns) := by
  refine F.ok scForest (fun vs H Q E h => ?_) (fun cdv A outer s H vs Q E hr h => ?_)
  · obtain ⟨d, g, c, b, m, rfl, _⟩ := h
    rfl
  · obtain ⟨d, g, c, b, m, rfl, D, hb, m1, m8, k⟩ := h
    have hu := hu_of hr
    have nd := scForest.nd
    have hr2 : Room 2 (A.deeper (envOfC "_law_forest" (defScope sForest) s.heap.objs.size f cdv)) := hr.mono (by decide)
    have hr3 : Room 3 (A.deeper (envOfC "_law_forest" (defScope sForest) s.heap.objs.size f cdv)) := hr.mono (by decide)
    refine ⟨_, pss_cons (ps_set (i := 2) nd rfl (.inl rfl) (pe_lst pa_nil))
      (pss_cons (ps_for PassesOwn.never rfl (pi_list (pe_call GW hr rfl mW kW bW .nil pass0 (pa_cons (pv 0) (pa_cons (pe_op op_add pe_int (pe_call R.GT hr2 rfl R.mT R.kT R.bT .nil pass0 (pa_cons (pv 0) (pa_cons (pv 1) pa_nil)))) pa_nil)))) (pg_name (i := 3) nd rfl (.inl rfl))
        (pss_cons (ps_set (i := 4) nd rfl (.inl rfl) (pe_op op_cat (pe_lst (pa_cons pe_non pa_nil)) (pe_lc (own := [("_law_row", 5)]) (g := gName 5) (tt := tYes) rfl nd (pi_list (pv 2)) (blkOk_by (N := nForest) (sc := defScope sForest) (by decide +kernel))
            (fun _ _ _ _ _ => pg_name (i := 5) nd rfl (.inl rfl)) (fun _ _ _ _ _ => pts_nil) (fun _ _ _ _ _ => pe_ix (r := rIxT K) ix_tup (pv 5) pe_int (fun _ _ => rfl)))))
        (pss_one (ps_expr (pe_bm PySem.F.plainAttrs_list PySem.F.slot_list_append PySem.F.type_list_append mt_append (pv 2) (pa_cons (pe_tup (pa_cons (pv 3) (pa_cons (pe_call R.GP hr3 rfl R.mP R.kP R.bP .nil pass0 (pa_cons (pv 0) (pa_cons (pv 4) pa_nil))) pa_nil))) pa_nil))))))
      (pss_one (ps_ret (pv 2)))), ?_⟩
    refine ⟨Nat.zero_le _, fun l hl => ?_⟩
    have Dl := D.new (o := .lst []) hl
    have hnl : l ≠ d := D.nd hl
    have hgl : l ≠ g := D.ng hl
    have hcl : l ≠ c := fun e => by rw [e, D.cl] at hl; cases hl
    have kl : Kp d g H (upd H l (.lst [])) := Kp.new hl
    have hl1 : (upd H l (.lst [])) l = some (.lst []) := upd_same
    show tSeq _ _ _ _ (upd H l (.lst []))
    generalize upd H l (.lst []) = H1 at Dl kl hl1 ⊢
    refine ⟨_, rfl, _, rfl, _, rfl, d, g, c, _, m, rfl, Dl, by omega, by omega, by omega, fun r H2 r0 r1 D2 k2 => ?_⟩
    refine ⟨1, r, rfl, rfl, d, g, c, _, 1 + r, rfl, D2, by omega, by omega, by omega, fun lw ws H3 lw0 lwd lwg hlw wl wn wok D3 k3 => ?_⟩
    have l3 := k3 _ _ hnl hgl (k2 _ _ hnl hgl hl1)
    have k03 : Kp d g H H3 := (kl.trans k2).trans k3
    refine ⟨lw, rfl, ⟨_, SqL.of hlw⟩, for_it walk_list (fun i σ H' => ∃ (v3 v4 : Option V) (xs : List V) (rs : List FRow), σ = [some (.ref d), some (.int m), some (.ref l), v3, v4, none] ∧ H' l = some (.lst xs) ∧ H' lw = some (.lst (ws.map V.str)) ∧
        RowsAt H' xs rs ∧ fNames rs = ws.take i ∧ GoodF [] rs ∧ Dw ns d g c (b + 1 + 200 + 2 * i) H' ∧ Kp d g H H')
      ⟨none, none, [], [], rfl, l3, hlw, ⟨rfl, fun i r h => by simp at h⟩, rfl, trivial, D3, k03⟩ (fun i σ H' _ ⟨_, _, _, _, _, _, e, _⟩ => SqL.of e) ?_ ?_⟩
    · rintro i y σ H4 H5 hi ⟨v3, v4, xs, rs, rfl, l4, lw4, R4, fn, gf, D4, k4⟩ ⟨rfl, hy⟩
      rw [List.length_map] at hi
      rw [List.getElem?_map, List.getElem?_eq_getElem hi] at hy
      cases hy
      have hrl : rs.length = i := by
        have := congrArg List.length fn
        rw [fNames, List.length_map, List.length_take] at this
        omega
      have hi8 : i ≤ 8 := by omega
      refine ⟨by show 1 ≤ sizeLine; decide, fun a ha => ?_⟩
      have Da := D4.new (o := .lst [.non]) ha
      have nda : a ≠ d := D4.nd ha
      have nga : a ≠ g := D4.ng ha
      have ka : Ext H5 (upd H5 a (.lst [.non])) := Ext.new ha
      have ha1 : (upd H5 a (.lst [.non])) a = some (.lst [.non]) := upd_same
      have l5 := ka _ _ l4
      have R5 := R4.ext ka
      refine ⟨_, rfl, l, rfl, ⟨_, SqL.of l5⟩, fun D' hD' => ?_⟩
      refine lc_it walk_list (fun i' H' => H' D' = some (.lst (((fNames rs).take i').map V.str)) ∧ Ext (upd H5 a (.lst [.non])) H') ⟨upd_same, Ext.new hD'⟩ (fun i' H' _ ⟨_, e⟩ => SqL.of (e _ _ l5)) ?_ ?_
      · rintro i' y H6 H7 hi' ⟨d6, k6⟩ ⟨rfl, hy⟩
        have hir : i' < rs.length := by have := R4.1; omega
        obtain ⟨p, h1, h2⟩ := R5.2 i' _ (List.getElem?_eq_getElem hir)
        rw [h1] at hy
        cases hy
        refine ⟨rfl, yes_of ?_⟩
        refine ⟨_, rfl, p, _, _, _, rfl, rfl, SqT.of (k6 _ _ h2), (show atI [V.str rs[i'].1, parV rs[i'].2] ((0 : Nat) : Int) = some (V.str rs[i'].1) from atI_nat rfl), _, d6, ?_, ?_, fun b' o hb' => ?_⟩
        · rw [List.length_map, List.length_take, fNames, List.length_map]
          exact small1000 (by omega)
        · rw [upd_same, List.take_add_one, List.map_append]
          have : (fNames rs)[i']? = some rs[i'].1 := by rw [fNames, List.getElem?_map, List.getElem?_eq_getElem hir]; rfl
          rw [this]
          rfl
        · rw [upd_ne (ne_of_none hb' hD')]
          exact k6 _ _ hb'
      rintro H6 ⟨d6, k6⟩
      have e0 : (fNames rs).take xs.length = fNames rs := by
        rw [R4.1]
        exact List.take_of_length_le (by rw [fNames, List.length_map]; exact Nat.le_refl _)
      rw [e0] at d6
      refine ⟨a, D', _, _, rfl, rfl, k6 _ _ ha1, d6, ?_, fun q hq => ?_⟩
      · rw [List.length_map, fNames, List.length_map, sizeLine_eq]
        show 1 + _ ≤ _
        omega
      have D6 : Dw ns d g c (b + 1 + 200 + 2 * i) H6 := Da.keep k6
      have k56 : Ext H5 H6 := ka.trans k6
      have Dq := D6.new (o := .lst ([.non] ++ (fNames rs).map V.str)) hq
      have hq1 : (upd H6 q (.lst ([.non] ++ (fNames rs).map V.str))) q = some (.lst ([.non] ++ (fNames rs).map V.str)) := upd_same
      have kq : Ext H5 (upd H6 q (.lst ([.non] ++ (fNames rs).map V.str))) := k56.trans (Ext.new hq)
      have ndq : q ≠ d := D6.nd hq
      have ngq : q ≠ g := D6.ng hq
      show tSeq _ _ _ _ (upd H6 q (.lst ([.non] ++ (fNames rs).map V.str)))
      generalize upd H6 q (.lst ([.non] ++ (fNames rs).map V.str)) = H7 at Dq hq1 kq ⊢
      refine ⟨_, rfl, .inl ⟨rfl, _, SqL.of (kq _ _ l4)⟩, _, rfl, _, rfl, _, rfl, d, g, c, _, Dq, by omega, .inl ⟨q, _, rfl, hq1, ndq, ngq, ?_, ?_, fun x H8 hx D8 k8 => ?_⟩⟩
      · show 0 < _ + 1
        omega
      · rw [List.length_append, List.length_map, fNames, List.length_map]
        show 1 + _ ≤ _
        omega
      obtain ⟨pq, rfl, hpq⟩ : ∃ pq : Option Str, x = parV pq ∧ ∀ mm, pq = some mm → mm ∈ fNames rs := by
        rcases List.mem_append.mp hx with hx | hx
        · rw [List.mem_singleton.mp hx]
          exact ⟨none, rfl, fun mm e => by cases e⟩
        · obtain ⟨mm, hm, rfl⟩ := List.mem_map.mp hx
          exact ⟨some mm, rfl, fun m' e => by cases e; exact hm⟩
      refine ⟨by show 2 ≤ sizeLine; decide, fun t ht => ?_⟩
      have R8 : RowsAt H8 xs rs := (R4.ext kq).kp Dq k8
      have R9 := RowsAt.snoc (r := (ws[i], pq)) (R8.ext (Ext.new (o := .tup [.str ws[i], parV pq]) ht)) upd_same
      have l8 := k8 _ _ hnl hgl (kq _ _ l4)
      have l9 := new_same (o := .tup [.str ws[i], parV pq]) ht _ _ l8
      have lw8 := k8 _ _ lwd lwg (kq _ _ lw4)
      have lw9 := new_same (o := .tup [.str ws[i], parV pq]) ht _ _ lw8
      have D9 := D8.new (o := .tup [.str ws[i], parV pq]) ht
      have nlw : lw ≠ l := fun e => by rw [e] at lw0; rw [k2 _ _ hnl hgl hl1] at lw0; cases lw0
      have k9 : Kp d g H (upd H8 t (.tup [.str ws[i], parV pq])) := ((k4.trans (Kp.of kq)).trans k8).trans (Kp.new ht)
      generalize upd H8 t (.tup [.str ws[i], parV pq]) = H9 at R9 l9 lw9 D9 k9 ⊢
      have xl : xs.length = rs.length := R4.1
      refine ⟨l, _, _, rfl, rfl, l9, small1000 (by omega), ?_⟩
      refine ⟨_, _, xs ++ [.ref t], rs ++ [(ws[i], pq)], rfl, upd_same, by rw [upd_ne nlw]; exact lw9, ⟨R9.1, fun j r' hj => ?_⟩, ?_, good_snoc gf ?_, (D9.put l9 hnl hgl hcl).mono (by omega), fun a' o n1 n2 ha' => ?_⟩
      · obtain ⟨p, b1, b2⟩ := R9.2 j r' hj
        refine ⟨p, b1, ?_⟩
        rw [upd_ne (ne_of b2 l9 (by intro z; cases z))]
        exact b2
      · show fNames (rs ++ [(ws[i], pq)]) = _
        rw [fNames, List.map_append, List.take_add_one, List.getElem?_eq_getElem hi]
        show fNames rs ++ [ws[i]] = _
        rw [fn]
        rfl
      · rw [List.nil_append, fn]
        refine ⟨wok _ (List.getElem_mem hi), fun hm => ?_, fun mm e => by rw [← fn]; exact hpq mm e⟩
        have hm : ws[i] ∈ ws.take i := hm
        obtain ⟨j, hj⟩ := List.mem_iff_getElem?.mp hm
        have hji : j < i := by
          have := (List.getElem?_eq_some_iff.mp hj).1
          rw [List.length_take] at this
          omega
        rw [List.getElem?_take_of_lt hji] at hj
        have hjl : j < ws.length := by omega
        rw [List.getElem?_eq_getElem hjl] at hj
        exact (List.pairwise_iff_getElem.mp wn) j i hjl hi hji (Option.some.inj hj)
      · rw [upd_ne (ne_of_none ha' hl)]
        exact k9 _ _ n1 n2 ha'
    · rintro σ H4 ⟨v3, v4, xs, rs, rfl, l4, lw4, R4, fn, gf, D4, k4⟩
      refine ⟨_, rfl, ?_⟩
      have hrl : rs.length = ws.length := by
        have := congrArg List.length fn
        rw [fNames, List.length_map, List.length_take, List.length_map] at this
        omega
      rw [List.length_map] at D4
      exact k l xs rs H4 hl hnl hgl l4 R4 ⟨by omega, by omega, gf⟩ (D4.mono (by omega)) k4
end
end Lw

set_option Elab.async false
set_option linter.all false
set_option maxRecDepth 100000
set_option maxHeartbeats 4000000
/-! readings that ask more than they need; a list or a tuple walked; dicts of numbers by names -/
namespace Gu
open L2 hiding Ext
open PySem PySem.Spec PyProof.Rows Gn Gk
theorem wT {X : Cx} {e : Expr} {t t' : TT} (h : PT X e t) (w : ∀ σ H k, t' σ H k → t σ H k) : PT X e t' :=
  ⟨fun pins s σ H Q I z => h.run pins s σ H Q I (w _ _ _ z)⟩
theorem wE {X : Cx} {e : Expr} {t t' : TE} (h : PE X e t) (w : ∀ σ H k, t' σ H k → t σ H k) : PE X e t' :=
  ⟨fun pins s σ H Q I z => h.run pins s σ H Q I (w _ _ _ z)⟩
theorem wS {X : Cx} {e : Stmt} {t t' : TS} (h : PS X e t) (w : ∀ D σ H, t' D σ H → t D σ H) : PS X e t' :=
  ⟨fun pins s σ H D I z => h.run pins s σ H D I (w _ _ _ z)⟩
theorem wI {X : Cx} {tg e : Expr} {t t' : TI} (h : PI X tg e t) (w : ∀ σ H R, t' σ H R → t σ H R) : PI X tg e t' :=
  ⟨fun pins s σ H R I z => h.run pins s σ H R I (w _ _ _ z)⟩
theorem iOr {X : Cx} {tg e : Expr} {t t' : TI} (h : PI X tg e t) (h' : PI X tg e t') : PI X tg e (fun σ H R => t σ H R ∨ t' σ H R) :=
  ⟨fun pins s σ H R I z => z.elim (h.run pins s σ H R I) (h'.run pins s σ H R I)⟩
/-- a list or a tuple -/
def ClAt (H : Hp) (a : Addr) (xs : List V) : Prop := H a = some (.lst xs) ∨ H a = some (.tup xs)
theorem ClAt.ext {H H' : Hp} {a : Addr} {xs : List V} (h : ClAt H a xs) (k : Ext H H') : ClAt H' a xs := h.elim (fun e => .inl (k _ _ e)) (fun e => .inr (k _ _ e))
theorem ClAt.sq {K : PySem.W.Frag} {H : Hp} {a : Addr} {xs : List V} (h : ClAt H a xs) : SqL K H a xs ∨ SqT K H a xs := h.elim (fun e => .inl (SqL.of e)) (fun e => .inr (SqT.of e))
theorem wW {J : It} {n : Nat} {G G' : Hp → Prop} {Y : Nat → Hp → V → Hp → Prop} (h : Walk J n G Y) (k : ∀ H, G' H → G H) : Walk J n G' Y :=
  ⟨fun i H hi g => h.goes i H hi (k H g), fun H g => h.stops H (k H g), fun i H x H' hi g y => h.yields i H x H' hi (k H g) y⟩
/-- what a walk over it gives, wherever it stands as it did -/
def iSeqV (i : Nat) : TI := fun σ H R => ∃ (a : Addr) (xs : List V), σ[i]? = some (some (.ref a)) ∧ ClAt H a xs ∧ ∀ J, Walk J xs.length (fun H' => H' a = H a) (YAt xs) → R J H
theorem pi_seqV {X : Cx} {tg e : Expr} {i : Nat} (h : PE X e (tVar i)) : PI X tg e (iSeqV i) := by
  refine wI (iOr (pi_list h) (pi_tup h)) fun σ H R ⟨a, xs, hi, hc, k⟩ => ?_
  rcases hc with hc | hc
  · exact .inl ⟨_, hi, a, rfl, ⟨_, SqL.of hc⟩, k _ (wW walk_list fun H' e => SqL.of (e.trans hc))⟩
  · exact .inr ⟨_, hi, a, rfl, ⟨_, SqT.of hc⟩, k _ (wW walk_tup fun H' e => SqT.of (e.trans hc))⟩
/-- a dict of numbers, by the names in their order -/
def dN (ns : List Str) (t : Str → Int) : List (Key × V) := ns.map fun n => ((Sum.inr n : Key), V.int (t n))
def at_ (t : Str → Int) (n : Str) (z : Int) : Str → Int := fun m => if m = n then z else t m
theorem at_same {t : Str → Int} {n : Str} {z : Int} : at_ t n z n = z := if_pos rfl
theorem at_ne {t : Str → Int} {n m : Str} {z : Int} (h : m ≠ n) : at_ t n z m = t m := if_neg h
theorem dN_get {t : Str → Int} {n : Str} : ∀ {ns : List Str}, n ∈ ns → valV (dN ns t) (Sum.inr n : Key) = some (.int (t n))
  | [], h => by cases h
  | m :: r, h => by
    show valV (((Sum.inr m : Key), V.int (t m)) :: dN r t) _ = _
    by_cases e : m = n
    · subst e; exact valV_pos rfl
    · rw [valV_neg (fun z => e (Sum.inr.inj z))]
      exact dN_get ((List.mem_cons.mp h).resolve_left fun z => e z.symm)
theorem dN_put {t : Str → Int} {n : Str} {z : Int} {ns : List Str} (h : n ∈ ns) : putK (dN ns t) (Sum.inr n : Key) (.int z) = dN ns (at_ t n z) := by
  have e : ((dN ns t).any fun kv => decide (kv.1 = (Sum.inr n : Key))) = true := by
    unfold dN
    rw [List.any_map, List.any_eq_true]
    exact ⟨n, h, by simp⟩
  unfold putK
  rw [if_pos e]
  unfold dN
  rw [List.map_map]
  refine List.map_congr_left fun m hm => ?_
  show (if (Sum.inr m : Key) = Sum.inr n then ((Sum.inr m : Key), V.int z) else ((Sum.inr m : Key), V.int (t m))) = _
  by_cases em : m = n
  · subst em
    rw [if_pos rfl, at_same]
  · rw [if_neg (fun z => em (Sum.inr.inj z)), at_ne em]
theorem dN_len {ns : List Str} {t : Str → Int} : (dN ns t).length = ns.length := by unfold dN; rw [List.length_map]
/-- a dict of numbers, by some names -/
def dB (bs : List (Str × Int)) : List (Key × V) := bs.map fun p => ((Sum.inr p.1 : Key), V.int p.2)
theorem dB_dN (ns : List Str) (t : Str → Int) : dB (ns.map fun n => (n, t n)) = dN ns t := by unfold dB dN; rw [List.map_map]; rfl
theorem dB_get : ∀ {bs : List (Str × Int)} {p : Str × Int}, (bs.map (·.1)).Nodup → p ∈ bs → valV (dB bs) (Sum.inr p.1 : Key) = some (.int p.2)
  | [], _, _, h => by cases h
  | q :: r, p, hn, h => by
    show valV (((Sum.inr q.1 : Key), V.int q.2) :: dB r) _ = _
    obtain ⟨n1, n2⟩ := List.nodup_cons.mp (show (q.1 :: r.map (·.1)).Nodup from hn)
    rcases List.mem_cons.mp h with rfl | h
    · exact valV_pos rfl
    · have ne : ¬ q.1 = p.1 := fun e => n1 (by rw [e]; exact List.mem_map.mpr ⟨p, h, rfl⟩)
      rw [valV_neg (fun z => ne (Sum.inr.inj z))]
      exact dB_get n2 h
theorem dB_none {n : Str} : ∀ {bs : List (Str × Int)}, n ∉ bs.map (·.1) → valV (dB bs) (Sum.inr n : Key) = none
  | [], _ => rfl
  | q :: r, h => by
    show valV (((Sum.inr q.1 : Key), V.int q.2) :: dB r) _ = _
    have ne : ¬ q.1 = n := fun e => h (by rw [← e]; exact List.mem_cons_self ..)
    rw [valV_neg (fun z => ne (Sum.inr.inj z))]
    exact dB_none fun m => h (List.mem_cons_of_mem _ m)
/-- pairs of a name and a number, as tuples in the heap -/
def CsAt (H : Hp) (vs : List V) (cs : List (Str × Int)) : Prop := vs.length = cs.length ∧ ∀ (i : Nat) (c : Str × Int), cs[i]? = some c → ∃ p, vs[i]? = some (V.ref p) ∧ H p = some (.tup [.str c.1, .int c.2])
theorem CsAt.ext {H H' : Hp} {vs : List V} {cs : List (Str × Int)} (h : CsAt H vs cs) (k : Ext H H') : CsAt H' vs cs :=
  ⟨h.1, fun i c hc => by obtain ⟨p, a, b⟩ := h.2 i c hc; exact ⟨p, a, k _ _ b⟩⟩
theorem CsAt.get {H : Hp} {vs : List V} {cs : List (Str × Int)} (h : CsAt H vs cs) {i : Nat} {x : V} (hx : vs[i]? = some x) : ∃ (c : Str × Int) (p : Addr), cs[i]? = some c ∧ x = .ref p ∧ H p = some (.tup [.str c.1, .int c.2]) := by
  have hi : i < cs.length := by rw [← h.1]; exact (List.getElem?_eq_some_iff.mp hx).1
  obtain ⟨p, a, b⟩ := h.2 i _ (List.getElem?_eq_getElem hi)
  rw [hx] at a
  cases a
  exact ⟨_, p, List.getElem?_eq_getElem hi, rfl, b⟩
theorem CsAt.nil {H : Hp} : CsAt H [] [] := ⟨rfl, fun i c h => by cases h⟩
theorem CsAt.snoc {H : Hp} {vs : List V} {cs : List (Str × Int)} {p : Addr} {c : Str × Int} (h : CsAt H vs cs) (hp : H p = some (.tup [.str c.1, .int c.2])) : CsAt H (vs ++ [V.ref p]) (cs ++ [c]) := by
  refine ⟨by rw [List.length_append, List.length_append, h.1]; rfl, fun i c' hc => ?_⟩
  rcases Nat.lt_or_ge i cs.length with hi | hi
  · rw [List.getElem?_append_left hi] at hc
    rw [List.getElem?_append_left (by rw [h.1]; exact hi)]
    exact h.2 i c' hc
  · rw [List.getElem?_append_right hi] at hc
    rw [List.getElem?_append_right (by rw [h.1]; exact hi), h.1]
    cases e : i - cs.length with
    | zero => rw [e] at hc; cases hc; exact ⟨p, rfl, hp⟩
    | succ k => rw [e] at hc; cases hc
theorem CsAt.kp {ns : List Int} {d g c : Addr} {b : Nat} {H H' : Hp} {vs : List V} {cs : List (Str × Int)} (h : CsAt H vs cs) (D : Dw ns d g c b H) (k : Kp d g H H') : CsAt H' vs cs := by
  obtain ⟨⟨gs, l, t, hd, hg, _, _⟩, _⟩ := D
  exact ⟨h.1, fun i r hr => by
    obtain ⟨p, a, e⟩ := h.2 i r hr
    exact ⟨p, a, k _ _ (ne_of e hd (by intro z; cases z)) (ne_of e hg (by intro z; cases z)) e⟩⟩
/-- a dict that is walked is locked meanwhile -/
theorem lock_ext {H H' : Hp} {d : Addr} {u : HO} {od : Obj} (hd : H d = some u) (k : Ext (upd H d (.frz od u)) H') : Ext H (upd H' d u) := fun a o e => by
  by_cases n : a = d
  · subst n
    rw [upd_same, ← hd, e]
  · rw [upd_ne n]
    exact k _ _ (by rw [upd_ne n]; exact e)
theorem lock_in {H : Hp} {d a : Addr} {u o : HO} {od : Obj} (n : a ≠ d) (e : H a = some o) : upd H d (.frz od u) a = some o := by rw [upd_ne n]; exact e
theorem keys_none : ∀ {kvs : List (Key × V)} {k : Key}, k ∉ kvs.map (·.1) → valV kvs k = none
  | [], _, _ => rfl
  | p :: r, k, h => by
    have h1 : ¬ p.1 = k := fun e => h (by rw [← e]; exact List.mem_cons_self ..)
    rw [valV_neg h1]
    exact keys_none fun m => h (List.mem_cons_of_mem _ m)
theorem merge_app : ∀ (more acc : List (Key × V)), ((acc ++ more).map (·.1)).Nodup → mergeK acc more = acc ++ more
  | [], acc, _ => by rw [List.append_nil]; rfl
  | p :: r, acc, h => by
    have hn : p.1 ∉ acc.map (·.1) := by
      intro m
      rw [List.map_append] at h
      exact (List.nodup_append.mp h).2.2 _ m p.1 (List.mem_cons_self ..) rfl
    show mergeK (putK acc p.1 p.2) r = _
    rw [putK_new _ (keys_none hn), merge_app r (acc ++ [(p.1, p.2)]) (by rw [List.append_assoc]; exact h), List.append_assoc]
    rfl
theorem merge_self {kvs : List (Key × V)} (h : (kvs.map (·.1)).Nodup) : mergeK [] kvs = kvs := merge_app kvs [] h
theorem nodup_inr {α : Type} (f : α → Str) : ∀ {l : List α}, (l.map f).Nodup → (l.map fun x => (Sum.inr (f x) : Key)).Nodup
  | [], _ => List.nodup_nil
  | a :: r, h => by
    obtain ⟨h1, h2⟩ := List.nodup_cons.mp (show (f a :: r.map f).Nodup from h)
    refine List.nodup_cons.mpr ⟨fun m => ?_, nodup_inr f h2⟩
    obtain ⟨b, hb, e⟩ := List.mem_map.mp m
    exact h1 (List.mem_map.mpr ⟨b, hb, Sum.inr.inj e⟩)
theorem ix_pos {n : Nat} {r : Int} (h0 : 0 ≤ r) (h1 : r < n) : seqIndex? r n = some r.toNat := (ixN_seq (by unfold ixN; rw [if_pos h0, if_pos h1])).1
end Gu

set_option Elab.async false
set_option linter.all false
set_option maxRecDepth 100000
set_option maxHeartbeats 4000000
/-! y = {k: v for ..}: a dict comprehension whose name is stored within its frame -/
namespace Gd
open L2 hiding Ext
open PySem PySem.Spec PyProof.Rows Gn Gk Gu
theorem ps_setDc {X : Cx} {i : Nat} {y : Str} {py : Pos} {kx vx tg iter : Expr} {ifs : List Expr} {scope : Scope} {own : List (Str × Nat)} {pos spos : Pos} {wi : TI} {g : TG} {tt : TT} {tk tv : TE}
    (hc : X.calm = true) (hN : X.N.Nodup) (hy : X.N[i]? = some y) (hyl : X.env.scope.names.lookup y = some .local)
    (hsw : swapsWith (.DictComp kx vx [{ target := tg, iter := iter, ifs := ifs, is_async := 0 }] scope pos) (some (.Name y py)) spos.line X.env = pure true)
    (hi : PI X tg iter wi) (ok : BlkOk X.N X.env.scope scope own)
    (hg : ∀ (s : Shared) (H : Hp) (C : Addr) (cl : List (Str × Addr)) (fp : List Addr), PG (X.blk s H scope (compEnvC scope cl C X.env) fp) tg g)
    (ht : ∀ (s : Shared) (H : Hp) (C : Addr) (cl : List (Str × Addr)) (fp : List Addr), PTs (X.blk s H scope (compEnvC scope cl C X.env) fp) ifs tt)
    (hk : ∀ (s : Shared) (H : Hp) (C : Addr) (cl : List (Str × Addr)) (fp : List Addr), PE (X.blk s H scope (compEnvC scope cl C X.env) fp) kx tk)
    (hv : ∀ (s : Shared) (H : Hp) (C : Addr) (cl : List (Str × Addr)) (fp : List Addr), PE (X.blk s H scope (compEnvC scope cl C X.env) fp) vx tv)
    (hf : ∀ (x : Value), foldedSetIterable iter X.env x = pure x := by intro x; rfl) :
    PS X (.Assign [.Name y py] (.DictComp kx vx [{ target := tg, iter := iter, ifs := ifs, is_async := 0 }] scope pos) spos) (tAsg (tDc wi g tt tk tv (own.map (·.2))) (gName i)) := by
  refine ⟨fun pins s σ H D I h => ?_⟩
  rw [exec_Assign_Name_used _ _ _ _ hsw]
  refine wpAny_bind (wpAny_standAt ?_)
  refine wpAny_bind ?_
  rw [arm_evalThenUse_DictComp]
  refine wpAny_bind ?_
  refine dc_core (Q := fun v H' => D.nx (σ.set i (some v)) H') hc hN I hi ok hg ht hk hv hf h fun Da C s' m H' J q hm fp => ?_
  obtain ⟨o, es, ep, ho, hd, r⟩ := id hm
  obtain ⟨f1, f2, f3, f4, f5, f6⟩ := fp
  have J' : L2.Inv X ((C, o) :: pins) σ H' s' := J.pins_of fun p hp => by
    rcases List.mem_cons.mp hp with rfl | hp
    · exact ⟨ho, f1, f2, f3, fun v e => by
        have e : o.data = Data.cell v := e
        rw [hd] at e; cases e⟩
    · exact J.pin p (List.mem_append.mpr (.inr hp))
  have G := (pg_name (X := X) (pos := py) (i := i) hN hy (.inl hyl) (.inr hyl)).run ((C, o) :: pins) s' σ H' (.ref Da) (.ref Da) D.nx J' rfl q
  refine wpAny_mono G (fun x s'' hh => ?_) (fun _ _ h => h)
  obtain ⟨σ2, H2, J2, q2⟩ := hh
  obtain ⟨p1, p2, _⟩ := J2.pin (C, o) (List.mem_append.mpr (.inr (List.mem_cons_self ..)))
  refine ⟨m, ⟨o, es, ep, p1, hd, r⟩, fun h' sb => ?_⟩
  have J3 : L2.Inv X pins σ2 H2 s'' := J2.pins_of fun p hp => J2.pin p (List.mem_append.mpr (.inr (List.mem_cons_of_mem _ hp)))
  refine wpAny_pure (wpAny_pure ⟨σ2, H2, ?_, q2⟩)
  exact J3.turned (it := C) (fun b u n e => by rw [sb.2 b n]; exact e) p2 f2 f4 f5 f6
/-- when the name is stored within -/
theorem sw_trueD {kx vx : Expr} {gs : List Comprehension} {scope : Scope} {pos py : Pos} {y : Str} {l : Nat} {env : Env}
    (hk : env.scope.kind = ScopeKind.function) (hy : env.scope.names.lookup y = some .local) (hl : (py.line == pos.line) = true)
    (ha : (scope.names.any fun x => match x with | (n, k) => n == y && (k == NameKind.local || k == NameKind.cell)) = false) :
    swapsWith (.DictComp kx vx gs scope pos) (some (.Name y py)) l env = pure true := by
  have h := sw_true (elt := kx) (gs := gs) (scope := scope) (pos := pos) (py := py) (y := y) (l := l) (env := env) hk hy hl ha
  exact h
end Gd

set_option Elab.async false
set_option linter.all false
set_option maxRecDepth 100000
set_option maxHeartbeats 4000000
namespace Lw
open L2 hiding Ext
open PySem PySem.Spec PyProof.Rows Gn Gr Gk Go Gt Gf Gu
/-! ### the mathematics: ancestors, totals, entitlements -/
def anc (rs : List FRow) (n : Str) : List Str := ancF rs 8 n
theorem ancF_fuel {rs : List FRow} (g : GoodF [] rs) : ∀ (k k' i : Nat) (r : FRow), rs[i]? = some r → i < k → i < k' → ancF rs k r.1 = ancF rs k' r.1
  | 0, _, _, _, _, h, _ => by omega
  | _ + 1, 0, _, _, _, _, h => by omega
  | k + 1, k' + 1, i, r, hi, h1, h2 => by
    rw [ancF_s, ancF_s, parOf_at (good_nodup g).1 (List.mem_of_getElem? hi)]
    cases e : r.2 with
    | none => rfl
    | some m =>
      obtain ⟨j, r', hj, hr, rfl⟩ := par_idx g hi e
      show r.1 :: ancF rs k r'.1 = r.1 :: ancF rs k' r'.1
      rw [ancF_fuel g k k' j r' hr (by omega) (by omega)]
theorem anc_call {rs : List FRow} (g : Good rs) {n : Str} (h : n ∈ fNames rs) : ∃ (i : Nat) (r : FRow), rs[i]? = some r ∧ r.1 = n ∧ ancF rs (i + 1) r.1 = anc rs n := by
  obtain ⟨r, hr, e⟩ := List.mem_map.mp h
  obtain ⟨i, hi⟩ := List.mem_iff_getElem?.mp hr
  have hl := (List.getElem?_eq_some_iff.mp hi).1
  refine ⟨i, r, hi, e, ?_⟩
  rw [← e]
  exact ancF_fuel g.2.2 _ _ i r hi (by omega) (by have := g.2.1; omega)
theorem ancF_mem {rs : List FRow} (g : GoodF [] rs) : ∀ (k : Nat) (r : FRow), r ∈ rs → ∀ m ∈ ancF rs k r.1, m ∈ fNames rs
  | 0, _, _, m, hm => by cases hm
  | k + 1, r, hr, m, hm => by
    rw [ancF_s, parOf_at (good_nodup g).1 hr] at hm
    rcases List.mem_cons.mp hm with rfl | hm
    · exact List.mem_map.mpr ⟨r, hr, rfl⟩
    · cases e : r.2 with
      | none => rw [e] at hm; cases hm
      | some p =>
        rw [e] at hm
        obtain ⟨i, hi⟩ := List.mem_iff_getElem?.mp hr
        obtain ⟨j, r', _, hr', rfl⟩ := par_idx g hi e
        exact ancF_mem g k r' (List.mem_of_getElem? hr') m hm
theorem anc_mem {rs : List FRow} (g : Good rs) {n m : Str} (h : n ∈ fNames rs) (hm : m ∈ anc rs n) : m ∈ fNames rs := by
  obtain ⟨r, hr, rfl⟩ := List.mem_map.mp h
  exact ancF_mem g.2.2 _ r hr m hm
theorem ancF_len (rs : List FRow) : ∀ (k : Nat) (n : Str), (ancF rs k n).length ≤ k
  | 0, _ => Nat.le_refl _
  | k + 1, n => by
    rw [ancF_s, List.length_cons]
    cases parOf rs n with
    | none => exact Nat.succ_le_succ (Nat.zero_le _)
    | some m => exact Nat.succ_le_succ (ancF_len rs k m)
theorem anc_len (rs : List FRow) (n : Str) : (anc rs n).length ≤ 8 := ancF_len rs 8 n
def addL (t : Str → Int) (ns : List Str) (z : Int) : Str → Int := ns.foldl (fun t n => at_ t n (t n + z)) t
theorem take_snoc {α : Type} {l : List α} {i : Nat} {c : α} (h : l[i]? = some c) : l.take (i + 1) = l.take i ++ [c] := by
  rw [List.take_add_one, h]; rfl
theorem addL_take {t : Str → Int} {ns : List Str} {z : Int} {i : Nat} {n : Str} (h : ns[i]? = some n) : addL t (ns.take (i + 1)) z = at_ (addL t (ns.take i) z) n (addL t (ns.take i) z n + z) := by
  rw [take_snoc h]
  unfold addL
  rw [List.foldl_append]
  rfl
def totF (rs : List FRow) (bs : List (Str × Int)) : Str → Int := bs.foldl (fun t p => addL t (anc rs p.1) p.2) (fun _ => 0)
theorem totF_take {rs : List FRow} {bs : List (Str × Int)} {i : Nat} {p : Str × Int} (h : bs[i]? = some p) : totF rs (bs.take (i + 1)) = addL (totF rs (bs.take i)) (anc rs p.1) p.2 := by
  rw [take_snoc h]
  unfold totF
  rw [List.foldl_append]
  rfl
def minL (c : Int) (l : List Int) : Int := l.foldl min c
theorem minL_mem : ∀ (l : List Int) (c : Int), minL c l = c ∨ minL c l ∈ l
  | [], c => .inl rfl
  | x :: r, c => by
    show minL (min c x) r = c ∨ minL (min c x) r ∈ x :: r
    rcases minL_mem r (min c x) with e | e
    · rw [e]
      by_cases h : c ≤ x
      · exact .inl (Int.min_eq_left h)
      · exact .inr (by rw [Int.min_eq_right (by omega)]; exact List.mem_cons_self ..)
    · exact .inr (List.mem_cons_of_mem _ e)
theorem minL_le : ∀ (l : List Int) (c : Int), minL c l ≤ c ∧ ∀ x ∈ l, minL c l ≤ x
  | [], c => ⟨Int.le_refl _, fun x h => by cases h⟩
  | y :: r, c => by
    obtain ⟨h1, h2⟩ := minL_le r (min c y)
    have a : min c y ≤ c := Int.min_le_left ..
    have b : min c y ≤ y := Int.min_le_right ..
    refine ⟨Int.le_trans h1 a, fun x hx => ?_⟩
    rcases List.mem_cons.mp hx with rfl | hx
    · exact Int.le_trans h1 b
    · exact h2 x hx
theorem minL_is {c m : Int} {l : List Int} (h : m ∈ c :: l) (k : ∀ y ∈ c :: l, m ≤ y) : m = minL c l := by
  obtain ⟨a, b⟩ := minL_le l c
  have h1 : minL c l ≤ m := by
    rcases List.mem_cons.mp h with rfl | h
    · exact a
    · exact b m h
  have h2 : m ≤ minL c l := by
    rcases minL_mem l c with e | e
    · rw [e]; exact k c (List.mem_cons_self ..)
    · exact k _ (List.mem_cons_of_mem _ e)
  omega
def eStep (rs : List FRow) (s : (Str → Int) × List Int) (c : Str × Int) : (Str → Int) × List Int :=
  (addL s.1 (anc rs c.1) (-minL c.2 ((anc rs c.1).map s.1)), s.2 ++ [minL c.2 ((anc rs c.1).map s.1)])
def eRun (rs : List FRow) (t : Str → Int) (cs : List (Str × Int)) : (Str → Int) × List Int := cs.foldl (eStep rs) (t, [])
theorem eRun_take {rs : List FRow} {t : Str → Int} {cs : List (Str × Int)} {i : Nat} {c : Str × Int} (h : cs[i]? = some c) : eRun rs t (cs.take (i + 1)) = eStep rs (eRun rs t (cs.take i)) c := by
  rw [take_snoc h]
  unfold eRun
  rw [List.foldl_append]
  rfl
theorem eRun_len {rs : List FRow} {t : Str → Int} : ∀ {cs : List (Str × Int)} {o : List Int}, (cs.foldl (eStep rs) (t, o)).2.length = o.length + cs.length := by
  intro cs
  induction cs generalizing t with
  | nil => intro o; rfl
  | cons c r ih =>
    intro o
    show (r.foldl (eStep rs) (eStep rs (t, o) c)).2.length = _
    have := ih (t := (eStep rs (t, o) c).1) (o := (eStep rs (t, o) c).2)
    rw [this]
    show (o ++ [_]).length + r.length = _
    rw [List.length_append, List.length_cons, List.length_cons]
    show o.length + (0 + 1) + _ = _
    omega
def entF (rs : List FRow) (bs : List (Str × Int)) (cs : List (Str × Int)) : List Int := (eRun rs (totF rs bs) cs).2
theorem ent_len {rs : List FRow} {bs cs : List (Str × Int)} : (entF rs bs cs).length = cs.length := by
  unfold entF eRun
  rw [eRun_len]
  simp
/-- claims and balances as the document has them -/
def CsOk (rs : List FRow) (cs : List (Str × Int)) : Prop := cs.length ≤ 20 ∧ ∀ c ∈ cs, c.1 ∈ fNames rs ∧ 0 ≤ c.2 ∧ c.2 ≤ 1000000000
def BsN (rs : List FRow) (bs : List (Str × Int)) : Prop := (bs.map (·.1)).Nodup ∧ ∀ p ∈ bs, p.1 ∈ fNames rs
def BsOk (rs : List FRow) (bs : List (Str × Int)) : Prop := BsN rs bs ∧ ∀ p ∈ bs, 0 ≤ p.2 ∧ p.2 ≤ 1000000000000
theorem dN_none {t : Str → Int} {n : Str} {ns : List Str} (h : n ∉ ns) : valV (dN ns t) (Sum.inr n : Key) = none := by
  rw [← dB_dN]
  exact dB_none fun m => h (by rw [List.map_map] at m; simpa using m)
theorem dN_snoc {t : Str → Int} {n : Str} {ns : List Str} : dN (ns ++ [n]) t = dN ns t ++ [((Sum.inr n : Key), V.int (t n))] := by
  unfold dN; rw [List.map_append]; rfl
theorem nodup_at {ns : List Str} (h : ns.Nodup) {i : Nat} {n : Str} (hi : ns[i]? = some n) : n ∉ ns.take i := by
  intro hm
  obtain ⟨j, hj⟩ := List.mem_iff_getElem?.mp hm
  have hl := (List.getElem?_eq_some_iff.mp hj).1
  rw [List.length_take] at hl
  have hji : j < i := by omega
  rw [List.getElem?_take_of_lt hji] at hj
  obtain ⟨hil, ei⟩ := List.getElem?_eq_some_iff.mp hi
  obtain ⟨hjl, ej⟩ := List.getElem?_eq_some_iff.mp hj
  exact (List.pairwise_iff_getElem.mp h) j i hjl hil hji (by rw [ei, ej])
/-- all but one stands -/
def ExtD (D : Addr) (H H' : Hp) : Prop := ∀ x o, x ≠ D → H x = some o → H' x = some o
theorem ExtD.refl {D : Addr} {H : Hp} : ExtD D H H := fun _ _ _ e => e
theorem ExtD.trans {D : Addr} {H H' H2 : Hp} (h : ExtD D H H') (k : ExtD D H' H2) : ExtD D H H2 := fun x o n e => k x o n (h x o n e)
theorem ExtD.of {D : Addr} {H H' : Hp} (h : Ext H H') : ExtD D H H' := fun x o _ e => h x o e
theorem ExtD.at {D : Addr} {H : Hp} {o : HO} : ExtD D H (upd H D o) := fun x u n e => by rw [upd_ne n]; exact e
/-- the class Forest, its names and ancestors, as they stand -/
structure Fo (P : Program) (w : World) (K : PySem.W.Frag) (mg : Str → Option Value) (base : Heap) (C fI pN fN fA : Addr) (mc : Value) (fdN fdA : FuncData) : Prop where
  Z : FC K mg C fI mc
  hpN : PropOf K C "names" pN fN
  GN : FnOk P w K mg base CX0 1 fN fdN ["self"] (spNames C)
  bN : Binds K fdN ["self"] []
  mA : Meth K C "ancestors" fA
  GA : FnOk P w K mg base CX0 3 fA fdA ["self", "name"] (spAnc C)
  bA : Binds K fdA ["self", "name"] []
theorem fo_ne {H : Hp} {q b : Addr} {rs : List FRow} {bs : List (Str × Int)} (g : Good rs) (h1 : H q = some (.dK (kvs rs))) (h2 : H b = some (.dK (dB bs))) : q ≠ b := fun e => by
  rw [e, h2] at h1
  injection h1 with h1
  injection h1 with h1
  cases rs with
  | nil => have := g.1; simp at this
  | cons r rs =>
    cases bs with
    | nil => cases h1
    | cons p bs =>
      have h1 : ((Sum.inr p.1 : Key), V.int p.2) = (Sum.inr r.1, parV r.2) := (List.cons.inj h1).1
      have h3 : V.int p.2 = parV r.2 := (Prod.mk.inj h1).2
      cases e2 : r.2 with
      | none => rw [e2] at h3; cases h3
      | some m => rw [e2] at h3; cases h3
theorem fo_keep {C : Addr} {H H' : Hp} {a b D : Addr} {rs : List FRow} {bs : List (Str × Int)} (h : FoAt C H a rs) (g : Good rs) (hb : H b = some (.dK (dB bs))) (hD : H D = none) (k : ∀ x o, x ≠ b → x ≠ D → H x = some o → H' x = some o) : FoAt C H' a rs := by
  obtain ⟨dx, q, h1, h2⟩ := h
  exact ⟨dx, q, k _ _ (ne_of h1 hb (by intro z; cases z)) (ne_of_none h1 hD) h1, k _ _ (fo_ne g h2 hb) (ne_of_none h2 hD) h2⟩
theorem get_dN {H : Hp} {D : Addr} {ns : List Str} {t : Str → Int} {n : Str} (h : H D = some (.dK (dN ns t)) ∨ ∃ o, H D = some (.frz o (.dK (dN ns t)))) (hn : n ∈ ns) : DGet H D (.str n) (some (.int (t n))) := by
  rw [← dN_get (t := t) hn]
  exact .inl ⟨_, Sum.inr n, h, rfl, rfl⟩
theorem get_dB {H : Hp} {D : Addr} {bs : List (Str × Int)} {p : Str × Int} (h : H D = some (.dK (dB bs)) ∨ ∃ o, H D = some (.frz o (.dK (dB bs)))) (hn : (bs.map (·.1)).Nodup) (hp : p ∈ bs) : DGet H D (.str p.1) (some (.int p.2)) := by
  rw [← dB_get hn hp]
  exact .inl ⟨_, Sum.inr p.1, h, rfl, rfl⟩
theorem put_dN {H : Hp} {D : Addr} {ns : List Str} {t : Str → Int} {n : Str} {z : Int} (h : H D = some (.dK (dN ns t))) (hn : n ∈ ns) (hl : ns.length ≤ 8) : DPut H D (.str n) (.int z) (upd H D (.dK (dN ns (at_ t n z)))) := by
  rw [← dN_put hn]
  exact .inl ⟨_, Sum.inr n, h, rfl, by rw [dN_len, sizeLine_eq]; omega, rfl⟩
theorem item_dB {bs : List (Str × Int)} {i : Nat} {x1 x2 : V} (e1 : Option.map (fun kv : Key × V => kV kv.1) (dB bs)[i]? = some x1) (e2 : Option.map Prod.snd (dB bs)[i]? = some x2) : ∃ p, bs[i]? = some p ∧ V.str p.1 = x1 ∧ V.int p.2 = x2 := by
  obtain ⟨kv, hk, e⟩ := Option.map_eq_some_iff.mp e1
  rw [hk] at e2
  cases e2
  unfold dB at hk
  rw [List.getElem?_map] at hk
  obtain ⟨p, hp, rfl⟩ := Option.map_eq_some_iff.mp hk
  exact ⟨p, hp, e, rfl⟩
end Lw

set_option Elab.async false
set_option linter.all false
set_option maxRecDepth 100000
set_option maxHeartbeats 4000000
namespace Lw
open L2 hiding Ext
open PySem PySem.Spec PyProof.Rows Gn Gr Gk Go Gt Gf Gu
section
variable {P : Program} {w : World} {K : PySem.W.Frag} {mg : Str → Option Value} {base : Heap} {C fI pN fN fA : Addr} {mc : Value} {fdN fdA : FuncData}
/-! ### totals_of -/
abbrev nTotOf : List Str := ["forest", "balances", "found", "account", "balance", "name"]
def spTotOf (C : Addr) : Sp := fun vs H Q _ => ∃ (a b : Addr) (rs : List FRow) (bs : List (Str × Int)), vs = [.ref a, .ref b] ∧ FoAt C H a rs ∧ Good rs ∧ H b = some (.dK (dB bs)) ∧ BsN rs bs ∧
  ∀ H' q, Ext H H' → H q = none → H' q = some (.dK (dN (fNames rs) (totF rs bs))) → Q (.ref q) H'
theorem scTotOf : FnScope nTotOf ["forest", "balances"] (defScope sTotalsOf) := ⟨rfl, rfl, rfl, by decide +kernel, rfl, by decide +kernel, by decide +kernel⟩
theorem ok_totOf {f : Addr} {fd : FuncData} (F : Fun K "totals_of" "totals_of" sTotalsOf f fd) (Z : Fo P w K mg base C fI pN fN fA mc fdN fdA) : FnOk P w K mg base CX0 4 f fd ["forest", "balances"] (spTotOf C) := by
  refine F.ok scTotOf (fun vs H Q E h => ?_) (fun cdv A outer s H vs Q E hr h => ?_)
  · obtain ⟨a, b, rs, bs, rfl, _⟩ := h
    rfl
  · obtain ⟨a, b, rs, bs, rfl, hF, hG, hb, ⟨bn, bm⟩, k⟩ := h
    have hu := hu_of hr
    have nd := scTotOf.nd
    have hrA := hr
    have hrN : Room 2 (A.deeper (envOfC "totals_of" (defScope sTotalsOf) s.heap.objs.size f cdv)) := hr.mono (by decide)
    refine ⟨_, pss_cons (Gd.ps_setDc (i := 2) (own := [("name", 5)]) (g := gName 5) (tt := tYes) rfl nd rfl rfl (Gd.sw_trueD rfl rfl rfl (by decide +kernel)) (pi_tup (pe_prop (pv 0) Z.Z.cl Z.hpN Z.GN hrN Z.bN .nil pass0 rfl)) (blkOk_by (N := nTotOf) (sc := defScope sTotalsOf) (by decide +kernel))
(fun _ _ _ _ _ => pg_name (i := 5) nd rfl (.inl rfl)) (fun _ _ _ _ _ => pts_nil) (fun _ _ _ _ _ => pv 5) (fun _ _ _ _ _ => pe_int))
(pss_cons (ps_lock (ps_for PassesOwn.never rfl (pi_items (pv 1)) (by exact (pg_tup rfl (pgs_cons (pg_name (i := 3) nd rfl (.inl rfl)) (pgs_cons (pg_name (i := 4) nd rfl (.inl rfl)) pgs_nil))))
(pss_one (ps_for PassesOwn.never rfl (pi_list (pe_meth (pv 0) Z.Z.cl Z.mA Z.GA hrA Z.bA .nil pass0 (pa_cons (pv 3) pa_nil))) (pg_name (i := 5) nd rfl (.inl rfl))
(pss_one (ps_dput hu (pv 2) (pv 5) (pe_op op_add (pe_dget hu (pv 2) (pv 5) (fun _ _ => rfl)) (pv 4)) rfl))))))
(pss_one (ps_ret (pv 2)))), ?_⟩
    have hnd : (fNames rs).Nodup := (good_nodup hG.2.2).1
    have hlen : (fNames rs).length ≤ 8 := by rw [fNames, List.length_map]; exact hG.2.1
    obtain ⟨dx, q0, h1, h2⟩ := id hF
    refine ⟨_, rfl, a, dx, _, rfl, h1, a, rs, rfl, hF, fun H1 t k1 _ ht => ?_⟩
    refine ⟨t, rfl, ⟨_, SqT.of ht⟩, fun D hD => ?_⟩
    have hDH : H D = none := by
      cases e : H D with
      | none => rfl
      | some u => rw [k1 _ _ e] at hD; cases hD
    refine dc_it walk_tup (fun i H' => H' D = some (.dK (dN ((fNames rs).take i) fun _ => 0)) ∧ Ext H1 H') ⟨upd_same, Ext.new hD⟩ (fun i H' _ ⟨_, e⟩ => SqT.of (e _ _ ht)) ?_ ?_
    · rintro i y H3 H4 hi ⟨d3, k3⟩ ⟨rfl, hy⟩
      rw [List.getElem?_map] at hy
      obtain ⟨n, hn, rfl⟩ := Option.map_eq_some_iff.mp hy
      refine ⟨rfl, yes_of ?_⟩
      refine ⟨_, rfl, _, (Sum.inr n : Key), rfl, d3, ?_, ?_, fun x o e => ?_⟩
      · rw [dN_len, List.length_take, sizeLine_eq]
        omega
      · rw [upd_same, putK_new _ (dN_none (nodup_at hnd hn)), take_snoc hn, dN_snoc]
      · rw [upd_ne (ne_of_none e hD)]
        exact k3 _ _ e
    rintro H3 ⟨d3, k3⟩
    rw [List.length_map, List.take_length] at d3
    have k03 := k1.trans k3
    have hb3 := k03 _ _ hb
    have hbD : b ≠ D := ne_of_none hb hDH
    refine ⟨b, _, hb3, trivial, fun od => ?_⟩
    refine ⟨_, rfl, b, od, _, rfl, upd_same, ?_⟩
    have d4 : (upd H3 b (.frz od (.dK (dB bs)))) D = some (.dK (dN (fNames rs) (totF rs (bs.take 0)))) := by rw [upd_ne hbD.symm]; exact d3
    have fo : ∀ {H' : Hp}, ExtD D (upd H3 b (.frz od (.dK (dB bs)))) H' → FoAt C H' a rs := fun {H'} e => fo_keep hF hG hb hDH fun x o n1 n2 hx => e x o n2 (lock_in n1 (k03 _ _ hx))
    refine for_it walk_items (fun i σ H' => ∃ (v3 v4 v5 : Option V), σ = [some (.ref a), some (.ref b), some (.ref D), v3, v4, v5] ∧ H' D = some (.dK (dN (fNames rs) (totF rs (bs.take i)))) ∧ ExtD D (upd H3 b (.frz od (.dK (dB bs)))) H')
      ⟨none, none, none, rfl, d4, ExtD.refl⟩ (fun i σ H' _ ⟨_, _, _, _, _, e⟩ => e b _ hbD upd_same) ?_ ?_
    · rintro i x σ H5 H6 hi ⟨v3, v4, v5, rfl, d5, k5⟩ ⟨T, x1, x2, rfl, hT, rfl, e1, e2⟩
      obtain ⟨p, hp, rfl, rfl⟩ := item_dB e1 e2
      have hpm := bm p (List.mem_of_getElem? hp)
      have kT : ExtD D (upd H3 b (.frz od (.dK (dB bs)))) (upd H5 T (.tup [.str p.1, .int p.2])) := k5.trans (ExtD.of (Ext.new hT))
      have dT := new_same (o := .tup [.str p.1, .int p.2]) hT _ _ d5
      refine ⟨T, _, rfl, SqT.of upd_same, rfl, _, _, rfl, _, _, rfl, rfl, ?_⟩
      generalize upd H5 T (.tup [.str p.1, .int p.2]) = H6 at kT dT ⊢
      obtain ⟨dx6, q6, g1, g2⟩ := id (fo kT)
      obtain ⟨j, r, hj, hr1, hanc⟩ := anc_call hG hpm
      refine ⟨_, rfl, a, dx6, _, rfl, g1, rfl, _, rfl, a, rs, j, r, by rw [hr1]; rfl, fo kT, hG, hj, fun H7 l k7 hl0 hl => ?_⟩
      rw [hanc] at hl
      have k67 : ExtD D (upd H3 b (.frz od (.dK (dB bs)))) H7 := kT.trans (ExtD.of k7)
      have d7 := k7 _ _ dT
      have hlD : l ≠ D := fun e => by rw [e, dT] at hl0; cases hl0
      refine ⟨l, rfl, ⟨_, SqL.of hl⟩, ?_⟩
      refine for_it walk_list (fun i' σ H' => ∃ (v5 : Option V), σ = [some (.ref a), some (.ref b), some (.ref D), some (.str p.1), some (.int p.2), v5] ∧ H' D = some (.dK (dN (fNames rs) (addL (totF rs (bs.take i)) ((anc rs p.1).take i') p.2))) ∧ ExtD D H7 H')
        ⟨v5, rfl, d7, ExtD.refl⟩ (fun i' σ H' _ ⟨_, _, _, e⟩ => SqL.of (e _ _ hlD hl)) ?_ ?_
      · rintro i' y σ H8 H9 hi' ⟨v5, rfl, d8, k8⟩ ⟨rfl, hy⟩
        rw [List.getElem?_map] at hy
        obtain ⟨m, hm, rfl⟩ := Option.map_eq_some_iff.mp hy
        have hmn := anc_mem hG hpm (List.mem_of_getElem? hm)
        refine ⟨_, rfl, _, rfl, D, _, rfl, get_dN (.inl d8) hmn, _, rfl, _, _, rfl, rfl, _, rfl, _, rfl, D, _, rfl, put_dN d8 hmn hlen, ?_⟩
        refine ⟨_, rfl, ?_, k8.trans ExtD.at⟩
        rw [upd_same, addL_take hm]
      · rintro σ H8 ⟨v5, rfl, d8, k8⟩
        rw [List.length_map, List.take_length] at d8
        refine ⟨_, _, _, rfl, ?_, k67.trans k8⟩
        rw [totF_take hp]
        exact d8
    · rintro σ H5 ⟨v3, v4, v5, rfl, d5, k5⟩
      have e5 : (dB bs).length = bs.length := by unfold dB; rw [List.length_map]
      rw [e5, List.take_length] at d5
      refine ⟨k5 b _ hbD upd_same, _, rfl, ?_⟩
      refine k _ D (fun x o hx => ?_) hDH (by rw [upd_ne hbD.symm]; exact d5)
      by_cases n : x = b
      · subst n
        rw [upd_same, ← hb, hx]
      · rw [upd_ne n]
        exact k5 x o (ne_of_none hx hDH) (lock_in n (k03 _ _ hx))
end
end Lw

set_option Elab.async false
set_option linter.all false
set_option maxRecDepth 100000
set_option maxHeartbeats 4000000
namespace Lw
open L2 hiding Ext
open PySem PySem.Spec PyProof.Rows Gn Gr Gk Go Gt Gf Gu
/-- all but two stand -/
def Ext2 (p q : Addr) (H H' : Hp) : Prop := ∀ x o, x ≠ p → x ≠ q → H x = some o → H' x = some o
theorem Ext2.refl {p q : Addr} {H : Hp} : Ext2 p q H H := fun _ _ _ _ e => e
theorem Ext2.trans {p q : Addr} {H H' H2 : Hp} (h : Ext2 p q H H') (k : Ext2 p q H' H2) : Ext2 p q H H2 := fun x o n m e => k x o n m (h x o n m e)
theorem Ext2.of {p q : Addr} {H H' : Hp} (h : Ext H H') : Ext2 p q H H' := fun x o _ _ e => h x o e
theorem Ext2.at1 {p q : Addr} {H : Hp} {o : HO} : Ext2 p q H (upd H p o) := fun x u n _ e => by rw [upd_ne n]; exact e
theorem Ext2.at2 {p q : Addr} {H : Hp} {o : HO} : Ext2 p q H (upd H q o) := fun x u _ n e => by rw [upd_ne n]; exact e
theorem none_of {H H' : Hp} {p : Addr} (k : Ext H H') (h : H' p = none) : H p = none := by
  cases e : H p with
  | none => rfl
  | some u => rw [k _ _ e] at h; cases h
section
variable {P : Program} {w : World} {K : PySem.W.Frag} {mg : Str → Option Value} {base : Heap} {C fI pN fN fA : Addr} {mc : Value} {fdN fdA : FuncData}
/-! ### grants -/
abbrev nGrants : List Str := ["forest", "claims", "balances", "left", "found", "account", "claim", "above", "granted", "name"]
def spGrants (C : Addr) : Sp := fun vs H Q _ => ∃ (a cl b : Addr) (rs : List FRow) (bs cs : List (Str × Int)) (xs : List V), vs = [.ref a, .ref cl, .ref b] ∧ FoAt C H a rs ∧ Good rs ∧ ClAt H cl xs ∧ CsAt H xs cs ∧ (∀ c ∈ cs, c.1 ∈ fNames rs) ∧ cs.length ≤ 1000 ∧ H b = some (.dK (dB bs)) ∧ BsN rs bs ∧
  ∀ H' p, Ext H H' → H p = none → H' p = some (.lst ((entF rs bs cs).map V.int)) → Q (.ref p) H'
theorem scGrants : FnScope nGrants ["forest", "claims", "balances"] (defScope sGrants) := ⟨rfl, rfl, rfl, by decide +kernel, rfl, by decide +kernel, by decide +kernel⟩
theorem ok_grants {f fT : Addr} {fd fdT : FuncData} (F : Fun K "grants" "grants" sGrants f fd) (T : Names mg) (Z : Fo P w K mg base C fI pN fN fA mc fdN fdA)
    (GT : FnOk P w K mg base CX0 4 fT fdT ["forest", "balances"] (spTotOf C)) (bT : Binds K fdT ["forest", "balances"] []) (kT : PySem.W.keepIn K (.ref fT) = true) (mT : mg "totals_of" = some (.ref fT)) :
    FnOk P w K mg base CX0 5 f fd ["forest", "claims", "balances"] (spGrants C) := by
  refine F.ok scGrants (fun vs H Q E h => ?_) (fun cdv A outer s H vs Q E hr h => ?_)
  · obtain ⟨a, cl, b, rs, bs, cs, xs, rfl, _⟩ := h
    rfl
  · obtain ⟨a, cl, b, rs, bs, cs, xs, rfl, hF, hG, hcl, hcs, hcn, hcl2, hb, hB, k⟩ := h
    have hu := hu_of hr
    have nd := scGrants.nd
    have hrT := hr
    have hrA : Room 3 (A.deeper (envOfC "grants" (defScope sGrants) s.heap.objs.size f cdv)) := hr.mono (by decide)
    refine ⟨_, pss_cons (ps_set (i := 3) nd rfl (.inr rfl) (pe_callTy call_dictD rfl T.dict (by decide +kernel) (pa_cons (pe_call GT hrT rfl mT kT bT .nil pass0 (pa_cons (pv 0) (pa_cons (pv 2) pa_nil))) pa_nil)))
(pss_cons (ps_set (i := 4) nd rfl (.inl rfl) (pe_lst pa_nil))
(pss_cons (ps_for PassesOwn.never rfl (pi_seqV (pv 1)) (by exact (pg_tup rfl (pgs_cons (pg_name (i := 5) nd rfl (.inl rfl)) (pgs_cons (pg_name (i := 6) nd rfl (.inl rfl)) pgs_nil))))
(pss_cons (ps_set (i := 7) nd rfl (.inl rfl) (pe_meth (pv 0) Z.Z.cl Z.mA Z.GA hrA Z.bA .nil pass0 (pa_cons (pv 5) pa_nil)))
(pss_cons (ps_set (i := 8) nd rfl (.inl rfl) (pe_callB (cr_min rfl) rfl T.min (by decide +kernel) (pa_cons (pe_op op_cat (pe_lst (pa_cons (pv 6) pa_nil)) (pe_lc (own := [("name", 9)]) (g := gName 9) (tt := tYes) rfl nd (pi_list (pv 7)) (blkOk_by (N := nGrants) (sc := defScope sGrants) (by decide +kernel))
(fun _ _ _ _ _ => pg_name (i := 9) nd rfl (.inl rfl)) (fun _ _ _ _ _ => pts_nil) (fun _ _ _ _ _ => pe_dget hu (pv 3) (pv 9) (fun _ _ => rfl)))) pa_nil)))
(pss_cons (ps_for PassesOwn.never rfl (pi_list (pv 7)) (pg_name (i := 9) nd rfl (.inl rfl))
(pss_one (ps_dput hu (pv 3) (pv 9) (pe_op op_sub (pe_dget hu (pv 3) (pv 9) (fun _ _ => rfl)) (pv 8)) rfl)))
(pss_one (ps_expr (pe_bm PySem.F.plainAttrs_list PySem.F.slot_list_append PySem.F.type_list_append mt_append (pv 4) (pa_cons (pv 8) pa_nil))))))))
(pss_one (ps_ret (pv 4))))), ?_⟩
    have hlen : (fNames rs).length ≤ 8 := by rw [fNames, List.length_map]; exact hG.2.1
    refine ⟨_, rfl, _, rfl, a, b, rs, bs, rfl, hF, hG, hb, hB, fun H0 r k0 hr0 hr0' => ?_⟩
    refine ⟨r, _, rfl, .inl hr0', fun q hq1 => ?_⟩
    have k1 : Ext H (upd H0 q (.dK (dN (fNames rs) (totF rs bs)))) := k0.trans (Ext.new hq1)
    have hq0 : H q = none := none_of k0 hq1
    have hq : (upd H0 q (.dK (dN (fNames rs) (totF rs bs)))) q = some (.dK (dN (fNames rs) (totF rs bs))) := upd_same
    generalize upd H0 q (.dK (dN (fNames rs) (totF rs bs))) = H1 at k1 hq ⊢
    refine ⟨Nat.zero_le _, fun L hL => ?_⟩
    have k2 : Ext H (upd H1 L (.lst [])) := k1.trans (Ext.new hL)
    have hL0 : H L = none := none_of k1 hL
    have hqL : q ≠ L := ne_of_none hq hL
    have q2 := new_same (o := .lst []) hL _ _ hq
    have L2' : (upd H1 L (.lst [])) L = some (.lst []) := upd_same
    generalize upd H1 L (.lst []) = H2 at k2 q2 L2' ⊢
    have keep : ∀ {H' : Hp}, Ext2 q L H2 H' → ∀ x o, H x = some o → H' x = some o := fun {H'} e x o hx => e x o (ne_of_none hx hq0) (ne_of_none hx hL0) (k2 _ _ hx)
    refine ⟨cl, xs, rfl, hcl.ext k2, fun J hJ => ?_⟩
    refine for_it hJ (fun i σ H' => ∃ (v5 v6 v7 v8 v9 : Option V), σ = [some (.ref a), some (.ref cl), some (.ref b), some (.ref q), some (.ref L), v5, v6, v7, v8, v9] ∧
        H' q = some (.dK (dN (fNames rs) (eRun rs (totF rs bs) (cs.take i)).1)) ∧ H' L = some (.lst ((eRun rs (totF rs bs) (cs.take i)).2.map V.int)) ∧ Ext2 q L H2 H')
      ⟨none, none, none, none, none, rfl, q2, L2', Ext2.refl⟩ (fun i σ H' _ ⟨_, _, _, _, _, _, _, _, e⟩ => ?_) ?_ ?_
    · rcases hcl with h | h
      · exact (keep e _ _ h).trans (k2 _ _ h).symm
      · exact (keep e _ _ h).trans (k2 _ _ h).symm
    · rintro i x σ H3 H3' hi ⟨v5, v6, v7, v8, v9, rfl, q3, L3, k3⟩ ⟨rfl, hx⟩
      obtain ⟨c, p, hc, rfl, hp⟩ := hcs.get hx
      have hcm := hcn c (List.mem_of_getElem? hc)
      have er := eRun_take (rs := rs) (t := totF rs bs) hc
      have el : (eRun rs (totF rs bs) (cs.take i)).2.length ≤ 1000 := by
        unfold eRun
        rw [eRun_len, List.length_take]
        show 0 + _ ≤ _
        omega
      generalize eRun rs (totF rs bs) (cs.take i) = st at q3 L3 er el
      obtain ⟨t, os⟩ := st
      refine ⟨p, _, rfl, SqT.of (keep k3 _ _ hp), rfl, _, _, rfl, _, _, rfl, rfl, ?_⟩
      obtain ⟨dx, q6, g1, g2⟩ := hF
      obtain ⟨j, r, hj, hr1, hanc⟩ := anc_call hG hcm
      have fo : ∀ {H' : Hp}, Ext2 q L H2 H' → FoAt C H' a rs := fun e => ⟨dx, q6, keep e _ _ g1, keep e _ _ g2⟩
      refine ⟨_, rfl, a, dx, _, rfl, keep k3 _ _ g1, rfl, _, rfl, a, rs, j, r, by rw [hr1]; rfl, fo k3, hG, hj, fun H4 l k4 hl0 hl => ?_⟩
      rw [hanc] at hl
      have hlq : l ≠ q := (ne_of_none q3 hl0).symm
      have hlL : l ≠ L := (ne_of_none L3 hl0).symm
      have q4 := k4 _ _ q3
      have al := anc_len rs c.1
      refine ⟨_, rfl, by show 1 ≤ sizeLine; decide, fun u hu => ?_⟩
      have k5 : Ext H4 (upd H4 u (.lst [.int c.2])) := Ext.new hu
      have u5 : (upd H4 u (.lst [.int c.2])) u = some (.lst [.int c.2]) := upd_same
      generalize upd H4 u (.lst [.int c.2]) = H5 at k5 u5 ⊢
      refine ⟨_, rfl, l, rfl, ⟨_, SqL.of (k5 _ _ hl)⟩, fun D hD => ?_⟩
      refine lc_it walk_list (fun i' H' => H' D = some (.lst ((((anc rs c.1).take i').map t).map V.int)) ∧ Ext H5 H') ⟨upd_same, Ext.new hD⟩ (fun i' H' _ ⟨_, e⟩ => SqL.of (e _ _ (k5 _ _ hl))) ?_ ?_
      · rintro i' y H6 H6' hi' ⟨d6, k6⟩ ⟨rfl, hy⟩
        rw [List.getElem?_map] at hy
        obtain ⟨m, hm, rfl⟩ := Option.map_eq_some_iff.mp hy
        have hmn := anc_mem hG hcm (List.mem_of_getElem? hm)
        refine ⟨rfl, yes_of ?_⟩
        refine ⟨_, rfl, _, rfl, q, _, rfl, get_dN (.inl (k6 _ _ (k5 _ _ q4))) hmn, _, d6, ?_, ?_, fun x o e => ?_⟩
        · rw [List.length_map, List.length_map, List.length_take]
          exact small1000 (by omega)
        · rw [upd_same, take_snoc hm, List.map_append, List.map_append]
          rfl
        · rw [upd_ne (ne_of_none e hD)]
          exact k6 _ _ e
      rintro H6 ⟨d6, k6⟩
      rw [List.length_map, List.take_length] at d6
      refine ⟨u, D, _, _, rfl, rfl, k6 _ _ u5, d6, ?_, fun v hv => ?_⟩
      · rw [List.length_map, List.length_map, sizeLine_eq]
        show 1 + _ ≤ _
        omega
      have k7 : Ext H4 (upd H6 v (.lst ([.int c.2] ++ ((anc rs c.1).map t).map V.int))) := (k5.trans k6).trans (Ext.new hv)
      refine ⟨v, c.2 :: (anc rs c.1).map t, rfl, SqL.of upd_same, by show 0 < _ + 1; omega, fun m hm hle => ?_⟩
      obtain rfl := minL_is hm hle
      generalize upd H6 v (.lst ([.int c.2] ++ ((anc rs c.1).map t).map V.int)) = H7 at k7 ⊢
      generalize hmm : minL c.2 ((anc rs c.1).map t) = mm at er ⊢
      refine ⟨_, rfl, l, rfl, ⟨_, SqL.of (k7 _ _ hl)⟩, ?_⟩
      refine for_it walk_list (fun i' σ H' => ∃ (v9 : Option V), σ = [some (.ref a), some (.ref cl), some (.ref b), some (.ref q), some (.ref L), some (.str c.1), some (.int c.2), some (.ref l), some (.int mm), v9] ∧
          H' q = some (.dK (dN (fNames rs) (addL t ((anc rs c.1).take i') (-mm)))) ∧ ExtD q H7 H') ⟨v9, rfl, k7 _ _ q4, ExtD.refl⟩ (fun i' σ H' _ ⟨_, _, _, e⟩ => SqL.of (e _ _ hlq (k7 _ _ hl))) ?_ ?_
      · rintro i' y σ H8 H8' hi' ⟨v9, rfl, q8, k8⟩ ⟨rfl, hy⟩
        rw [List.getElem?_map] at hy
        obtain ⟨m, hm, rfl⟩ := Option.map_eq_some_iff.mp hy
        have hmn := anc_mem hG hcm (List.mem_of_getElem? hm)
        refine ⟨_, rfl, _, rfl, q, _, rfl, get_dN (.inl q8) hmn, _, rfl, _, _, rfl, rfl, _, rfl, _, rfl, q, _, rfl, put_dN q8 hmn hlen, ?_⟩
        refine ⟨_, rfl, ?_, k8.trans ExtD.at⟩
        rw [upd_same, addL_take hm, ← Int.sub_eq_add_neg]
      · rintro σ H8 ⟨v9, rfl, q8, k8⟩
        rw [List.length_map, List.take_length] at q8
        have L8 : H8 L = some (.lst (os.map V.int)) := k8 _ _ hqL.symm (k7 _ _ (k4 _ _ L3))
        refine ⟨_, rfl, .inl ⟨rfl, _, SqL.of L8⟩, _, rfl, L, _, _, rfl, rfl, L8, ?_, ?_⟩
        · rw [List.length_map, sizeLine_eq]
          have el : os.length ≤ 1000 := el
          omega
        refine ⟨_, _, _, _, _, rfl, ?_, ?_, ?_⟩
        · rw [upd_ne hqL, er]
          show H8 q = some (.dK (dN (fNames rs) (addL t (anc rs c.1) (-minL c.2 ((anc rs c.1).map t)))))
          rw [hmm]
          exact q8
        · rw [upd_same, er]
          show _ = some (HO.lst ((os ++ [minL c.2 ((anc rs c.1).map t)]).map V.int))
          rw [hmm, List.map_append]
          rfl
        · refine (k3.trans ?_).trans Ext2.at2
          exact (Ext2.of (k4.trans k7)).trans fun x o n1 n2 e => k8 x o n1 e
    · rintro σ H3 ⟨v5, v6, v7, v8, v9, rfl, q3, L3, k3⟩
      rw [hcs.1, List.take_length] at L3
      refine ⟨_, rfl, k H3 L (fun x o hx => keep k3 x o hx) hL0 L3⟩
end
end Lw

set_option Elab.async false
set_option linter.all false
set_option maxRecDepth 100000
set_option maxHeartbeats 4000000
namespace Lw
open L2 hiding Ext
open PySem PySem.Spec PyProof.Rows Gn Gr Gk Go Gt Gf Gu
theorem ty_seq {K : PySem.W.Frag} {H : Hp} {cl : Addr} {xs : List V} (h : ClAt H cl xs) : ∃ ty, TyX K H (.ref cl) ty ∧ PySem.W.kitAny K ty [.type "list", .type "tuple"] = some true := by
  rcases h with h | h
  · exact ⟨_, (TyT.lst h).x, kitAny_cons (b := true) (kit_ty (by decide +kernel)) (fun z => by cases z) (fun _ => rfl)⟩
  · exact ⟨_, (TyT.tup h).x, kitAny_cons (b := false) (kit_ty (by decide +kernel)) (fun _ => kitAny_cons (b := true) (kit_ty (by decide +kernel)) (fun z => by cases z) (fun _ => rfl)) (fun z => by cases z)⟩
section
variable {P : Program} {w : World} {K : PySem.W.Frag} {mg : Str → Option Value} {base : Heap} {C fI pN fN fA : Addr} {mc : Value} {fdN fdA : FuncData}
/-! ### is_claim, check_claims -/
abbrev nIsClaim : List Str := ["forest", "value", "account", "claim"]
def spIsClaim (C : Addr) : Sp := fun vs H Q _ => ∃ (a p : Addr) (rs : List FRow) (c : Str × Int), vs = [.ref a, .ref p] ∧ FoAt C H a rs ∧ Good rs ∧ H p = some (.tup [.str c.1, .int c.2]) ∧ c.1 ∈ fNames rs ∧ 0 ≤ c.2 ∧ c.2 ≤ 1000000000 ∧ ∀ H', Ext H H' → Q (.bl true) H'
theorem scIsClaim : FnScope nIsClaim ["forest", "value"] (defScope sIsClaim) := ⟨rfl, rfl, rfl, by decide +kernel, rfl, by decide +kernel, by decide +kernel⟩
theorem ok_isClaim {f fJ fB : Addr} {fd fdJ fdB : FuncData} (F : Fun K "is_claim" "is_claim" sIsClaim f fd) (T : Names mg) (Z : Fo P w K mg base C fI pN fN fA mc fdN fdA)
    (GI : FnOk P w K mg base CX0 1 fJ fdJ ["value"] spInt) (bI : Binds K fdJ ["value"] []) (kI : PySem.W.keepIn K (.ref fJ) = true) (mI : mg "is_int" = some (.ref fJ))
    (GA : FnOk P w K mg base CX0 2 fB fdB ["value"] spAmt) (bA : Binds K fdB ["value"] []) (kA : PySem.W.keepIn K (.ref fB) = true) (mA : mg "is_amount" = some (.ref fB)) :
    FnOk P w K mg base CX0 3 f fd ["forest", "value"] (spIsClaim C) := by
  refine F.ok scIsClaim (fun vs H Q E h => ?_) (fun cdv A outer s H vs Q E hr h => ?_)
  · obtain ⟨a, p, rs, c, rfl, _⟩ := h
    rfl
  · obtain ⟨a, p, rs, c, rfl, hF, hG, hp, hn, c0, c1, k⟩ := h
    have hu := hu_of hr
    have nd := scIsClaim.nd
    have hr2 := hr
    have hrN := hr
    have hr1 : Room 1 (A.deeper (envOfC "is_claim" (defScope sIsClaim) s.heap.objs.size f cdv)) := hr.mono (by decide)
    refine ⟨_, pss_cons (ps_if (PW.pt (pw_or (pt_not (pt_val (pe_callB call_isi rfl T.isi (by decide +kernel) (pa_cons (pv 1) (pa_cons (pe_bltn (v := .ty "tuple") rfl T.tuple (by decide +kernel) rfl) pa_nil))))) (pw_or1 (pt_cmpR op_ne (pe_callB call_len_seq rfl T.len PySem.boot_len (pa_cons (pv 1) pa_nil)) pe_int (nomark _))))) (pss_one (ps_ret pe_bl)) pss_nil)
(pss_cons (ps_asg (pv 1) (by exact (pg_tup rfl (pgs_cons (pg_name (i := 2) nd rfl (.inl rfl)) (pgs_cons (pg_name (i := 3) nd rfl (.inl rfl)) pgs_nil)))))
(pss_one (ps_ret (pe_and (pe_cmpR op_in_seq (pv 2) (pe_prop (pv 0) Z.Z.cl Z.hpN Z.GN hrN Z.bN .nil pass0 rfl) rfl) (pe_and (pe_call GI hr1 rfl mI kI bI .nil pass0 (pa_cons (pv 3) pa_nil)) (pe_one (pe_or (pe_cmpR op_eq (pv 3) pe_int (nomark _)) (pe_one (pe_call GA hr2 rfl mA kA bA .nil pass0 (pa_cons (pv 3) pa_nil)))))))))), ?_⟩
    obtain ⟨dx, q0, h1, h2⟩ := id hF
    refine ⟨_, rfl, _, _, _, _, true, rfl, .ty _, (TyT.tup hp).x, kit_ty (by decide +kernel), true, rfl, iteF ?_⟩
    refine ⟨_, rfl, p, _, rfl, .inr (SqT.of hp), rfl, _, rfl, iteNS rfl ?_⟩
    refine ⟨_, rfl, p, _, rfl, SqT.of hp, rfl, _, _, rfl, _, _, rfl, rfl, ?_⟩
    refine ⟨_, rfl, _, rfl, a, dx, _, rfl, h1, a, rs, rfl, hF, fun H1 t k1 _ ht => ?_⟩
    refine ⟨t, _, rfl, .inr (SqT.of ht), rfl, strs_flat _, ?_⟩
    show ∃ b, V.bl (inV (.str c.1) ((fNames rs).map V.str)) = V.bl b ∧ _
    rw [inV_strs, decide_eq_true hn]
    refine ⟨true, rfl, iteT ?_⟩
    refine ⟨_, rfl, _, _, rfl, .inl ⟨c.2, rfl, rfl⟩, true, rfl, iteT ?_⟩
    refine ⟨_, rfl, rfl, _, rfl, ?_⟩
    refine ite2 (fun _ => k H1 k1) (fun e => ?_)
    have hz : c.2 ≠ 0 := fun z => e (by rw [z]; rfl)
    have ha : amtOk c.2 = true := by
      unfold amtOk
      rw [decide_eq_true (by omega), decide_eq_true c1]
      rfl
    refine ⟨_, rfl, _, _, rfl, .inl ⟨c.2, rfl, rfl⟩, fun H' k' => ?_⟩
    rw [ha]
    exact k H' (k1.trans k')
abbrev nCkClaims : List Str := ["forest", "claims", "pair"]
def spCkClaims (C : Addr) : Sp := fun vs H Q _ => ∃ (a cl : Addr) (rs : List FRow) (cs : List (Str × Int)) (xs : List V), vs = [.ref a, .ref cl] ∧ FoAt C H a rs ∧ Good rs ∧ ClAt H cl xs ∧ CsAt H xs cs ∧ CsOk rs cs ∧ ∀ H', Ext H H' → Q .non H'
theorem scCkClaims : FnScope nCkClaims ["forest", "claims"] (defScope sCheckClaims) := ⟨rfl, rfl, rfl, by decide +kernel, rfl, by decide +kernel, by decide +kernel⟩
theorem all_true (n : Nat) : (List.replicate n true).all id = true := by
  rw [List.all_eq_true]
  intro x hx
  exact List.eq_of_mem_replicate hx
theorem ok_ckClaims {f fJ : Addr} {fd fdJ : FuncData} (F : Fun K "check_claims" "check_claims" sCheckClaims f fd) (T : Names mg) (hM : ∃ t, mg "MOST_CLAIMS" = some (.int 20 t))
    (GC : FnOk P w K mg base CX0 3 fJ fdJ ["forest", "value"] (spIsClaim C)) (bC : Binds K fdJ ["forest", "value"] []) (kC : PySem.W.keepIn K (.ref fJ) = true) (mC : mg "is_claim" = some (.ref fJ)) :
    FnOk P w K mg base CX0 4 f fd ["forest", "claims"] (spCkClaims C) := by
  refine F.ok scCkClaims (fun vs H Q E h => ?_) (fun cdv A outer s H vs Q E hr h => ?_)
  · obtain ⟨a, cl, rs, cs, xs, rfl, _⟩ := h
    rfl
  · obtain ⟨a, cl, rs, cs, xs, rfl, hF, hG, hcl, hcs, ⟨hc20, hco⟩, k⟩ := h
    have hu := hu_of hr
    have nd := scCkClaims.nd
    obtain ⟨tM, hM⟩ := hM
    refine ⟨_, pss_cons (ps_if (pt_not (pt_val (pe_callB call_isiT rfl T.isi (by decide +kernel) (pa_cons (pv 1) (pa_cons (pe_tup (pa_cons (pe_bltn (v := .ty "list") rfl T.list (by decide +kernel) rfl) (pa_cons (pe_bltn (v := .ty "tuple") rfl T.tuple (by decide +kernel) rfl) pa_nil))) pa_nil))))) (pss_never) pss_nil)
(pss_cons (ps_if (pt_cmpR op_gt (pe_callB call_len_seq rfl T.len PySem.boot_len (pa_cons (pv 1) pa_nil)) (pe_glob (v := .int 20) rfl hM ⟨_, rfl⟩) (nomark _)) (pss_never) pss_nil)
(pss_one (ps_if (pt_not (pt_val (pe_callB (cr_all rfl) rfl T.all (by decide +kernel) (pa_cons (pe_lc (own := [("pair", 2)]) (g := gName 2) (tt := tYes) rfl nd (pi_seqV (pv 1)) (blkOk_by (N := nCkClaims) (sc := defScope sCheckClaims) (by decide +kernel))
(fun _ _ _ _ _ => pg_name (i := 2) nd rfl (.inl rfl)) (fun _ _ _ _ _ => pts_nil) (fun _ _ _ _ _ => pe_call GC hr rfl mC kC bC .nil pass0 (pa_cons (pv 0) (pa_cons (pv 2) pa_nil)))) pa_nil)))) (pss_never) pss_nil))), ?_⟩
    refine ⟨_, rfl, by show 2 ≤ sizeLine; decide, fun tp htp => ?_⟩
    have k1 : Ext H (upd H tp (.tup [.ty "list", .ty "tuple"])) := Ext.new htp
    have t1 : (upd H tp (.tup [.ty "list", .ty "tuple"])) tp = some (.tup [.ty "list", .ty "tuple"]) := upd_same
    generalize upd H tp (.tup [.ty "list", .ty "tuple"]) = H1 at k1 t1 ⊢
    have c1 := hcl.ext k1
    obtain ⟨ty, hty, hkit⟩ := ty_seq (K := K) c1
    refine ⟨_, tp, _, _, [.type "list", .type "tuple"], true, rfl, t1, .cons (.ty _) (.cons (.ty _) .nil), hty, hkit, true, rfl, iteF ?_⟩
    have hl := hcs.1
    refine ⟨_, rfl, cl, xs, rfl, c1.sq, _, _, rfl, rfl, _, rfl, iteN (by omega) ?_⟩
    refine ⟨cl, xs, rfl, c1, fun J hJ D hD => ?_⟩
    refine lc_it hJ (fun i H' => H' D = some (.lst ((List.replicate i true).map V.bl)) ∧ Ext H1 H') ⟨upd_same, Ext.new hD⟩ (fun i H' _ ⟨_, e⟩ => ?_) ?_ ?_
    · rcases c1 with h | h
      · exact (e _ _ h).trans h.symm
      · exact (e _ _ h).trans h.symm
    · rintro i y H2 H2' hi ⟨d2, k2⟩ ⟨rfl, hy⟩
      obtain ⟨c, p, hc, rfl, hp⟩ := hcs.get hy
      obtain ⟨o1, o2, o3⟩ := hco c (List.mem_of_getElem? hc)
      have k12 := k1.trans k2
      refine ⟨rfl, yes_of ?_⟩
      refine ⟨_, rfl, _, rfl, a, p, rs, c, rfl, hF.ext k12, hG, k12 _ _ hp, o1, o2, o3, fun H3 k3 => ?_⟩
      refine ⟨_, k3 _ _ d2, ?_, ?_, fun x o e => ?_⟩
      · rw [List.length_map, List.length_replicate]
        exact small1000 (by omega)
      · rw [upd_same, List.replicate_succ', List.map_append]
        rfl
      · rw [upd_ne (ne_of_none e hD)]
        exact k3 _ _ (k2 _ _ e)
    rintro H2 ⟨d2, k2⟩
    refine ⟨D, _, rfl, SqL.of d2, ?_⟩
    rw [all_true]
    exact ⟨true, rfl, iteF (k H2 (k1.trans k2))⟩
/-! ### check_balances -/
abbrev nCkBal : List Str := ["forest", "balances", "account", "balance"]
def spCkBal (C : Addr) : Sp := fun vs H Q _ => ∃ (a b : Addr) (rs : List FRow) (bs : List (Str × Int)), vs = [.ref a, .ref b] ∧ FoAt C H a rs ∧ Good rs ∧ H b = some (.dK (dB bs)) ∧ BsOk rs bs ∧ ∀ H', Ext H H' → Q .non H'
theorem scCkBal : FnScope nCkBal ["forest", "balances"] (defScope sCheckBalances) := ⟨rfl, rfl, rfl, by decide +kernel, rfl, by decide +kernel, by decide +kernel⟩
theorem ok_ckBal {f fJ : Addr} {fd fdJ : FuncData} (F : Fun K "check_balances" "check_balances" sCheckBalances f fd) (T : Names mg) (Z : Fo P w K mg base C fI pN fN fA mc fdN fdA) (hM : ∃ t, mg "MOST_BALANCE" = some (.int 1000000000000 t))
    (GI : FnOk P w K mg base CX0 1 fJ fdJ ["value"] spInt) (bI : Binds K fdJ ["value"] []) (kI : PySem.W.keepIn K (.ref fJ) = true) (mI : mg "is_int" = some (.ref fJ)) :
    FnOk P w K mg base CX0 3 f fd ["forest", "balances"] (spCkBal C) := by
  refine F.ok scCkBal (fun vs H Q E h => ?_) (fun cdv A outer s H vs Q E hr h => ?_)
  · obtain ⟨a, b, rs, bs, rfl, _⟩ := h
    rfl
  · obtain ⟨a, b, rs, bs, rfl, hF, hG, hb, ⟨⟨bn, bm⟩, bo⟩, k⟩ := h
    have hu := hu_of hr
    have nd := scCkBal.nd
    have hrN := hr
    have hr1 : Room 1 (A.deeper (envOfC "check_balances" (defScope sCheckBalances) s.heap.objs.size f cdv)) := hr.mono (by decide)
    obtain ⟨tM, hM⟩ := hM
    refine ⟨_, pss_cons (ps_if (pt_not (pt_val (pe_callB call_isi rfl T.isi (by decide +kernel) (pa_cons (pv 1) (pa_cons (pe_bltn (v := .ty "dict") rfl T.dict (by decide +kernel) rfl) pa_nil))))) (pss_never) pss_nil)
(pss_one (ps_lock (ps_for PassesOwn.never rfl (pi_items (pv 1)) (by exact (pg_tup rfl (pgs_cons (pg_name (i := 2) nd rfl (.inl rfl)) (pgs_cons (pg_name (i := 3) nd rfl (.inl rfl)) pgs_nil))))
(pss_cons (ps_if (pt_cmpR op_notIn_seq (pv 2) (pe_prop (pv 0) Z.Z.cl Z.hpN Z.GN hrN Z.bN .nil pass0 rfl) rfl) (pss_never) pss_nil)
(pss_one (ps_if (PW.pt (pw_or (pt_not (pt_val (pe_call GI hr1 rfl mI kI bI .nil pass0 (pa_cons (pv 3) pa_nil)))) (pw_or1 (pt_not (pt_chain op_le op_le pe_int (pv 3) (pe_glob (v := .int 1000000000000) rfl hM ⟨_, rfl⟩)))))) (pss_never) pss_nil)))))), ?_⟩
    refine ⟨_, rfl, _, _, _, _, true, rfl, .ty _, (TyT.dct hb).x, kit_ty (by decide +kernel), true, rfl, iteF ?_⟩
    refine ⟨b, _, hb, trivial, fun od => ?_⟩
    refine ⟨_, rfl, b, od, _, rfl, upd_same, ?_⟩
    obtain ⟨dx, q0, h1, h2⟩ := id hF
    have fo : ∀ {H' : Hp}, Ext (upd H b (.frz od (.dK (dB bs)))) H' → H' a = some (.ins C dx [("_parents", .ref q0)]) ∧ H' q0 = some (.dK (kvs rs)) := fun {H'} e =>
      ⟨e _ _ (lock_in (ne_of h1 hb (by intro z; cases z)) h1), e _ _ (lock_in (fo_ne hG h2 hb) h2)⟩
    refine for_it walk_items (fun i σ H' => ∃ (v2 v3 : Option V), σ = [some (.ref a), some (.ref b), v2, v3] ∧ Ext (upd H b (.frz od (.dK (dB bs)))) H') ⟨none, none, rfl, Ext.refl⟩ (fun i σ H' _ ⟨_, _, _, e⟩ => e b _ upd_same) ?_ ?_
    · rintro i x σ H5 H6 hi ⟨v2, v3, rfl, k5⟩ ⟨T, x1, x2, rfl, hT, rfl, e1, e2⟩
      obtain ⟨p, hp, rfl, rfl⟩ := item_dB e1 e2
      have hpm := bm p (List.mem_of_getElem? hp)
      obtain ⟨p0, p1⟩ := bo p (List.mem_of_getElem? hp)
      have k6 := k5.trans (Ext.new (o := .tup [.str p.1, .int p.2]) hT)
      refine ⟨T, _, rfl, SqT.of upd_same, rfl, _, _, rfl, _, _, rfl, rfl, ?_⟩
      generalize upd H5 T (.tup [.str p.1, .int p.2]) = H6 at k6 ⊢
      obtain ⟨g1, g2⟩ := fo k6
      refine ⟨_, rfl, _, rfl, a, dx, _, rfl, g1, a, rs, rfl, ⟨dx, q0, g1, g2⟩, fun H7 t k7 _ ht => ?_⟩
      refine ⟨t, _, rfl, .inr (SqT.of ht), rfl, strs_flat _, ?_⟩
      show ∃ b, V.bl (!inV (.str p.1) ((fNames rs).map V.str)) = V.bl b ∧ _
      rw [inV_strs, decide_eq_true hpm]
      refine ⟨false, rfl, iteF ?_⟩
      refine ⟨_, rfl, _, _, rfl, .inl ⟨p.2, rfl, rfl⟩, true, rfl, iteF ?_⟩
      refine ⟨_, rfl, _, _, rfl, rfl, _, rfl, iteS p0 ?_⟩
      refine ⟨_, _, rfl, rfl, _, rfl, ?_⟩
      show if (!decide (p.2 ≤ 1000000000000)) = true then _ else _
      rw [decide_eq_true p1]
      refine iteF ?_
      exact ⟨_, _, rfl, k6.trans k7⟩
    · rintro σ H5 ⟨v2, v3, rfl, k5⟩
      exact ⟨k5 b _ upd_same, k _ (lock_ext hb k5)⟩
end
end Lw

set_option Elab.async false
set_option linter.all false
set_option maxRecDepth 100000
set_option maxHeartbeats 4000000
/-! zip of two lists or of two tuples at two slots -/
namespace Gv
open L2 hiding Ext
open PySem PySem.Spec PyProof.Rows Gn Gk Gu
theorem walk_zipT {K : PySem.W.Frag} {a b : Addr} {xs ys : List V} {n : Nat} (h : n = min xs.length ys.length) : Walk (RZ.ItzT K a b) n (fun H => SqT K H a xs ∧ SqT K H b ys) (YPair (fun i => xs[i]?) fun i => ys[i]?) := by
  refine ⟨fun i H hi g => ?_, fun H g => ?_, fun i H x H' hi g y => ?_⟩
  · exact ⟨xs, ys, _, _, g.1, g.2, List.getElem?_eq_getElem (by omega), List.getElem?_eq_getElem (by omega)⟩
  · exact ⟨xs, ys, g.1, g.2, by omega⟩
  · obtain ⟨T, x1, x2, e, hT, e2, k1, k2⟩ := y
    exact ⟨T, x1, x2, e, hT, e2, k1 xs g.1, k2 ys g.2⟩
def SameK (H : Hp) (a b : Addr) (xs ys : List V) : Prop := (H a = some (.lst xs) ∧ H b = some (.lst ys)) ∨ (H a = some (.tup xs) ∧ H b = some (.tup ys))
theorem SameK.ext {H H' : Hp} {a b : Addr} {xs ys : List V} (h : SameK H a b xs ys) (k : Ext H H') : SameK H' a b xs ys := h.elim (fun e => .inl ⟨k _ _ e.1, k _ _ e.2⟩) (fun e => .inr ⟨k _ _ e.1, k _ _ e.2⟩)
theorem SameK.c1 {H : Hp} {a b : Addr} {xs ys : List V} (h : SameK H a b xs ys) : ClAt H a xs := h.elim (fun e => .inl e.1) (fun e => .inr e.1)
theorem SameK.c2 {H : Hp} {a b : Addr} {xs ys : List V} (h : SameK H a b xs ys) : ClAt H b ys := h.elim (fun e => .inl e.2) (fun e => .inr e.2)
def iZipV (i j : Nat) : TI := fun σ H R => ∃ (a b : Addr) (xs ys : List V), σ[i]? = some (some (.ref a)) ∧ σ[j]? = some (some (.ref b)) ∧ SameK H a b xs ys ∧ ∀ J, Walk J (min xs.length ys.length) (fun H' => H' a = H a ∧ H' b = H b) (YPair (fun i => xs[i]?) fun i => ys[i]?) → R J H
theorem iZip_ok {K : PySem.W.Frag} {i j : Nat} : ∀ (σ : L2.St) (H : Hp) (R : It → Hp → Prop), iZipV i j σ H R → RZ.iZipA K (tCons (tVar i) (tCons (tVar j) tNil)) σ H R := by
  rintro σ H R ⟨a, b, xs, ys, h1, h2, hc, k⟩
  rcases hc with ⟨h3, h4⟩ | ⟨h3, h4⟩
  · exact ⟨_, h1, _, h2, a, b, xs, ys, rfl, .inl ⟨SqL.of h3, SqL.of h4, k _ (wW (walk_zip rfl) fun H' e => ⟨SqL.of (e.1.trans h3), SqL.of (e.2.trans h4)⟩)⟩⟩
  · exact ⟨_, h1, _, h2, a, b, xs, ys, rfl, .inr ⟨SqT.of h3, SqT.of h4, k _ (wW (walk_zipT rfl) fun H' e => ⟨SqT.of (e.1.trans h3), SqT.of (e.2.trans h4)⟩)⟩⟩
end Gv

set_option Elab.async false
set_option linter.all false
set_option maxRecDepth 100000
set_option maxHeartbeats 4000000
/-! zip of two lists, of two tuples, or of a tuple and a list -/
namespace Gm
open L2 hiding Ext
open PySem PySem.Spec PyProof.Rows Gn Gk Gu
def ItM (K : PySem.W.Frag) (a b : Addr) : It where
  go := fun i H => ∃ xs ys x y, SqT K H a xs ∧ SqL K H b ys ∧ xs[i]? = some x ∧ ys[i]? = some y
  yld := fun i H v H' => ∃ T x y, v = V.ref T ∧ H T = none ∧ H' = upd H T (.tup [x, y]) ∧ (∀ xs, SqT K H a xs → xs[i]? = some x) ∧ ∀ ys, SqL K H b ys → ys[i]? = some y
  stop := fun i H => ∃ xs ys, SqT K H a xs ∧ SqL K H b ys ∧ i = min xs.length ys.length
def tnM (a b z TI TO i1 i2 : Addr) (i : Nat) (h : Heap) : Prop :=
  IsZip h z TI TO Value.none ∧ IsTupOf2 h TI (Value.ref i1) (Value.ref i2) ∧ (∃ x y, IsTupOf2 h TO x y) ∧ h.IsTupleIter i1 a i ∧ h.IsListIter i2 b i
theorem lt_of_get {h : Heap} {a : Addr} {o : Obj} (e : h.get? a = some o) : a < h.objs.size := Heap.lt_size e
theorem turn_zipM {P : Program} {w : World} {K : PySem.W.Frag} {elts : List Expr} {kk : Nat} {tpos : Pos} {a b z TI TO i1 i2 : Addr} (h : ZipApart z TI TO i1 i2 a b) :
    Turn P w K (Expr.Tuple elts kk tpos) (ItM K a b) [z, TI, TO, i1, i2] z (tnM a b z TI TO i1 i2) := by
  have sep : ZipSep2 z TI TO i1 i2 [i1, a] [i2, b] := by
    refine ⟨h.TIz, h.TOz, h.TITO, h.TIi1, by simp, ?_, ?_, h.TIi2, by simp, ?_, ?_, ?_, ?_⟩ <;>
      simp only [List.mem_cons, List.not_mem_nil, or_false, not_or]
    · exact ⟨h.i1z.symm, h.l1z.symm⟩
    · exact ⟨h.TOi1, h.l1TO.symm⟩
    · exact ⟨h.i2z.symm, h.l2z.symm⟩
    · exact ⟨h.TOi2, h.l2TO.symm⟩
    · exact ⟨h.i12, h.l2i1.symm⟩
    · exact ⟨h.i12.symm, h.l1i2.symm⟩
  refine ⟨by simp, ?_, ?_, ?_, ?_, ?_⟩
  · rintro i hp ⟨h1, h2, ⟨x, y, h3⟩, ⟨o4, h4, _, d4⟩, ⟨o5, h5, _, d5⟩⟩ b' hb
    simp only [List.mem_cons, List.not_mem_nil, or_false] at hb
    rcases hb with rfl | rfl | rfl | rfl | rfl
    · exact ⟨_, h1, fun v e => by cases e⟩
    · exact ⟨_, h2, fun v e => by cases e⟩
    · exact ⟨_, h3, fun v e => by cases e⟩
    · exact ⟨_, h4, fun v e => by rw [d4] at e; cases e⟩
    · exact ⟨_, h5, fun v e => by rw [d5] at e; cases e⟩
  · rintro i hp hp' ⟨h1, h2, ⟨x, y, h3⟩, ⟨o4, h4, c4, d4⟩, ⟨o5, h5, c5, d5⟩⟩ k
    exact ⟨k _ (by simp) _ h1, k _ (by simp) _ h2, ⟨x, y, k _ (by simp) _ h3⟩, ⟨o4, k _ (by simp) _ h4, c4, d4⟩, ⟨o5, k _ (by simp) _ h5, c5, d5⟩⟩
  · rintro X rfl rfl rfl hc i pins s σ H E I fp ⟨t1, t2, t3, t4, t5⟩ ⟨xs, ys, x, y, hx, hy, ex, ey⟩
    obtain ⟨its1, v1, p1, _⟩ := I.tuple hx
    obtain ⟨its2, v2, p2, _⟩ := I.list hy
    have hd : X.A.in1.handled = none := I.ok.hd hc
    have G := GoesN.zip2 (elts := elts) (x1 := kk) (pos := tpos) sep (Draws.tuple (prog := X.prog) (w := X.w) hd i1 a h.l1i1 its1.toArray) (Draws.list (prog := X.prog) (w := X.w) hd i2 b h.l2i2 its2.toArray)
    have hi1 := (List.getElem?_eq_some_iff.mp ex).1
    have hi2 := (List.getElem?_eq_some_iff.mp ey).1
    have l1 := v1.length
    have l2 := v2.length
    refine G.goes i s (fun u s2 => ∃ x H', L2.Inv X pins σ H' s2 ∧ L2.RelV x u ∧ (ItM X.K a b).yld i H x H' ∧ tnM a b z TI TO i1 i2 (i + 1) s2.heap ∧ ∀ b ∈ [z, TI, TO, i1, i2], H' b = none) E (by simp; omega) ⟨t1, t2, t3, ⟨t4, p1⟩, ⟨t5, p2.isList⟩⟩ ?_
    rintro v h' tk ⟨T, x', y', rfl, hT, e1, e2, tup⟩ ⟨s1, s2, s3, ⟨s4, _⟩, ⟨s5, _⟩⟩ keep _
    obtain ⟨u1, g1, r1⟩ := v1.get ex
    obtain ⟨u2, g2, r2⟩ := v2.get ey
    have e1 : its1[i]? = some x' := by simpa using e1
    have e2 : its2[i]? = some y' := by simpa using e2
    rw [g1] at e1
    rw [g2] at e2
    cases e1
    cases e2
    have fr := I.hok.fresh hT
    refine ⟨V.ref T, upd H T (.tup [x, y]), ?_, rfl, ⟨T, x, y, rfl, fr, rfl, fun xs' hx' => ?_, fun ys' hy' => ?_⟩, ⟨s1, s2, s3, s4, s5⟩, fun b' hb' => ?_⟩
    · refine I.turnedNew keep (fun b' hb' => fp b' ?_) hT ?_
      · simp only [List.mem_cons, List.not_mem_nil, or_false] at hb' ⊢
        rcases hb' with rfl | rfl | rfl | rfl <;> simp
      · exact ⟨by show 2 ≤ sizeLine; decide, _, .cons r1 (.cons r2 .nil), tup⟩
    · rw [I.tuple_inj hx' hx]; exact ex
    · rw [I.list_inj hy' hy]; exact ey
    · have : b' < s.heap.objs.size := by
        obtain ⟨x, y, t3⟩ := t3
        obtain ⟨o4, t4, _, _⟩ := t4
        obtain ⟨o5, t5, _, _⟩ := t5
        simp only [List.mem_cons, List.not_mem_nil, or_false] at hb'
        rcases hb' with rfl | rfl | rfl | rfl | rfl
        · exact lt_of_get t1
        · exact lt_of_get t2
        · exact lt_of_get t3
        · exact lt_of_get t4
        · exact lt_of_get t5
      rw [upd_ne (Nat.ne_of_lt (Nat.lt_of_lt_of_le this hT))]
      exact (fp b' hb').1
  · rintro X rfl rfl rfl hc i pins s σ H E I fp ⟨t1, t2, t3, t4, t5⟩ ⟨xs, ys, hx, hy, rfl⟩
    obtain ⟨its1, v1, p1, _⟩ := I.tuple hx
    obtain ⟨its2, v2, p2, _⟩ := I.list hy
    have hd : X.A.in1.handled = none := I.ok.hd hc
    have G := GoesN.zip2 (elts := elts) (x1 := kk) (pos := tpos) sep (Draws.tuple (prog := X.prog) (w := X.w) hd i1 a h.l1i1 its1.toArray) (Draws.list (prog := X.prog) (w := X.w) hd i2 b h.l2i2 its2.toArray)
    have l1 := v1.length
    have l2 := v2.length
    have en : min its1.toArray.size its2.toArray.size = min xs.length ys.length := by simp; omega
    rw [en] at G
    refine G.stops s (fun s1 => L2.Inv X pins σ H s1) E ⟨t1, t2, t3, ⟨t4, p1⟩, ⟨t5, p2.isList⟩⟩ fun h' tk keep _ => ?_
    exact I.turnedL keep fun b' hb' => fp b' (by
      simp only [List.mem_cons, List.not_mem_nil, or_false] at hb' ⊢
      rcases hb' with rfl | rfl | rfl | rfl <;> simp)
  · rintro A i s Q E ⟨t1, _⟩ q
    exact wpAny_pyIter_zip t1 q
/-- two lists, two tuples, or a tuple and a list -/
def iZipM (K : PySem.W.Frag) (ta : TA) : TI := fun σ H R => ta σ H fun vs H1 => ∃ a b xs ys, vs = [V.ref a, V.ref b] ∧
  ((SqL K H1 a xs ∧ SqL K H1 b ys ∧ R (Itz K a b) H1) ∨ (SqT K H1 a xs ∧ SqT K H1 b ys ∧ R (RZ.ItzT K a b) H1) ∨ (SqT K H1 a xs ∧ SqL K H1 b ys ∧ R (ItM K a b) H1))
theorem fp5 {X : Cx} {pins : List (Addr × Obj)} {σ : L2.St} {H : Hp} {s : Shared} (I : L2.Inv X pins σ H s) : ∀ b ∈ [s.heap.objs.size + 4, s.heap.objs.size + 2, s.heap.objs.size + 3, s.heap.objs.size, s.heap.objs.size + 1], FpOk X pins H b := fun b hb => by
  simp only [List.mem_cons, List.not_mem_nil, or_false] at hb
  have h : s.heap.objs.size ≤ b := by rcases hb with rfl | rfl | rfl | rfl | rfl <;> first | exact Nat.le_add_right _ _ | exact Nat.le_refl _
  exact I.fpOk h (I.hok.fresh h)
theorem pi_zipM {X : Cx} {e e2 : Expr} {ta : TA} {p pos tpos : Pos} {elts : List Expr} {kk : Nat} (hg : Gl X "zip") (hm : X.mg "zip" = none) (ha : PA X [e, e2] ta)
    (hs : starEach [e, e2] X.env = (false, eval e X.env) :: starEach [e2] X.env := by rfl) (hpl : ((backTo pos (starEach [e2] X.env)).any fun x => x.1) = false := by rfl) :
    PI X (Expr.Tuple elts kk tpos) ((Expr.Name "zip" p).Call [e, e2] [] pos) (iZipM X.K ta) := by
  refine ⟨fun pins s σ H R I h => Call_ (ld_blt I hg hm boot_zip (PyProof.Rows.callWith_type1 (thn (ha.run pos pins s σ H _ I h) ?_) hs hpl))⟩
  rintro us s1 ⟨vs, H1, I1, r1, a, b, xs, ys, rfl, q1⟩
  cases r1 with
  | cons r1 rr => cases rr with
    | cons r2 rr =>
      cases rr
      cases r1
      cases r2
      rcases q1 with ⟨hx, hy, hR⟩ | ⟨hx, hy, hR⟩ | ⟨hx, hy, hR⟩
      · obtain ⟨its1, v1, p1, _⟩ := I1.list hx
        obtain ⟨its2, v2, p2, _⟩ := I1.list hy
        refine zip_begins2 (begins_list a its1.toArray) (begins_list b its2.toArray) p1.isList p2.isList fun h' z1 z2 z3 z4 z5 z6 z7 => wpAny_pyIter_zip z1 ?_
        exact ⟨_, _, _, _, H1, rfl, I1.kept z7, turn_zip (PySem.W.ktu_apart _ a b p1.lt p2.lt), ⟨z1, z2, ⟨_, _, z3⟩, ⟨_, z4, rfl, rfl⟩, ⟨_, z5, rfl, rfl⟩⟩, fp5 I1, hR⟩
      · obtain ⟨its1, v1, p1, _⟩ := I1.tuple hx
        obtain ⟨its2, v2, p2, _⟩ := I1.tuple hy
        refine zip_begins2 (begins_tuple a its1.toArray) (begins_tuple b its2.toArray) p1 p2 fun h' z1 z2 z3 z4 z5 z6 z7 => wpAny_pyIter_zip z1 ?_
        obtain ⟨o1, g1, _⟩ := p1
        obtain ⟨o2, g2, _⟩ := p2
        exact ⟨_, _, _, _, H1, rfl, I1.kept z7, RZ.turn_zipT (PySem.W.ktu_apart _ a b (lt_of_get g1) (lt_of_get g2)), ⟨z1, z2, ⟨_, _, z3⟩, ⟨_, z4, rfl, rfl⟩, ⟨_, z5, rfl, rfl⟩⟩, fp5 I1, hR⟩
      · obtain ⟨its1, v1, p1, _⟩ := I1.tuple hx
        obtain ⟨its2, v2, p2, _⟩ := I1.list hy
        refine zip_begins2 (begins_tuple a its1.toArray) (begins_list b its2.toArray) p1 p2.isList fun h' z1 z2 z3 z4 z5 z6 z7 => wpAny_pyIter_zip z1 ?_
        obtain ⟨o1, g1, _⟩ := p1
        exact ⟨_, _, _, _, H1, rfl, I1.kept z7, turn_zipM (PySem.W.ktu_apart _ a b (lt_of_get g1) p2.lt), ⟨z1, z2, ⟨_, _, z3⟩, ⟨_, z4, rfl, rfl⟩, ⟨_, z5, rfl, rfl⟩⟩, fp5 I1, hR⟩
theorem walk_zipM {K : PySem.W.Frag} {a b : Addr} {xs ys : List V} {n : Nat} (h : n = min xs.length ys.length) : Walk (ItM K a b) n (fun H => SqT K H a xs ∧ SqL K H b ys) (YPair (fun i => xs[i]?) fun i => ys[i]?) := by
  refine ⟨fun i H hi g => ?_, fun H g => ?_, fun i H x H' hi g y => ?_⟩
  · exact ⟨xs, ys, _, _, g.1, g.2, List.getElem?_eq_getElem (by omega), List.getElem?_eq_getElem (by omega)⟩
  · exact ⟨xs, ys, g.1, g.2, h⟩
  · obtain ⟨T, x1, x2, e, hT, e2, k1, k2⟩ := y
    exact ⟨T, x1, x2, e, hT, e2, k1 xs g.1, k2 ys g.2⟩
/-- of one kind, or a tuple beside a list -/
def Mix (H : Hp) (a b : Addr) (xs ys : List V) : Prop := Gv.SameK H a b xs ys ∨ (H a = some (.tup xs) ∧ H b = some (.lst ys))
theorem Mix.ext {H H' : Hp} {a b : Addr} {xs ys : List V} (h : Mix H a b xs ys) (k : Ext H H') : Mix H' a b xs ys := h.elim (fun e => .inl (e.ext k)) (fun e => .inr ⟨k _ _ e.1, k _ _ e.2⟩)
def iZipV (i j : Nat) : TI := fun σ H R => ∃ (a b : Addr) (xs ys : List V), σ[i]? = some (some (.ref a)) ∧ σ[j]? = some (some (.ref b)) ∧ Mix H a b xs ys ∧ ∀ J, Walk J (min xs.length ys.length) (fun H' => H' a = H a ∧ H' b = H b) (YPair (fun i => xs[i]?) fun i => ys[i]?) → R J H
theorem iZip_ok {K : PySem.W.Frag} {i j : Nat} : ∀ (σ : L2.St) (H : Hp) (R : It → Hp → Prop), iZipV i j σ H R → iZipM K (tCons (tVar i) (tCons (tVar j) tNil)) σ H R := by
  rintro σ H R ⟨a, b, xs, ys, h1, h2, hc, k⟩
  rcases hc with (⟨h3, h4⟩ | ⟨h3, h4⟩) | ⟨h3, h4⟩
  · exact ⟨_, h1, _, h2, a, b, xs, ys, rfl, .inl ⟨SqL.of h3, SqL.of h4, k _ (wW (walk_zip rfl) fun H' e => ⟨SqL.of (e.1.trans h3), SqL.of (e.2.trans h4)⟩)⟩⟩
  · exact ⟨_, h1, _, h2, a, b, xs, ys, rfl, .inr (.inl ⟨SqT.of h3, SqT.of h4, k _ (wW (Gv.walk_zipT rfl) fun H' e => ⟨SqT.of (e.1.trans h3), SqT.of (e.2.trans h4)⟩)⟩)⟩
  · exact ⟨_, h1, _, h2, a, b, xs, ys, rfl, .inr (.inr ⟨SqT.of h3, SqL.of h4, k _ (wW (walk_zipM rfl) fun H' e => ⟨SqT.of (e.1.trans h3), SqL.of (e.2.trans h4)⟩)⟩)⟩
end Gm

set_option Elab.async false
set_option linter.all false
set_option maxRecDepth 100000
set_option maxHeartbeats 4000000
/-! enumerate of a list or of a tuple; `is not` of two truth values -/
namespace Gq
open L2 hiding Ext
open PySem PySem.Spec PyProof.Rows Gn Gk Gu
theorem wp_ite {α : Type} {M : Model} {A : Around} {E : Value → Shared → Prop} {s : Shared} {c : Prop} [Decidable c] {a b : Sem α} {Q : α → Shared → Prop} (h1 : wpAny M A a Q E s) (h2 : wpAny M A b Q E s) : wpAny M A (if c then a else b) Q E s := by
  by_cases h : c
  · rw [if_pos h]; exact h1
  · rw [if_neg h]; exact h2
theorem meets_enum1 {v : Value} {o : Obj} {H : Heap → Prop} (B : Begins v o H) :
    Meets (Builtin.«enumerate.__new__» { pos := [Value.type "enumerate", v] }) fun x R s =>
          H s.heap ∧
            R (Except.ok (Flow.ret (Value.ref (s.heap.push o).objs.size)))
              { heap := (s.heap.push o).push { cls := Value.type "enumerate", data := Data.fields #[Value.none, Value.bool false, Value.ref s.heap.objs.size, rawInt 0, Value.none, Value.none] },
                gens := s.gens, drawn := s.drawn, toks := s.toks, os := s.os } := by
  refine Meets.of_wp fun prog w A R s h => ?_
  obtain ⟨hp, g, d, tk, os⟩ := s
  obtain ⟨h1, h⟩ := h
  have q1 := fun {A'} {E Q} q => B.iter prog w A' E { heap := hp, gens := g, drawn := d, toks := tk, os := os } Q h1 q
  have hsub := sub_enumerate
  refine wpAny_bind ?_
  unfold Builtin.SmallTypes.newClass
  refine wpAny_bind ?_
  refine wpAny_pure ?_
  refine wpAny_ite_false rfl ?_
  refine wpAny_bind ?_
  refine wpAny_of_eq hsub ?_
  refine wpAny_ite_false rfl ?_
  refine wpAny_pure ?_
  refine wpAny_ite_true rfl ?_
  refine wpAny_bind ?_
  unfold Builtin.SmallTypes.calledThroughType
  refine wpAny_bind ?_
  refine wpAny_stack_any fun st => wpAny_pure ?_
  refine wp_ite ?_ ?_
  all_goals
    refine wpAny_bind ?_
    refine wpAny_pure ?_
    refine wpAny_bind (q1 ?_)
    refine wpAny_bind ?_
    unfold Builtin.SmallTypes.newRecord
    unfold newObj
    refine wpAny_bind (wpAny_alloc ?_)
    refine wpAny_pure ?_
    refine wpAny_pure ?_
    exact ⟨_, rfl, h⟩
theorem call_enum1 {prog : Program} {w : World} {A : Around} {E : Value → Shared → Prop} {s : Shared} {v : Value} {o : Obj} {H : Heap → Prop} {Q : Value → Shared → Prop} (B : Begins v o H) (h1 : H s.heap)
    (h : ∀ h' : Heap, IsEnum h' (s.heap.objs.size + 1) s.heap.objs.size 0 Value.none → h'.get? s.heap.objs.size = some o → h'.objs.size = s.heap.objs.size + 2 → (∀ (b : Addr) (o : Obj), s.heap.get? b = some o → h'.get? b = some o) →
      Q (Value.ref (s.heap.objs.size + 1)) { heap := h', gens := s.gens, drawn := s.drawn, toks := s.toks, os := s.os }) : wpAny (model prog w) A (call (Value.type "enumerate") [v]) Q E s := by
  refine callType_new F.called_enumerate (by decide) (F.typeCall_enumerate_1 v) (F.newCall_enumerate_1 v) (fun obj => F.args_object_init_2 obj v) F.entry_enumerate_new (meets_enum1 B) ⟨h1, ?_⟩
  have hz := Heap.size_push s.heap o
  have he : ((s.heap.push o).push { cls := Value.type "enumerate", data := Data.fields #[Value.none, Value.bool false, Value.ref s.heap.objs.size, rawInt 0, Value.none, Value.none] }).get? (s.heap.push o).objs.size = some { cls := Value.type "enumerate", data := Data.fields #[Value.none, Value.bool false, Value.ref s.heap.objs.size, rawInt 0, Value.none, Value.none] } := Heap.get?_push_size (s.heap.push o) rfl
  show _ ∧ _
  rw [hz] at he ⊢
  refine ⟨⟨_, he, rfl⟩, h _ he (Heap.get?_push_of_some _ (Heap.get?_push_size s.heap B.free)) (by rw [Heap.size_push, hz]) fun b o' x => Heap.get?_push_of_some _ (Heap.get?_push_of_some o x)⟩
def ItE (K : PySem.W.Frag) (a : Addr) : It where
  go := fun i H => ∃ xs x, SqT K H a xs ∧ xs[i]? = some x
  yld := fun i H v H' => ∃ T x, v = V.ref T ∧ H T = none ∧ H' = upd H T (.tup [.int (i : Nat), x]) ∧ ∀ xs, SqT K H a xs → xs[i]? = some x
  stop := fun i H => ∃ xs, SqT K H a xs ∧ i = xs.length
def tnE (a e it : Addr) (i : Nat) (h : Heap) : Prop := (∃ old, IsEnum h e it ((0 : Int) + (i : Nat)) old) ∧ h.IsTupleIter it a i
theorem turn_enumT {P : Program} {w : World} {K : PySem.W.Frag} {elts : List Expr} {kk : Nat} {tpos : Pos} {a e it : Addr} (h1 : e ≠ it) (h2 : a ≠ e) (h3 : a ≠ it) :
    Turn P w K (Expr.Tuple elts kk tpos) (ItE K a) [e, it] e (tnE a e it) := by
  refine ⟨by simp, ?_, ?_, ?_, ?_, ?_⟩
  · rintro i hp ⟨⟨old, h1⟩, ⟨o4, h4, _, d4⟩⟩ b' hb
    simp only [List.mem_cons, List.not_mem_nil, or_false] at hb
    rcases hb with rfl | rfl
    · exact ⟨_, h1, fun v e => by cases e⟩
    · exact ⟨_, h4, fun v e => by rw [d4] at e; cases e⟩
  · rintro i hp hp' ⟨⟨old, h1⟩, ⟨o4, h4, c4, d4⟩⟩ k
    exact ⟨⟨old, k _ (by simp) _ h1⟩, ⟨o4, k _ (by simp) _ h4, c4, d4⟩⟩
  · rintro X rfl rfl rfl hc i pins s σ H E I fp ⟨t1, t4⟩ ⟨xs, x, hx, ex⟩
    obtain ⟨its1, v1, p1, _⟩ := I.tuple hx
    have hd : X.A.in1.handled = none := I.ok.hd hc
    have G := GoesN.enumFrom (elts := elts) (x1 := kk) (pos := tpos) 0 (Draws.tuple (prog := X.prog) (w := X.w) hd it a h3 its1.toArray) e h1 (by simp only [List.mem_cons, List.not_mem_nil, or_false, not_or]; exact ⟨h1, h2.symm⟩) (by simp)
    have hi1 := (List.getElem?_eq_some_iff.mp ex).1
    have l1 := v1.length
    refine G.goes i s (fun u s2 => ∃ x H', L2.Inv X pins σ H' s2 ∧ L2.RelV x u ∧ (ItE X.K a).yld i H x H' ∧ tnE a e it (i + 1) s2.heap ∧ ∀ b ∈ [e, it], H' b = none) E (by simp; omega) ⟨t1, t4, p1⟩ ?_
    rintro v h' tk ⟨T, t, x', rfl, hT, e1, tup⟩ ⟨s1, s4, _⟩ keep _
    obtain ⟨u1, g1, r1⟩ := v1.get ex
    have e1 : its1[i]? = some x' := by simpa using e1
    rw [g1] at e1
    cases e1
    have fr := I.hok.fresh hT
    refine ⟨V.ref T, upd H T (.tup [.int (i : Nat), x]), ?_, rfl, ⟨T, x, rfl, fr, rfl, fun xs' hx' => ?_⟩, ⟨s1, s4⟩, fun b' hb' => ?_⟩
    · refine I.turnedNew keep (fun b' hb' => fp b' hb') hT ?_
      refine ⟨by show 2 ≤ sizeLine; decide, _, .cons (b := Value.int (0 + (i : Nat)) t) ⟨t, ?_⟩ (.cons r1 .nil), tup⟩
      rw [Int.zero_add]
    · rw [I.tuple_inj hx' hx]; exact ex
    · have : b' < s.heap.objs.size := by
        obtain ⟨old, t1⟩ := t1
        obtain ⟨o4, t4, _, _⟩ := t4
        simp only [List.mem_cons, List.not_mem_nil, or_false] at hb'
        rcases hb' with rfl | rfl
        · exact Gm.lt_of_get t1
        · exact Gm.lt_of_get t4
      rw [upd_ne (Nat.ne_of_lt (Nat.lt_of_lt_of_le this hT))]
      exact (fp b' hb').1
  · rintro X rfl rfl rfl hc i pins s σ H E I fp ⟨t1, t4⟩ ⟨xs, hx, rfl⟩
    obtain ⟨its1, v1, p1, _⟩ := I.tuple hx
    have hd : X.A.in1.handled = none := I.ok.hd hc
    have G := GoesN.enumFrom (elts := elts) (x1 := kk) (pos := tpos) 0 (Draws.tuple (prog := X.prog) (w := X.w) hd it a h3 its1.toArray) e h1 (by simp only [List.mem_cons, List.not_mem_nil, or_false, not_or]; exact ⟨h1, h2.symm⟩) (by simp)
    have l1 := v1.length
    have en : its1.toArray.size = xs.length := by simp; omega
    rw [en] at G
    refine G.stops s (fun s1 => L2.Inv X pins σ H s1) E ⟨t1, t4, p1⟩ fun h' tk keep _ => ?_
    exact I.turnedL keep fun b' hb' => fp b' hb'
  · rintro A i s Q E ⟨⟨old, t1⟩, _⟩ q
    exact wpAny_pyIter_enum t1 q
theorem fp2 {X : Cx} {pins : List (Addr × Obj)} {σ : L2.St} {H : Hp} {s : Shared} (I : L2.Inv X pins σ H s) : ∀ b ∈ [s.heap.objs.size + 1, s.heap.objs.size], FpOk X pins H b := fun b hb => by
  simp only [List.mem_cons, List.not_mem_nil, or_false] at hb
  have h : s.heap.objs.size ≤ b := by rcases hb with rfl | rfl <;> first | exact Nat.le_add_right _ _ | exact Nat.le_refl _
  exact I.fpOk h (I.hok.fresh h)
/-- a list or a tuple -/
def iEnumM (K : PySem.W.Frag) (ta : TA) : TI := fun σ H R => ta σ H fun vs H1 => ∃ a xs, vs = [V.ref a] ∧ ((SqL K H1 a xs ∧ R (Ite K a) H1) ∨ (SqT K H1 a xs ∧ R (ItE K a) H1))
theorem ne_lt {a N : Nat} (h : a < N) : a ≠ N + 1 ∧ a ≠ N := by omega
theorem pi_enumM {X : Cx} {e : Expr} {ta : TA} {p pos tpos : Pos} {elts : List Expr} {kk : Nat} (hg : Gl X "enumerate") (hm : X.mg "enumerate" = none) (ha : PA X [e] ta)
    (hs : starEach [e] X.env = (false, eval e X.env) :: starEach [] X.env := by rfl) (hpl : ((backTo pos (starEach [] X.env)).any fun x => x.1) = false := by rfl) :
    PI X (Expr.Tuple elts kk tpos) ((Expr.Name "enumerate" p).Call [e] [] pos) (iEnumM X.K ta) := by
  refine ⟨fun pins s σ H R I h => Call_ (ld_blt I hg hm boot_enumerate (PyProof.Rows.callWith_type1 (thn (ha.run pos pins s σ H _ I h) ?_) hs hpl))⟩
  rintro us s1 ⟨vs, H1, I1, r1, a, xs, rfl, q1⟩
  cases r1 with
  | cons r1 rr =>
    cases rr
    cases r1
    rcases q1 with ⟨hx, hR⟩ | ⟨hx, hR⟩
    · obtain ⟨its1, v1, p1, _⟩ := I1.list hx
      refine call_enum1 (begins_list a its1.toArray) p1.isList fun h' z1 z2 z3 z4 => wpAny_pyIter_enum z1 ?_
      exact ⟨_, _, _, _, H1, rfl, I1.kept z4, turn_enum a _ _, ⟨⟨_, z1⟩, ⟨_, z2, rfl, rfl⟩, Nat.succ_ne_self _⟩, fp2 I1, hR⟩
    · obtain ⟨its1, v1, p1, _⟩ := I1.tuple hx
      refine call_enum1 (begins_tuple a its1.toArray) p1 fun h' z1 z2 z3 z4 => wpAny_pyIter_enum z1 ?_
      obtain ⟨o1, g1, _⟩ := p1
      obtain ⟨n1, n2⟩ := ne_lt (Gm.lt_of_get g1)
      exact ⟨_, _, _, _, H1, rfl, I1.kept z4, turn_enumT (Nat.succ_ne_self _) n1 n2, ⟨⟨_, z1⟩, ⟨_, z2, rfl, rfl⟩⟩, fp2 I1, hR⟩
theorem walk_enumT {K : PySem.W.Frag} {a : Addr} {xs : List V} : Walk (ItE K a) xs.length (fun H => SqT K H a xs) (YPair (fun i => some (V.int (i : Nat))) fun i => xs[i]?) := by
  refine ⟨fun i H hi g => ?_, fun H g => ?_, fun i H x H' hi g y => ?_⟩
  · exact ⟨xs, _, g, List.getElem?_eq_getElem (by omega)⟩
  · exact ⟨xs, g, rfl⟩
  · obtain ⟨T, x1, e, hT, e2, k1⟩ := y
    exact ⟨T, _, x1, e, hT, e2, rfl, k1 xs g⟩
def iEnumV (i : Nat) : TI := fun σ H R => ∃ (a : Addr) (xs : List V), σ[i]? = some (some (.ref a)) ∧ ClAt H a xs ∧ ∀ J, Walk J xs.length (fun H' => H' a = H a) (YPair (fun i => some (V.int (i : Nat))) fun i => xs[i]?) → R J H
theorem iEnum_ok {K : PySem.W.Frag} {i : Nat} : ∀ (σ : L2.St) (H : Hp) (R : It → Hp → Prop), iEnumV i σ H R → iEnumM K (tCons (tVar i) tNil) σ H R := by
  rintro σ H R ⟨a, xs, h1, hc, k⟩
  rcases hc with h3 | h3
  · exact ⟨_, h1, a, xs, rfl, .inl ⟨SqL.of h3, k _ (wW walk_enum fun H' e => SqL.of (e.trans h3))⟩⟩
  · exact ⟨_, h1, a, xs, rfl, .inr ⟨SqT.of h3, k _ (wW walk_enumT fun H' e => SqT.of (e.trans h3))⟩⟩
theorem same_bool (b c : Bool) : isSame (Value.bool b) (Value.bool c) = pure (b == c) := by cases b <;> cases c <;> rfl
theorem op_isnotB {X : Cx} : OpR X (compareOp CmpOp.IsNot) fun x y H Q => ∃ b c, x = V.bl b ∧ y = V.bl c ∧ Q (V.bl (!(b == c))) H := by
  rintro pins s σ H x y v u Q I r1 r2 ⟨b, c, rfl, rfl, q⟩
  cases r1
  cases r2
  unfold compareOp
  refine wpAny_bind ?_
  refine wpAny_of_eq (same_bool b c) ?_
  refine wpAny_pure ?_
  exact fin_bl I q rfl
end Gq

set_option Elab.async false
set_option linter.all false
set_option maxRecDepth 100000
set_option maxHeartbeats 4000000
/-! a value of any kind beside texts; a list of anything beside an empty one -/
namespace Gj
open L2 hiding Ext
open PySem PySem.Spec PyProof.Rows Gn Gk Gu SeqAt
theorem dict_not_str (a : Addr) (ob : Obj) (b : Str) (u : Tok) (hc : ob.cls = .type "dict") :
    Meets (Builtin.«dict.__eq__» ⟨[.ref a, .str b u], []⟩) (fun _ R s => s.heap.get? a = some ob ∧ R (.ok (.ret .notImplemented)) s) :=
  .of_wp fun prog w A R s h => by
    obtain ⟨hp, g, d, tk, os⟩ := s
    obtain ⟨hl, h⟩ := h
    have f1 := F.sub_str_dict
    unfold Builtin.«dict.__eq__»
    wp_walk using wpAny_loadPart' hl
    exact ⟨_, rfl, h⟩
theorem str_not_dict (b : Str) (u : Tok) (a : Addr) (ob : Obj) :
    Meets (Builtin.«str.__eq__» ⟨[.str b u, .ref a], []⟩) (fun _ R s => s.heap.get? a = some ob ∧ (∃ es ep, ob.data = .dict es ep) ∧ R (.ok (.ret .notImplemented)) s) :=
  .of_wp fun prog w A R s h => by
    obtain ⟨hp, g, d, tk, os⟩ := s
    obtain ⟨hl, ⟨es, ep, hd⟩, h⟩ := h
    obtain ⟨c, dd, data, sl⟩ := ob
    subst hd
    wp_walk using wpAny_loadPart' hl, wpAny_load hl
    exact ⟨_, rfl, h⟩
theorem rc_str_dict {A : Around} {s : Shared} {a : Addr} {ob : Obj} (b : Str) (u : Tok) (hl : s.heap.get? a = some ob) (hc : ob.cls = .type "dict") (hd : ∃ es ep, ob.data = .dict es ep) (hu : A.units < cLine) : RcAt A s (.str b u) (.ref a) false := fun prog w E Q h =>
  rc_eq_decline_or (k := false) (typeIs_str s b u) ⟨_, hl, hc⟩ (by decide) F.sub_dict_str F.slot_str_eq F.slot_dict_eq_refl
    (fun _ hq => call_meets F.slot_str_eq (typeIs_str s b u) F.entry_str_eq (F.args_str_eq_2 _ _) (str_not_dict b u a ob) ⟨hl, hd, hq⟩)
    (fun _ hq => call_meets F.slot_dict_eq_refl ⟨_, hl, hc⟩ F.entry_dict_eq (F.args_dict_eq_2 _ _) (dict_not_str a ob b u hc) ⟨hl, hq⟩)
    (fun _ hq => wpAny_of_eq (rfl : isSame (.str b u) (.ref a) = pure false) hq) (.inr hu) h
theorem eq_str_dict {A : Around} {s : Shared} {a : Addr} {ob : Obj} (b : Str) (u : Tok) (hl : s.heap.get? a = some ob) (hc : ob.cls = .type "dict") (hd : ∃ es ep, ob.data = .dict es ep) (hu : A.units < cLine) : EqAt A s (.str b u) (.ref a) false := fun prog w E Q h => by
  unfold eqBool
  refine wpAny_holding (wpAny_ite_split (fun hab => absurd (eq_of_beq hab) nofun) fun _ => ?_)
  exact wpAny_bind (rc_str_dict b u hl hc hd hu prog w E _ (wpAny_truthy_bool h))
/-- a list, a tuple or a dict -/
def Cont (H : Hp) (a : Addr) : Prop := (∃ xs, H a = some (.lst xs)) ∨ (∃ xs, H a = some (.tup xs)) ∨ ∃ kvs, H a = some (.dK kvs)
theorem Cont.ext {H H' : Hp} {a : Addr} (h : Cont H a) (k : ∀ b o, H b = some o → H' b = some o) : Cont H' a :=
  h.elim (fun ⟨x, e⟩ => .inl ⟨x, k _ _ e⟩) fun h => h.elim (fun ⟨x, e⟩ => .inr (.inl ⟨x, k _ _ e⟩)) fun ⟨x, e⟩ => .inr (.inr ⟨x, k _ _ e⟩)
theorem str_cont {X : Cx} {pins : List (Addr × Obj)} {σ : L2.St} {H : Hp} {s : Shared} (I : L2.Inv X pins σ H s) {a : Addr} (h : Cont H a) {A : Around} (hu : A.units < cLine) (b : Str) (u : Tok) : EqAt A s (.str b u) (.ref a) false := by
  rcases h with ⟨xs, h⟩ | ⟨xs, h⟩ | ⟨kvs, h⟩
  · obtain ⟨its, _, p, _⟩ := I.list (SqL.of h)
    exact EqAt.str_list b u p.isList hu
  · obtain ⟨its, _, p, _⟩ := I.tuple (SqT.of h)
    exact EqAt.str_tuple b u p hu
  · obtain ⟨_, _, vs, _, d⟩ := I.hok a _ h
    obtain ⟨o, es, ep, ho, hx, hdt, _⟩ := d
    exact eq_str_dict b u ho hx.1 ⟨es, ep, hdt⟩ hu
theorem str_flat (ws : List Str) : (ws.map V.str).all flatV = true := by
  rw [List.all_eq_true]
  intro x hx
  obtain ⟨w, _, rfl⟩ := List.mem_map.mp hx
  rfl
/-- x in a list or a tuple of texts, x of any kind -/
def rInO (neg : Bool) : R2 := fun x y H Q => ∃ (p : Addr) (ws : List Str), y = .ref p ∧ (H p = some (.lst (ws.map V.str)) ∨ H p = some (.tup (ws.map V.str))) ∧
  ((flatV x = true ∧ Q (.bl (if neg then !inV x (ws.map V.str) else inV x (ws.map V.str))) H) ∨ ∃ a, x = .ref a ∧ Cont H a ∧ Q (.bl neg) H)
theorem strs_false {X : Cx} {pins : List (Addr × Obj)} {σ : L2.St} {H : Hp} {s : Shared} (I : L2.Inv X pins σ H s) {a : Addr} (h : Cont H a) {A : Around} (hu : A.units < cLine) : ∀ {ws : List Str} {us : List Value}, Vals (ws.map V.str) us → ∀ y ∈ us, EqAt A s y (.ref a) false
  | [], _, .nil, y, hy => by cases hy
  | w :: ws, _, .cons r t, y, hy => by
    obtain ⟨tk, rfl⟩ := r
    rcases List.mem_cons.mp hy with rfl | hy
    · exact str_cont I h hu w tk
    · exact strs_false I h hu t y hy
section
variable {X : Cx} (h64 : X.A.units + 64 < cLine)
include h64 in
theorem op_inO : OpR X (compareOp .In) (rInO false) := by
  have hu : X.A.in1.units < cLine := by show X.A.units + 1 < cLine; omega
  have hu0 : X.A.units < cLine := by omega
  intro pins s σ H x y v u Q I rx ry h
  obtain ⟨p, ws, rfl, hp, h⟩ := h
  rcases h with ⟨fx, q⟩ | ⟨a, rfl, hc, q⟩
  · refine op_in_seq pins s σ H x _ v u Q I rx ry ⟨p, _, rfl, hp.elim (fun e => .inl (SqL.of e)) (fun e => .inr (SqT.of e)), fx, str_flat _, q⟩
  · cases rx
    cases ry
    rcases hp with hp | hp
    · obtain ⟨its, r, pl, _⟩ := I.list (SqL.of hp)
      refine in_listAt (fun _ => false) pl.isList (fun w hw => strs_false I hc hu r w (by simpa using hw)) ⟨.bl _, H, I, rfl, ?_⟩
      rw [show its.toArray.any (fun _ => false) = false by simp]
      exact q
    · obtain ⟨its, r, pl, _⟩ := I.tuple (SqT.of hp)
      refine in_tupleAt (fun _ => false) pl (fun w hw => strs_false I hc hu r w (by simpa using hw)) ⟨.bl _, H, I, rfl, ?_⟩
      rw [show its.toArray.any (fun _ => false) = false by simp]
      exact q
include h64 in
theorem op_notInO : OpR X (compareOp .NotIn) (rInO true) := by
  have hu : X.A.in1.units < cLine := by show X.A.units + 1 < cLine; omega
  have hu0 : X.A.units < cLine := by omega
  intro pins s σ H x y v u Q I rx ry h
  obtain ⟨p, ws, rfl, hp, h⟩ := h
  rcases h with ⟨fx, q⟩ | ⟨a, rfl, hc, q⟩
  · refine op_notIn_seq pins s σ H x _ v u Q I rx ry ⟨p, _, rfl, hp.elim (fun e => .inl (SqL.of e)) (fun e => .inr (SqT.of e)), fx, str_flat _, q⟩
  · cases rx
    cases ry
    rcases hp with hp | hp
    · obtain ⟨its, r, pl, _⟩ := I.list (SqL.of hp)
      refine notIn_listAt (fun _ => false) pl.isList (fun w hw => strs_false I hc hu r w (by simpa using hw)) ⟨.bl _, H, I, rfl, ?_⟩
      rw [show its.toArray.any (fun _ => false) = false by simp]
      exact q
    · obtain ⟨its, r, pl, _⟩ := I.tuple (SqT.of hp)
      refine notIn_tupleAt (fun _ => false) pl (fun w hw => strs_false I hc hu r w (by simpa using hw)) ⟨.bl _, H, I, rfl, ?_⟩
      rw [show its.toArray.any (fun _ => false) = false by simp]
      exact q
/-- a list of anything == a list of no item -/
def rEqE (K : PySem.W.Frag) (neg : Bool) : R2 := fun x y H Q => ∃ (a b : Addr) (xs : List V), x = .ref a ∧ y = .ref b ∧ SqL K H a xs ∧ SqL K H b [] ∧ Q (.bl (if neg then !xs.isEmpty else xs.isEmpty)) H
include h64 in
theorem op_eqE : OpR X (compareOp .Eq) (rEqE X.K false) := by
  have hu : X.A.in1.units < cLine := by show X.A.units + 1 < cLine; omega
  have hu0 : X.A.units < cLine := by omega
  intro pins s σ H x y v u Q I rx ry h
  obtain ⟨a, b, xs, rfl, rfl, ha, hb, q⟩ := h
  cases rx
  cases ry
  obtain ⟨its, r, pa, _⟩ := I.list ha
  obtain ⟨its2, r2, pb, _⟩ := I.list hb
  cases r2
  cases r with
  | nil =>
    refine eq_listAt (e := fun _ => true) pa.isList pb.isList rfl hu0 (fun j h1 => absurd h1 (Nat.not_lt_zero j)) ⟨.bl _, H, I, rfl, ?_⟩
    exact q
  | cons r t =>
    refine eq_list_lengthsAt pa.isList pb.isList (by simp) hu0 ⟨.bl _, H, I, rfl, ?_⟩
    exact q
include h64 in
theorem op_neE : OpR X (compareOp .NotEq) (rEqE X.K true) := by
  have hu0 : X.A.units < cLine := by omega
  intro pins s σ H x y v u Q I rx ry h
  obtain ⟨a, b, xs, rfl, rfl, ha, hb, q⟩ := h
  cases rx
  cases ry
  obtain ⟨its, r, pa, _⟩ := I.list ha
  obtain ⟨its2, r2, pb, _⟩ := I.list hb
  cases r2
  cases r with
  | nil => exact RcNeAt.lists (e := fun _ => true) pa.isList pb.isList rfl hu0 (fun j h1 => absurd h1 (Nat.not_lt_zero j)) _ _ _ _ ⟨.bl _, H, I, rfl, q⟩
  | cons r t => exact RcNeAt.lists_lengths pa.isList pb.isList (by simp) hu0 _ _ _ _ ⟨.bl _, H, I, rfl, q⟩
end
end Gj

set_option Elab.async false
set_option linter.all false
set_option maxRecDepth 100000
set_option maxHeartbeats 4000000
/-! enumerate(.., start=k) of a tuple -/
namespace Gs
open L2 hiding Ext
open PySem PySem.Spec PyProof.Rows Gn Gk Gu Gq
section
variable {M : Model} {A : Around} {E : Value → Shared → Prop} {s : Shared} {env : Env}
theorem callWith_type_kwB {pos : Pos} {T : String} {first : List Value} {args : List (Bool × Sem Value)} {keywords : List (Option Str × Sem Value)} {Q : Value → Shared → Prop}
    (hplain : args.any (·.1) = false) (hkw : keywords.any (·.1.isNone) = false)
    (h : wpAny M A (evalArgs (.type T) true args keywords) (fun a s₁ => wpAny M A (call (.type T) (first ++ a.pos) a.kw) Q E s₁) E s) :
    wpAny M A (callWith pos (.type T) first args keywords) Q E s := by
  unfold callWith
  refine wpAny_bind (wpAny_holding (wpAny_mono h (fun a s₁ h₁ => wpAny_bind (wpAny_standAt ?_)) fun _ _ x => x))
  simp only [hplain, hkw, Bool.or_false]
  refine wpAny_bind (wpAny_pure ?_)
  exact wpAny_bind (wpAny_mono h₁ (fun r s₂ hr => wpAny_bind (wpAny_holding (wpAny_point (wpAny_pure hr)))) fun _ _ x => x)
theorem callWith_typeKw {pos : Pos} {T : String} {e : Expr} {rest : List Expr} {kws : List Keyword} {Q : Value → Shared → Prop}
    (h : wpAny M A (spliced (backTo pos (starEach (e :: rest) env))) (fun vs s₁ => wpAny M A (evalAll ((backToKw pos (keywordEach kws env)).map (·.2)))
      (fun kvs s₂ => wpAny M A (call (.type T) vs (((backToKw pos (keywordEach kws env)).filterMap (·.1)).zip kvs)) Q E s₂) E s₁) E s)
    (he : backTo pos (starEach (e :: rest) env) = (false, eval e env) :: backTo pos (starEach rest env))
    (hplain : (backTo pos (starEach (e :: rest) env)).any (·.1) = false)
    (hall : (backToKw pos (keywordEach kws env)).all (·.1.isSome) = true)
    (hkw : (backToKw pos (keywordEach kws env)).any (·.1.isNone) = false) :
    wpAny M A (callWith pos (.type T) [] (backTo pos (starEach (e :: rest) env)) (backToKw pos (keywordEach kws env))) Q E s := by
  refine callWith_type_kwB hplain hkw ?_
  rw [he] at h ⊢
  exact evalArgs_kwB hall h
end
def ItS (K : PySem.W.Frag) (a : Addr) (k0 : Int) : It where
  go := fun i H => ∃ xs x, SqT K H a xs ∧ xs[i]? = some x
  yld := fun i H v H' => ∃ T x, v = V.ref T ∧ H T = none ∧ H' = upd H T (.tup [.int (k0 + (i : Nat)), x]) ∧ ∀ xs, SqT K H a xs → xs[i]? = some x
  stop := fun i H => ∃ xs, SqT K H a xs ∧ i = xs.length
def tnS (k0 : Int) (a e it : Addr) (i : Nat) (h : Heap) : Prop := (∃ old, IsEnum h e it (k0 + (i : Nat)) old) ∧ h.IsTupleIter it a i
theorem turn_enumS {P : Program} {w : World} {K : PySem.W.Frag} {elts : List Expr} {kk : Nat} {tpos : Pos} {a e it : Addr} {k0 : Int} (h1 : e ≠ it) (h2 : a ≠ e) (h3 : a ≠ it) :
    Turn P w K (Expr.Tuple elts kk tpos) (ItS K a k0) [e, it] e (tnS k0 a e it) := by
  refine ⟨by simp, ?_, ?_, ?_, ?_, ?_⟩
  · rintro i hp ⟨⟨old, h1⟩, ⟨o4, h4, _, d4⟩⟩ b' hb
    simp only [List.mem_cons, List.not_mem_nil, or_false] at hb
    rcases hb with rfl | rfl
    · exact ⟨_, h1, fun v e => by cases e⟩
    · exact ⟨_, h4, fun v e => by rw [d4] at e; cases e⟩
  · rintro i hp hp' ⟨⟨old, h1⟩, ⟨o4, h4, c4, d4⟩⟩ k
    exact ⟨⟨old, k _ (by simp) _ h1⟩, ⟨o4, k _ (by simp) _ h4, c4, d4⟩⟩
  · rintro X rfl rfl rfl hc i pins s σ H E I fp ⟨t1, t4⟩ ⟨xs, x, hx, ex⟩
    obtain ⟨its1, v1, p1, _⟩ := I.tuple hx
    have hd : X.A.in1.handled = none := I.ok.hd hc
    have G := GoesN.enumFrom (elts := elts) (x1 := kk) (pos := tpos) k0 (Draws.tuple (prog := X.prog) (w := X.w) hd it a h3 its1.toArray) e h1 (by simp only [List.mem_cons, List.not_mem_nil, or_false, not_or]; exact ⟨h1, h2.symm⟩) (by simp)
    have hi1 := (List.getElem?_eq_some_iff.mp ex).1
    have l1 := v1.length
    refine G.goes i s (fun u s2 => ∃ x H', L2.Inv X pins σ H' s2 ∧ L2.RelV x u ∧ (ItS X.K a k0).yld i H x H' ∧ tnS k0 a e it (i + 1) s2.heap ∧ ∀ b ∈ [e, it], H' b = none) E (by simp; omega) ⟨t1, t4, p1⟩ ?_
    rintro v h' tk ⟨T, t, x', rfl, hT, e1, tup⟩ ⟨s1, s4, _⟩ keep _
    obtain ⟨u1, g1, r1⟩ := v1.get ex
    have e1 : its1[i]? = some x' := by simpa using e1
    rw [g1] at e1
    cases e1
    have fr := I.hok.fresh hT
    refine ⟨V.ref T, upd H T (.tup [.int (k0 + (i : Nat)), x]), ?_, rfl, ⟨T, x, rfl, fr, rfl, fun xs' hx' => ?_⟩, ⟨s1, s4⟩, fun b' hb' => ?_⟩
    · refine I.turnedNew keep (fun b' hb' => fp b' hb') hT ?_
      refine ⟨by show 2 ≤ sizeLine; decide, _, .cons (b := Value.int (k0 + (i : Nat)) t) ⟨t, rfl⟩ (.cons r1 .nil), tup⟩
    · rw [I.tuple_inj hx' hx]; exact ex
    · have : b' < s.heap.objs.size := by
        obtain ⟨old, t1⟩ := t1
        obtain ⟨o4, t4, _, _⟩ := t4
        simp only [List.mem_cons, List.not_mem_nil, or_false] at hb'
        rcases hb' with rfl | rfl
        · exact Gm.lt_of_get t1
        · exact Gm.lt_of_get t4
      rw [upd_ne (Nat.ne_of_lt (Nat.lt_of_lt_of_le this hT))]
      exact (fp b' hb').1
  · rintro X rfl rfl rfl hc i pins s σ H E I fp ⟨t1, t4⟩ ⟨xs, hx, rfl⟩
    obtain ⟨its1, v1, p1, _⟩ := I.tuple hx
    have hd : X.A.in1.handled = none := I.ok.hd hc
    have G := GoesN.enumFrom (elts := elts) (x1 := kk) (pos := tpos) k0 (Draws.tuple (prog := X.prog) (w := X.w) hd it a h3 its1.toArray) e h1 (by simp only [List.mem_cons, List.not_mem_nil, or_false, not_or]; exact ⟨h1, h2.symm⟩) (by simp)
    have l1 := v1.length
    have en : its1.toArray.size = xs.length := by simp; omega
    rw [en] at G
    refine G.stops s (fun s1 => L2.Inv X pins σ H s1) E ⟨t1, t4, p1⟩ fun h' tk keep _ => ?_
    exact I.turnedL keep fun b' hb' => fp b' hb'
  · rintro A i s Q E ⟨⟨old, t1⟩, _⟩ q
    exact wpAny_pyIter_enum t1 q
/-- a tuple, from k0 on -/
def iEnumS (K : PySem.W.Frag) (k0 : Int) (ta : TA) : TI := fun σ H R => ta σ H fun vs H1 => ∃ a xs, vs = [V.ref a] ∧ SqT K H1 a xs ∧ R (ItS K a k0) H1
theorem pi_enumS {X : Cx} {e : Expr} {ta : TA} {p pos tpos kp cp : Pos} {elts : List Expr} {kk ck : Nat} {k0 : Int} (hk0 : -(2 ^ 63) ≤ k0) (hk1 : k0 < 2 ^ 63) (hg : Gl X "enumerate") (hm : X.mg "enumerate" = none) (ha : PA X [e] ta)
    (he : backTo pos (starEach [e] X.env) = (false, eval e X.env) :: backTo pos (starEach [] X.env) := by rfl) (hpl : (backTo pos (starEach [e] X.env)).any (·.1) = false := by rfl) :
    PI X (Expr.Tuple elts kk tpos) ((Expr.Name "enumerate" p).Call [e] [⟨some "start", .Constant (.int k0) ck cp, kp⟩] pos) (iEnumS X.K k0 ta) := by
  refine ⟨fun pins s σ H R I h => ?_⟩
  refine wpAny_Call_Name_kw (ld_blt I hg hm boot_enumerate ?_)
  refine callWith_typeKw (thn (ha.run pos pins s σ H _ I h) ?_) he hpl (by rfl) (by rfl)
  rintro us s1 ⟨vs, H1, I1, r1, a, xs, rfl, hx, hR⟩
  cases r1 with
  | cons r1 rr =>
    cases rr
    cases r1
    refine kws_cons (thn ((pe_int (X := X) (i := k0)).run pins s1 σ H1 (fun x H2 => x = V.int k0 ∧ H2 = H1) I1 ⟨rfl, rfl⟩) fun v s2 ⟨x, H2, I2, r2, ex, e2⟩ => kws_nil ?_)
    subst ex e2
    obtain ⟨t, rfl⟩ := r2
    obtain ⟨its1, v1, p1, _⟩ := I2.tuple hx
    refine enum_begins_start (begins_tuple a its1.toArray) p1 hk0 hk1 fun h' z1 z2 z3 z4 => wpAny_pyIter_enum z1 ?_
    obtain ⟨o1, g1, _⟩ := p1
    obtain ⟨n1, n2⟩ := ne_lt (Gm.lt_of_get g1)
    exact ⟨_, _, _, _, H2, rfl, I2.kept z4, turn_enumS (Nat.succ_ne_self _) n1 n2, ⟨⟨_, by simpa using z1⟩, ⟨_, z2, rfl, rfl⟩⟩, fp2 I2, hR⟩
theorem walk_enumS {K : PySem.W.Frag} {a : Addr} {xs : List V} {k0 : Int} : Walk (ItS K a k0) xs.length (fun H => SqT K H a xs) (YPair (fun i => some (V.int (k0 + (i : Nat)))) fun i => xs[i]?) := by
  refine ⟨fun i H hi g => ?_, fun H g => ?_, fun i H x H' hi g y => ?_⟩
  · exact ⟨xs, _, g, List.getElem?_eq_getElem (by omega)⟩
  · exact ⟨xs, g, rfl⟩
  · obtain ⟨T, x1, e, hT, e2, k1⟩ := y
    exact ⟨T, _, x1, e, hT, e2, rfl, k1 xs g⟩
end Gs

set_option Elab.async false
set_option linter.all false
set_option maxRecDepth 100000
set_option maxHeartbeats 4000000
namespace Lw
open L2 hiding Ext
open PySem PySem.Spec PyProof.Rows Gn Gr Gk Go Gt Gf Gu
structure Fo3 (P : Program) (w : World) (K : PySem.W.Frag) (mg : Str → Option Value) (base : Heap) (C fI pN fN : Addr) (mc : Value) (fdN : FuncData) : Prop where
  Z : FC K mg C fI mc
  hpN : PropOf K C "names" pN fN
  GN : FnOk P w K mg base CX0 1 fN fdN ["self"] (spNames C)
  bN : Binds K fdN ["self"] []
/-! ### values of any kind, as data -/
mutual
inductive Dk (d g : Addr) (H : Hp) : V → PyData → Prop
  | non : Dk d g H .non .none
  | bl (b : Bool) : Dk d g H (.bl b) (.bool b)
  | int (i : Int) : Dk d g H (.int i) (.int i)
  | str (x : Str) : Dk d g H (.str x) (.str x)
  | lst {a : Addr} {xs : List V} {ds : List PyData} : H a = some (.lst xs) → a ≠ d → a ≠ g → DkAll d g H xs ds → Dk d g H (.ref a) (.list ds)
  | tup {a : Addr} {xs : List V} {ds : List PyData} : H a = some (.tup xs) → a ≠ d → a ≠ g → DkAll d g H xs ds → Dk d g H (.ref a) (.tuple ds)
  | dct {a : Addr} : H a = some (.dK []) → a ≠ d → a ≠ g → Dk d g H (.ref a) (.dict [])
inductive DkAll (d g : Addr) (H : Hp) : List V → List PyData → Prop
  | nil : DkAll d g H [] []
  | cons {v : V} {vs : List V} {x : PyData} {ds : List PyData} : Dk d g H v x → DkAll d g H vs ds → DkAll d g H (v :: vs) (x :: ds)
end
variable {d g : Addr} {H H' : Hp}
mutual
theorem Dk.kp (k : Kp d g H H') : ∀ {v : V} {x : PyData}, Dk d g H v x → Dk d g H' v x
  | _, _, .non => .non
  | _, _, .bl b => .bl b
  | _, _, .int i => .int i
  | _, _, .str x => .str x
  | _, _, .lst h n1 n2 a => .lst (k _ _ n1 n2 h) n1 n2 (DkAll.kp k a)
  | _, _, .tup h n1 n2 a => .tup (k _ _ n1 n2 h) n1 n2 (DkAll.kp k a)
  | _, _, .dct h n1 n2 => .dct (k _ _ n1 n2 h) n1 n2
theorem DkAll.kp (k : Kp d g H H') : ∀ {vs : List V} {ds : List PyData}, DkAll d g H vs ds → DkAll d g H' vs ds
  | _, _, .nil => .nil
  | _, _, .cons h a => .cons (Dk.kp k h) (DkAll.kp k a)
end
mutual
theorem Dk.dr : ∀ {v : V} {x : PyData}, Dk d g H v x → Dr H v x
  | _, _, .non => .non
  | _, _, .bl b => .bl b
  | _, _, .int i => .int i
  | _, _, .str x => .str x
  | _, _, .lst h _ _ a => .lst h (DkAll.dr a)
  | _, _, .tup h _ _ a => .tup h (DkAll.dr a)
  | _, _, .dct h _ _ => .dct h .nil
theorem DkAll.dr : ∀ {vs : List V} {ds : List PyData}, DkAll d g H vs ds → DrAll H vs ds
  | _, _, .nil => .nil
  | _, _, .cons h a => .cons (Dk.dr h) (DkAll.dr a)
end
theorem DkAll.len : ∀ {vs : List V} {ds : List PyData}, DkAll d g H vs ds → vs.length = ds.length
  | _, _, .nil => rfl
  | _, _, .cons h a => by rw [List.length_cons, List.length_cons, DkAll.len a]
theorem DkAll.get : ∀ {vs : List V} {ds : List PyData}, DkAll d g H vs ds → ∀ {i : Nat} {v : V}, vs[i]? = some v → ∃ x, ds[i]? = some x ∧ Dk d g H v x
  | _, _, .nil, _, _, h => by cases h
  | _, _, .cons h a, 0, _, e => by cases e; exact ⟨_, rfl, h⟩
  | _, _, .cons h a, i + 1, _, e => DkAll.get a (i := i) e
theorem DkAll.app : ∀ {vs : List V} {ds : List PyData} {us : List V} {es : List PyData}, DkAll d g H vs ds → DkAll d g H us es → DkAll d g H (vs ++ us) (ds ++ es)
  | _, _, _, _, .nil, b => b
  | _, _, _, _, .cons h a, b => .cons h (DkAll.app a b)
theorem DkAll.take : ∀ {vs : List V} {ds : List PyData} (n : Nat), DkAll d g H vs ds → DkAll d g H (vs.take n) (ds.take n)
  | _, _, 0, _ => by rw [List.take_zero, List.take_zero]; exact .nil
  | _, _, n + 1, .nil => .nil
  | _, _, n + 1, .cons h a => .cons h (DkAll.take n a)
theorem DkAll.drop : ∀ {vs : List V} {ds : List PyData} (n : Nat), DkAll d g H vs ds → DkAll d g H (vs.drop n) (ds.drop n)
  | _, _, 0, h => h
  | _, _, n + 1, .nil => .nil
  | _, _, n + 1, .cons h a => DkAll.drop n a
/-- what judges of values are told -/
def isN (m : Int) : PyData → Bool
  | .int i => decide (1 ≤ i ∧ i ≤ m)
  | _ => false
theorem Dk.amt {v : V} {x : PyData} (h : Dk d g H v x) : AmtV H v (isN 1000000000 x) := by
  cases h with
  | int i =>
    refine .inl ⟨i, rfl, ?_⟩
    show decide (1 ≤ i ∧ i ≤ 1000000000) = (decide (1 ≤ i) && decide (i ≤ 1000000000))
    exact Bool.decide_and _ _
  | non => exact .inr ⟨rfl, .inl .non⟩
  | bl b => exact .inr ⟨rfl, .inr (.inl (.bl b))⟩
  | str x => exact .inr ⟨rfl, .inr (.inr (.inl (.str x)))⟩
  | lst e => exact .inr ⟨rfl, .inr (.inr (.inr (.inl (.lst e))))⟩
  | tup e => exact .inr ⟨rfl, .inr (.inr (.inr (.inr (.inl (.tup e)))))⟩
  | dct e => exact .inr ⟨rfl, .inr (.inr (.inr (.inr (.inr (.dct e)))))⟩
def isD : PyData → Bool
  | .int _ => true
  | _ => false
theorem Dk.intv {v : V} {x : PyData} (h : Dk d g H v x) : IntV H v (isD x) := by
  cases h with
  | int i => exact .inl ⟨i, rfl, rfl⟩
  | non => exact .inr ⟨rfl, .inl .non⟩
  | bl b => exact .inr ⟨rfl, .inr (.inl (.bl b))⟩
  | str x => exact .inr ⟨rfl, .inr (.inr (.inl (.str x)))⟩
  | lst e => exact .inr ⟨rfl, .inr (.inr (.inr (.inl (.lst e))))⟩
  | tup e => exact .inr ⟨rfl, .inr (.inr (.inr (.inr (.inl (.tup e)))))⟩
  | dct e => exact .inr ⟨rfl, .inr (.inr (.inr (.inr (.inr (.dct e)))))⟩
theorem Dk.flat {v : V} {x : PyData} (h : Dk d g H v x) : flatV v = true ∨ ∃ a, v = .ref a ∧ Gj.Cont H a := by
  cases h with
  | lst e => exact .inr ⟨_, rfl, .inl ⟨_, e⟩⟩
  | tup e => exact .inr ⟨_, rfl, .inr (.inl ⟨_, e⟩)⟩
  | dct e => exact .inr ⟨_, rfl, .inr (.inr ⟨_, e⟩)⟩
  | _ => exact .inl rfl
def isA (ws : List Str) : PyData → Bool
  | .str x => decide (x ∈ ws)
  | _ => false
end Lw

set_option Elab.async false
set_option linter.all false
set_option maxRecDepth 100000
set_option maxHeartbeats 4000000
namespace Lw
open L2 hiding Ext
open PySem PySem.Spec PyProof.Rows Gn Gr Gk Go Gt Gf Gu
/-! ### is_claim of any value -/
def inD (ns : List Str) : PyData → Bool
  | .str s => decide (s ∈ ns)
  | _ => false
def btwD (lo hi : Int) : PyData → Bool
  | .int i => decide (lo ≤ i ∧ i ≤ hi)
  | _ => false
def claimB (ns : List Str) : PyData → Bool
  | .tuple [n, c] => inD ns n && btwD 0 1000000000 c
  | _ => false
theorem claimB_len {ns : List Str} : ∀ {ds : List PyData}, ds.length ≠ 2 → claimB ns (.tuple ds) = false
  | [], _ => rfl
  | [_], _ => by simp [claimB]
  | [_, _], h => absurd rfl h
  | _ :: _ :: _ :: _, _ => by simp [claimB]
section
variable {d g : Addr} {H : Hp}
theorem inV_not {v : V} {E : List Str} (h : ∀ s, v ≠ .str s) : inV v (E.map V.str) = false := by
  unfold inV
  rw [List.any_eq_false]
  intro y hy
  obtain ⟨e, _, rfl⟩ := List.mem_map.mp hy
  cases v with
  | str s => exact absurd rfl (h s)
  | _ => exact Bool.false_ne_true
theorem Dk.contA {a : Addr} {x : PyData} (h : Dk d g H (.ref a) x) : Gj.Cont H a := by
  cases h with
  | lst e => exact .inl ⟨_, e⟩
  | tup e => exact .inr (.inl ⟨_, e⟩)
  | dct e => exact .inr (.inr ⟨_, e⟩)
/-- whether a value stands in a list of texts -/
theorem Dk.inE {v : V} {x : PyData} (h : Dk d g H v x) (E : List Str) : (flatV v = true ∧ inV v (E.map V.str) = inD E x) ∨ ∃ a, v = .ref a ∧ Gj.Cont H a ∧ inD E x = false := by
  cases h with
  | non => exact .inl ⟨rfl, inV_not fun s e => by cases e⟩
  | bl b => exact .inl ⟨rfl, inV_not fun s e => by cases e⟩
  | int i => exact .inl ⟨rfl, inV_not fun s e => by cases e⟩
  | str m => exact .inl ⟨rfl, inV_strs m E⟩
  | lst h n1 n2 al => exact .inr ⟨_, rfl, Dk.contA (.lst h n1 n2 al), rfl⟩
  | tup h n1 n2 al => exact .inr ⟨_, rfl, Dk.contA (.tup h n1 n2 al), rfl⟩
  | dct h n1 n2 => exact .inr ⟨_, rfl, Dk.contA (.dct h n1 n2), rfl⟩
theorem Dk.nt9 {v : V} {x : PyData} (h : Dk d g H v x) : (∃ a xs ds, v = .ref a ∧ x = .tuple ds ∧ H a = some (.tup xs) ∧ DkAll d g H xs ds) ∨ (∃ T, TyT H v T ∧ kitB T "tuple" = some false ∧ ∀ E, claimB E x = false) := by
  cases h with
  | non => exact .inr ⟨_, .non, by decide +kernel, fun _ => rfl⟩
  | bl b => exact .inr ⟨_, .bl b, by decide +kernel, fun _ => rfl⟩
  | int i => exact .inr ⟨_, .int i, by decide +kernel, fun _ => rfl⟩
  | str x => exact .inr ⟨_, .str x, by decide +kernel, fun _ => rfl⟩
  | lst e => exact .inr ⟨_, .lst e, by decide +kernel, fun _ => rfl⟩
  | tup e _ _ z => exact .inl ⟨_, _, _, rfl, rfl, e, z⟩
  | dct e => exact .inr ⟨_, .dct e, by decide +kernel, fun _ => rfl⟩
end
section
variable {P : Program} {w : World} {K : PySem.W.Frag} {mg : Str → Option Value} {base : Heap} {C fI pN fN fA : Addr} {mc : Value} {fdN fdA : FuncData}
def spClaimX (C : Addr) : Sp := fun vs H Q _ => ∃ (a d g : Addr) (v : V) (x : PyData) (rs : List FRow), vs = [.ref a, v] ∧ FoAt C H a rs ∧ Dk d g H v x ∧ ∀ H', Ext H H' → Q (.bl (claimB (fNames rs) x)) H'
theorem ok_claimX {f fJ fB : Addr} {fd fdJ fdB : FuncData} (F : Fun K "is_claim" "is_claim" sIsClaim f fd) (T : Names mg) (Z : Fo P w K mg base C fI pN fN fA mc fdN fdA)
    (GI : FnOk P w K mg base CX0 1 fJ fdJ ["value"] spInt) (bI : Binds K fdJ ["value"] []) (kI : PySem.W.keepIn K (.ref fJ) = true) (mI : mg "is_int" = some (.ref fJ))
    (GA : FnOk P w K mg base CX0 2 fB fdB ["value"] spAmt) (bA : Binds K fdB ["value"] []) (kA : PySem.W.keepIn K (.ref fB) = true) (mA : mg "is_amount" = some (.ref fB)) :
    FnOk P w K mg base CX0 3 f fd ["forest", "value"] (spClaimX C) := by
  refine F.ok scIsClaim (fun vs H Q E h => ?_) (fun cdv A outer s H vs Q E hr h => ?_)
  · obtain ⟨a, d, g, v, x, rs, rfl, _⟩ := h
    rfl
  · obtain ⟨a, d, g, v, x, rs, rfl, hF, hv, k⟩ := h
    have hu := hu_of hr
    have nd := scIsClaim.nd
    have hr2 := hr
    have hrN := hr
    have hr1 : Room 1 (A.deeper (envOfC "is_claim" (defScope sIsClaim) s.heap.objs.size f cdv)) := hr.mono (by decide)
    refine ⟨_, pss_cons (ps_if (PW.pt (pw_or (pt_not (pt_val (pe_callB call_isi rfl T.isi (by decide +kernel) (pa_cons (pv 1) (pa_cons (pe_bltn (v := .ty "tuple") rfl T.tuple (by decide +kernel) rfl) pa_nil))))) (pw_or1 (pt_cmpR op_ne (pe_callB call_len_seq rfl T.len PySem.boot_len (pa_cons (pv 1) pa_nil)) pe_int (nomark _))))) (pss_one (ps_ret pe_bl)) pss_nil)
(pss_cons (ps_asg (pv 1) (by exact (pg_tup rfl (pgs_cons (pg_name (i := 2) nd rfl (.inl rfl)) (pgs_cons (pg_name (i := 3) nd rfl (.inl rfl)) pgs_nil)))))
(pss_one (ps_ret (pe_and (pe_cmpR (Gj.op_inO hr.units) (pv 2) (pe_prop (pv 0) Z.Z.cl Z.hpN Z.GN hrN Z.bN .nil pass0 rfl) rfl) (pe_and (pe_call GI hr1 rfl mI kI bI .nil pass0 (pa_cons (pv 3) pa_nil)) (pe_one (pe_or (pe_cmpR op_eq (pv 3) pe_int (nomark _)) (pe_one (pe_call GA hr2 rfl mA kA bA .nil pass0 (pa_cons (pv 3) pa_nil)))))))))), ?_⟩
    obtain ⟨dx, q0, h1, h2⟩ := id hF
    rcases hv.nt9 with ⟨p, xs, ds, rfl, rfl, hp, hd⟩ | ⟨T', ht, hk, hn⟩
    · have hl := DkAll.len hd
      refine ⟨_, rfl, _, _, _, _, true, rfl, .ty _, (TyT.tup hp).x, kit_ty (by decide +kernel), true, rfl, iteF ?_⟩
      by_cases h2' : xs.length = 2
      · refine ⟨_, rfl, p, _, rfl, .inr (SqT.of hp), rfl, _, rfl, iteNS (by rw [h2']; rfl) ?_⟩
        match xs, h2', ds, hl, hd, hp with
        | [v1, v2], _, [x1, x2], _, .cons d1 (.cons d2 .nil), hp =>
          have e : claimB (fNames rs) (.tuple [x1, x2]) = (inD (fNames rs) x1 && btwD 0 1000000000 x2) := by simp [claimB]
          rw [e] at k
          refine ⟨_, rfl, p, _, rfl, SqT.of hp, rfl, _, _, rfl, _, _, rfl, rfl, ?_⟩
          refine ⟨_, rfl, _, rfl, a, dx, _, rfl, h1, a, rs, rfl, hF, fun H1 t k1 _ ht => ?_⟩
          have z := k H1 k1
          have d2' : Dk d g H1 v2 x2 := Dk.kp (fun a o _ _ e => k1 _ _ e) d2
          rcases d1.inE (fNames rs) with ⟨hf, hin⟩ | ⟨a', rfl, hc, hin⟩
          · refine ⟨t, _, rfl, .inr ht, .inl ⟨hf, ?_⟩⟩
            show ∃ b, V.bl (inV v1 ((fNames rs).map V.str)) = V.bl b ∧ _
            rw [hin]
            cases hb : inD (fNames rs) x1 with
            | false =>
              rw [hb] at z
              exact ⟨false, rfl, iteF z⟩
            | true =>
              refine ⟨true, rfl, iteT ?_⟩
              rw [hb, Bool.true_and] at k
              rw [hb, Bool.true_and] at z
              cases d2' with
              | int i =>
                refine ⟨_, rfl, _, _, rfl, .inl ⟨i, rfl, rfl⟩, true, rfl, iteT ?_⟩
                refine ⟨_, rfl, rfl, _, rfl, ?_⟩
                refine ite2 (fun e => ?_) (fun e => ?_)
                · have e0 : i = 0 := by have := of_decide_eq_true e; injection this
                  subst e0
                  exact z
                · have e0 : i ≠ 0 := fun z => e (by rw [z]; rfl)
                  refine ⟨_, rfl, _, _, rfl, .inl ⟨i, rfl, rfl⟩, fun H' k' => ?_⟩
                  have ea : amtOk i = btwD 0 1000000000 (.int i) := by
                    unfold amtOk btwD
                    by_cases h1 : 1 ≤ i <;> by_cases h2 : i ≤ 1000000000 <;> simp [h1, h2] <;> omega
                  rw [ea]
                  exact k H' (k1.trans k')
              | non => exact ⟨_, rfl, _, _, rfl, .inr ⟨rfl, .inl .non⟩, false, rfl, iteF z⟩
              | bl b => exact ⟨_, rfl, _, _, rfl, .inr ⟨rfl, .inr (.inl (.bl b))⟩, false, rfl, iteF z⟩
              | str s => exact ⟨_, rfl, _, _, rfl, .inr ⟨rfl, .inr (.inr (.inl (.str s)))⟩, false, rfl, iteF z⟩
              | lst hq => exact ⟨_, rfl, _, _, rfl, .inr ⟨rfl, .inr (.inr (.inr (.inl (.lst hq))))⟩, false, rfl, iteF z⟩
              | tup hq => exact ⟨_, rfl, _, _, rfl, .inr ⟨rfl, .inr (.inr (.inr (.inr (.inl (.tup hq)))))⟩, false, rfl, iteF z⟩
              | dct hq => exact ⟨_, rfl, _, _, rfl, .inr ⟨rfl, .inr (.inr (.inr (.inr (.inr (.dct hq)))))⟩, false, rfl, iteF z⟩
          · refine ⟨t, _, rfl, .inr ht, .inr ⟨a', rfl, hc.ext k1, ?_⟩⟩
            rw [hin] at z
            exact ⟨false, rfl, iteF z⟩
      · refine ⟨_, rfl, p, _, rfl, .inr (SqT.of hp), rfl, _, rfl, ?_⟩
        have z := k H Ext.refl
        rw [claimB_len (by omega)] at z
        show if (!decide (V.int (xs.length : Nat) = V.int 2)) = true then _ else _
        rw [decide_eq_false (by intro e; injection e with e; omega)]
        exact iteT z
    · refine ⟨_, rfl, _, _, _, _, false, rfl, .ty _, ht.x, kit_ty hk, false, rfl, iteT ?_⟩
      have := k H Ext.refl
      rw [hn] at this
      exact this
end
end Lw

set_option Elab.async false
set_option linter.all false
set_option maxRecDepth 100000
set_option maxHeartbeats 4000000
/-! dicts whose keys are texts, whole numbers, truth values, None and tuples of texts and numbers, all in one -/
namespace Gdo
open PySem PySem.Spec PyProof.Rows
inductive OK where
  | non
  | bo (b : Bool)
  | sc (k : L2.Key)
  | tp (ks : List L2.Key)
deriving DecidableEq
def kD : L2.Key → PyData
  | .inl i => .int i
  | .inr x => .str x
def dk : OK → PyData
  | .non => .none
  | .bo b => .bool b
  | .sc k => kD k
  | .tp ks => .tuple (ks.map kD)
/-- no number that a truth value equals -/
def Big : OK → Prop
  | .sc (.inl i) => 2 ≤ i
  | _ => True
def Ky (P : Program) (w : World) (h : Heap) : OK → Value → Prop
  | .non, v => v = .none
  | .bo b, v => v = .bool b
  | .sc k, v => L2.keyIs k v = true
  | .tp ks, v => ∃ a, v = .ref a ∧ IsTupleKey (L2.mixKind P w) h ks a
def oh (P : Program) (w : World) : OK → Int
  | .non => reduceHash 0xFCA86420
  | .bo b => PpSet.hB b
  | .sc k => L2.keyH w k
  | .tp ks => tupleKeyHash (L2.mixKind P w) ks
def dr : OK → Nat
  | .tp ks => ks.length + 1
  | _ => 1
theorem reads_items {P : Program} {w : World} {h : Heap} : ∀ {ks : List L2.Key} {vs : List Value}, ItemsAre (L2.mixKind P w) ks vs → ReadsAll h vs (ks.map kD) []
  | [], _, .nil => .nil
  | k :: ks, _, .cons (v := v) h1 t => by
    have r : Reads h v (kD k) [] := by
      rcases L2.keyIs_shape h1 with ⟨i, t, rfl, rfl⟩ | ⟨x, t, rfl, rfl⟩
      · exact .int _ _
      · exact .str _ _
    exact .cons r (reads_items t)
theorem Ky.reads {P : Program} {w : World} {h : Heap} {k : OK} {v : Value} (z : Ky P w h k v) : Reads h v (dk k) [] := by
  cases k with
  | non => cases (show v = .none from z); exact .none
  | bo b => cases (show v = .bool b from z); exact .bool b
  | sc k =>
    rcases L2.keyIs_shape z with ⟨i, t, rfl, rfl⟩ | ⟨x, t, rfl, rfl⟩
    · exact .int _ _
    · exact .str _ _
  | tp ks =>
    obtain ⟨a, rfl, o, items, n, ho, hc, hd, hi⟩ := z
    exact .tuple ho hc hd (reads_items hi)
theorem kD_plain (k : L2.Key) : (kD k).plain = true ∧ (kD k).depth = 0 := by cases k <;> exact ⟨rfl, rfl⟩
theorem kDs_plain : ∀ ks : List L2.Key, PyData.plainAll (ks.map kD) = true ∧ PyData.depthAll (ks.map kD) = 0
  | [] => ⟨rfl, rfl⟩
  | k :: ks => by
    obtain ⟨a, b⟩ := kD_plain k
    obtain ⟨c, d⟩ := kDs_plain ks
    constructor
    · show (PyData.plain _ && PyData.plainAll _) = true
      rw [a, c]; rfl
    · show max (PyData.depth _) (PyData.depthAll _) = 0
      rw [b, d]; rfl
theorem dk_plain (k : OK) : (dk k).plain = true ∧ (dk k).depth ≤ 1 := by
  cases k with
  | non => exact ⟨rfl, Nat.zero_le _⟩
  | bo b => exact ⟨rfl, Nat.zero_le _⟩
  | sc k =>
    obtain ⟨a, b⟩ := kD_plain k
    exact ⟨a, by show (kD k).depth ≤ 1; omega⟩
  | tp ks =>
    obtain ⟨a, b⟩ := kDs_plain ks
    refine ⟨a, ?_⟩
    show PyData.depthAll _ + 1 ≤ 1
    omega
theorem kD_eqv (a b : L2.Key) : PyData.eqv (kD a) (kD b) = decide (a = b) := by
  cases a with
  | inl i =>
    cases b with
    | inl j =>
      show (i == j) = _
      by_cases e : i = j
      · subst e; simp
      · rw [decide_eq_false (fun z => e (Sum.inl.inj z))]; simpa using e
    | inr y => exact (decide_eq_false (fun z => nomatch z)).symm
  | inr x =>
    cases b with
    | inl j => exact (decide_eq_false (fun z => nomatch z)).symm
    | inr y =>
      show (x == y) = _
      by_cases e : x = y
      · subst e; simp
      · rw [decide_eq_false (fun z => e (Sum.inr.inj z))]; simpa using e
theorem kDs_eqv : ∀ a b : List L2.Key, PyData.eqvAll (a.map kD) (b.map kD) = decide (a = b)
  | [], [] => (decide_eq_true rfl).symm
  | [], _ :: _ => (decide_eq_false (fun z => nomatch z)).symm
  | _ :: _, [] => (decide_eq_false (fun z => nomatch z)).symm
  | x :: a, y :: b => by
    show (PyData.eqv (kD x) (kD y) && PyData.eqvAll _ _) = _
    rw [kD_eqv, kDs_eqv a b]
    by_cases e : x = y
    · subst e
      by_cases e2 : a = b
      · subst e2; simp
      · rw [decide_eq_false e2, decide_eq_false (fun z => e2 (List.cons.inj z).2)]; simp
    · rw [decide_eq_false e, decide_eq_false (fun z => e (List.cons.inj z).1)]; rfl
theorem dk_eqv {x y : OK} (hx : Big x) (hy : Big y) : PyData.eqv (dk x) (dk y) = decide (x = y) := by
  cases x with
  | non => cases y with
    | non => exact (decide_eq_true rfl).symm
    | bo b => exact (decide_eq_false (fun z => nomatch z)).symm
    | sc k => cases k <;> exact (decide_eq_false (fun z => nomatch z)).symm
    | tp ks => exact (decide_eq_false (fun z => nomatch z)).symm
  | bo b => cases y with
    | non => exact (decide_eq_false (fun z => nomatch z)).symm
    | bo c => cases b <;> cases c <;> rfl
    | sc k =>
      rw [decide_eq_false (fun z => nomatch z)]
      cases k with
      | inl i =>
        have hy : 2 ≤ i := hy
        show ((if b then (1 : Int) else 0) == i) = false
        cases b <;> simp <;> omega
      | inr x => rfl
    | tp ks => exact (decide_eq_false (fun z => nomatch z)).symm
  | sc k => cases y with
    | non => cases k <;> exact (decide_eq_false (fun z => nomatch z)).symm
    | bo b =>
      rw [decide_eq_false (fun z => nomatch z)]
      cases k with
      | inl i =>
        have hx : 2 ≤ i := hx
        show (i == (if b then (1 : Int) else 0)) = false
        cases b <;> simp <;> omega
      | inr x => rfl
    | sc j =>
      show PyData.eqv (kD k) (kD j) = _
      rw [kD_eqv]
      by_cases e : k = j
      · subst e; simp
      · rw [decide_eq_false e, decide_eq_false (fun z => e (OK.sc.inj z))]
    | tp ks => cases k <;> exact (decide_eq_false (fun z => nomatch z)).symm
  | tp ks => cases y with
    | non => exact (decide_eq_false (fun z => nomatch z)).symm
    | bo b => exact (decide_eq_false (fun z => nomatch z)).symm
    | sc k => cases k <;> exact (decide_eq_false (fun z => nomatch z)).symm
    | tp js =>
      show PyData.eqvAll _ _ = _
      rw [kDs_eqv]
      by_cases e : ks = js
      · subst e; simp
      · rw [decide_eq_false e, decide_eq_false (fun z => e (OK.tp.inj z))]
section
variable {P : Program} {w : World} {A : Around} {E : Value → Shared → Prop} {s : Shared}
theorem ky_eq {x y : OK} {u v : Value} {Q : Bool → Shared → Prop} (hu : A.units + 1 < cLine) (bx : Big x) (by_ : Big y) (hx : Ky P w s.heap x u) (hy : Ky P w s.heap y v) (h : Q (decide (x = y)) s) : wpAny (model P w) A (eqBool u v) Q E s := by
  have e := SeqAt.eqAt_plain (dk x) (dk y) A s u v [] [] hx.reads hy.reads (dk_plain x).1 (dk_plain y).1 (by
    have := (dk_plain x).2
    have : min (dk x).depth (dk y).depth ≤ (dk x).depth := Nat.min_le_left ..
    omega)
  rw [dk_eqv bx by_] at e
  exact e P w E Q h
theorem ky_hash {k : OK} {v : Value} {Q : Int → Shared → Prop} (hu : A.units < cLine) (hk : Ky P w s.heap k v) (h : Q (oh P w k) { s with toks := s.toks + dr k }) : wpAny (model P w) A (pyHash v) Q E s := by
  cases k with
  | non =>
    exact (L2.noneKind P w).pyHash (k := none) (v := v) (by cases (show v = .none from hk); rfl) h
  | bo b => cases (show v = .bool b from hk); exact PpSet.pyHash_bool h
  | sc k => exact (L2.mixKind P w).pyHash (k := k) hk h
  | tp ks =>
    obtain ⟨a, rfl, hi⟩ := hk
    exact wpAny_pyHash_tuple hu hi h
theorem ky_quiet {k : OK} {v : Value} {Q : Bool → Shared → Prop} (hk : Ky P w s.heap k v) (h : Q true s) : wpAny (model P w) A (eqIsQuiet 8 v) Q E s := by
  cases k with
  | tp ks =>
    obtain ⟨a, rfl, hi⟩ := hk
    exact wpAny_eqIsQuiet_tuple hi h
  | non => cases (show v = .none from hk); exact wpAny_pure h
  | bo b => cases (show v = .bool b from hk); exact wpAny_pure h
  | sc k =>
    rcases L2.keyIs_shape hk with ⟨i, t, rfl, rfl⟩ | ⟨x, t, rfl, rfl⟩
    · exact wpAny_pure h
    · exact wpAny_pure h
end
end Gdo

set_option Elab.async false
set_option linter.all false
set_option maxRecDepth 100000
set_option maxHeartbeats 4000000
/-! such a dict: a key is looked for, set -/
namespace Gdo
open PySem PySem.Spec PyProof.Rows
abbrev Ent := OK × Value × Value
def entOf (P : Program) (w : World) (x : Ent) : DictEntry := ⟨oh P w x.1, x.2.1, x.2.2⟩
section
variable {P : Program} {w : World} {A : Around} {E : Value → Shared → Prop} {s : Shared}
variable {d : Addr} {o : Obj} {es : Array DictEntry} {ep : Nat} {xs : List Ent} {k : OK} {u : Value}
def Fnd (xs : List Ent) (k : OK) (rest : List Nat) (hit : Option Nat) : Prop :=
  rest.Nodup ∧ (∀ j (x : Ent), xs[j]? = some x → x.1 = k → j ∈ rest ∨ hit = some j) ∧ (∀ j, hit = some j → j ∉ rest ∧ ∃ x : Ent, xs[j]? = some x ∧ x.1 = k)
theorem ent_at (he : es.toList = xs.map (entOf P w)) (j : Nat) : es[j]? = (xs[j]?).map (entOf P w) := by
  rw [← Array.getElem?_toList, he, List.getElem?_map]
theorem ent_size (he : es.toList = xs.map (entOf P w)) : es.size = xs.length := by
  rw [← Array.length_toList, he, List.length_map]
theorem fnd_begin (he : es.toList = xs.map (entOf P w)) : Fnd xs k (placesWithHash es.size (fun i => es[i]?.map (·.hash)) (oh P w k)) none := by
  refine ⟨?_, fun j x hx hk => .inl ?_, fun j h => by cases h⟩
  · unfold placesWithHash
    exact List.Pairwise.filter _ List.nodup_range
  · unfold placesWithHash
    have hl : j < es.size := by rw [ent_size he]; exact (List.getElem?_eq_some_iff.mp hx).1
    refine List.mem_filter.mpr ⟨List.mem_range.mpr hl, ?_⟩
    show ((es[j]?.map (·.hash)) == some (oh P w k)) = true
    rw [ent_at he j, hx, ← hk]
    simp [entOf]
theorem fnd_skip {i : Nat} {rest : List Nat} {hit : Option Nat} (h : Fnd xs k (i :: rest) hit) (n : ∀ x : Ent, xs[i]? = some x → x.1 ≠ k) : Fnd xs k rest hit := by
  obtain ⟨h1, h2, h3⟩ := h
  refine ⟨(List.nodup_cons.mp h1).2, fun j x hx hk => ?_, fun j hj => ?_⟩
  · rcases h2 j x hx hk with z | z
    · rcases List.mem_cons.mp z with rfl | z
      · exact absurd hk (n x hx)
      · exact .inl z
    · exact .inr z
  · obtain ⟨a, b⟩ := h3 j hj
    exact ⟨fun z => a (List.mem_cons_of_mem _ z), b⟩
theorem key_uniq (hn : (xs.map (·.1)).Nodup) {i j : Nat} {x y : Ent} (hx : xs[i]? = some x) (hy : xs[j]? = some y) (e : x.1 = y.1) : i = j := by
  have a : (xs.map (·.1))[i]? = some x.1 := by rw [List.getElem?_map, hx]; rfl
  have b : (xs.map (·.1))[j]? = some x.1 := by rw [List.getElem?_map, hy, e]; rfl
  exact (List.getElem?_inj (List.getElem?_eq_some_iff.mp a).1 hn).mp (a.trans b.symm)
theorem fnd_hit {i : Nat} {rest : List Nat} {x : Ent} (hn : (xs.map (·.1)).Nodup) (h : Fnd xs k (i :: rest) none) (hx : xs[i]? = some x) (hk : x.1 = k) : Fnd xs k rest (some i) := by
  obtain ⟨h1, h2, h3⟩ := h
  refine ⟨(List.nodup_cons.mp h1).2, fun j y hy hk' => .inr ?_, fun j hj => ?_⟩
  · rw [key_uniq hn hx hy (hk.trans hk'.symm)]
  · cases hj
    exact ⟨(List.nodup_cons.mp h1).1, x, hx, hk⟩
theorem stored_ky (he : es.toList = xs.map (entOf P w)) (hk : ∀ x ∈ xs, Ky P w s.heap x.1 x.2.1) (l : List Nat) : ∀ v ∈ l.filterMap (fun i => es[i]?.map (·.key)), ∃ k', Ky P w s.heap k' v := by
  intro v hv
  obtain ⟨i, _, hi⟩ := List.mem_filterMap.mp hv
  rw [ent_at he i] at hi
  cases hx : xs[i]? with
  | none => rw [hx] at hi; cases hi
  | some x =>
    rw [hx] at hi
    cases hi
    exact ⟨x.1, hk x (List.mem_of_getElem? hx)⟩
theorem tells_no {stored : List Value} {Q : Bool → Shared → Prop} (hkey : Ky P w s.heap k u) (hst : ∀ v ∈ stored, ∃ k', Ky P w s.heap k' v) (h : Q false s) : wpAny (model P w) A (tableMayTell u stored) Q E s := by
  unfold tableMayTell
  split
  · exact wpAny_pure h
  · refine wpAny_bind (ky_quiet hkey ?_)
    simp only [Bool.not_true, Bool.false_eq_true, if_false]
    refine wpAny_bind ?_
    refine wpAny_forIn_list _ (fun rest r s' => s' = s ∧ r = (none, ()) ∧ ∀ v ∈ rest, ∃ k', Ky P w s.heap k' v) _ ?_ ?_ _ _ ⟨rfl, rfl, hst⟩
    · rintro x rest r s' ⟨rfl, rfl, hr⟩
      obtain ⟨k', hb⟩ := hr x List.mem_cons_self
      refine wpAny_bind (ky_quiet hb ?_)
      simp only [Bool.not_true, Bool.false_eq_true, if_false]
      exact wpAny_pure ⟨rfl, rfl, fun v hv => hr v (List.mem_cons_of_mem _ hv)⟩
    · rintro r s' ⟨rfl, rfl, _⟩
      exact wpAny_pure h
/-- the walk where no reference is among the keys -/
theorem walk_plain {Q : Option Nat → Shared → Prop} (hu : A.units + 1 < cLine) (bk : Big k) (hkey : Ky P w s.heap k u) (ho : s.heap.get? d = some o) (hd : o.data = .dict es ep) (he : es.toList = xs.map (entOf P w)) (hk : ∀ x ∈ xs, Ky P w s.heap x.1 x.2.1 ∧ Big x.1) (hn : (xs.map (·.1)).Nodup)
    (hnone : k ∉ xs.map (·.1) → Q none s) (hsome : ∀ j x, xs[j]? = some x → x.1 = k → Q (some j) s) :
    wpAny (model P w) A (dictWalkPlain d u (oh P w k) es (placesWithHash es.size (fun i => es[i]?.map (·.hash)) (oh P w k))) Q E s := by
  unfold dictWalkPlain
  refine wpAny_bind ?_
  refine wpAny_forIn_list _ (fun rest b s' => s' = s ∧ b = (none, ()) ∧ Fnd xs k rest none) _ ?_ ?_ _ _ ⟨rfl, rfl, fnd_begin he⟩
  · rintro i rest b s' ⟨rfl, rfl, F⟩
    rw [ent_at he i]
    cases hx : xs[i]? with
    | none => exact wpAny_pure ⟨rfl, rfl, fnd_skip F fun x z => by rw [hx] at z; cases z⟩
    | some x =>
      obtain ⟨kx, bx⟩ := hk x (List.mem_of_getElem? hx)
      show wpAny _ _ (if ((entOf P w x).hash == oh P w k) = true then _ else _) _ _ _
      by_cases hh : ((entOf P w x).hash == oh P w k) = true
      · rw [if_pos hh]
        refine wpAny_bind (wpAny_dictEpoch ho hd (wpAny_bind (ky_eq hu bx bk kx hkey (wpAny_bind (wpAny_dictEpoch ho hd ?_)))))
        show wpAny _ _ (if (ep != ep) = true then _ else _) _ E _
        rw [if_neg (by simp)]
        by_cases e : x.1 = k
        · rw [decide_eq_true e]
          exact wpAny_bind (wpAny_rule (wpAny_pure (wpAny_pure (hsome i x hx e))))
        · rw [decide_eq_false e]
          exact wpAny_bind (wpAny_rule (wpAny_pure ⟨rfl, rfl, fnd_skip F fun y z => by rw [hx] at z; cases z; exact e⟩))
      · rw [if_neg hh]
        refine wpAny_pure ⟨rfl, rfl, fnd_skip F fun y z e => ?_⟩
        rw [hx] at z
        cases z
        exact hh (by rw [← e]; simp [entOf])
  · rintro b s' ⟨rfl, rfl, F⟩
    refine wpAny_pure (hnone fun hm => ?_)
    obtain ⟨x, hx, e⟩ := List.mem_map.mp hm
    obtain ⟨j, hj⟩ := List.mem_iff_getElem?.mp hx
    rcases F.2.1 j x hj e with z | z
    · cases z
    · cases z
theorem ky_ref {h : Heap} {k' : OK} {b : Addr} (z : Ky P w h k' (.ref b)) : ∃ ks, k' = .tp ks ∧ IsTupleKey (L2.mixKind P w) h ks b := by
  cases k' with
  | non => cases (show Value.ref b = .none from z)
  | bo c => cases (show Value.ref b = .bool c from z)
  | sc k =>
    rcases L2.keyIs_shape z with ⟨i, t, _, e⟩ | ⟨x, t, _, e⟩
    · cases e
    · cases e
  | tp ks =>
    obtain ⟨a, e, hi⟩ := z
    cases e
    exact ⟨ks, rfl, hi⟩
theorem ky_str {h : Heap} {k' : OK} {v : Value} (z : Ky P w h k' v) (hs : isExactStrKey v = true) : ∃ x, k' = .sc (.inr x) := by
  cases k' with
  | non => cases (show v = .none from z); cases hs
  | bo c => cases (show v = .bool c from z); cases hs
  | sc k =>
    rcases L2.keyIs_shape z with ⟨i, t, rfl, rfl⟩ | ⟨x, t, rfl, rfl⟩
    · cases hs
    · exact ⟨x, rfl⟩
  | tp ks =>
    obtain ⟨a, rfl, _⟩ := z
    cases hs
theorem find_at {Q : Option Nat → Shared → Prop} (hu : A.units + 1 < cLine) (bk : Big k) (hkey : Ky P w s.heap k u) (ho : s.heap.get? d = some o) (hd : o.data = .dict es ep) (he : es.toList = xs.map (entOf P w)) (hk : ∀ x ∈ xs, Ky P w s.heap x.1 x.2.1 ∧ Big x.1) (hn : (xs.map (·.1)).Nodup)
    (hnone : k ∉ xs.map (·.1) → Q none s) (hsome : ∀ j x, xs[j]? = some x → x.1 = k → Q (some j) s) :
    wpAny (model P w) A (dictFind d u (oh P w k)) Q E s := by
  by_cases htx : ∃ x t, u = .str x t ∧ (es.all fun e => isExactStrKey e.key) = true
  · -- all are texts
    obtain ⟨x, t, rfl, hall⟩ := htx
    obtain ⟨x', rfl⟩ := ky_str hkey rfl
    have hx : ∀ y ∈ xs, ∃ z, y.1 = .sc (.inr z) := fun y hy => by
      refine ky_str (hk y hy).1 ?_
      have m : entOf P w y ∈ es := Array.mem_toList_iff.mp (by rw [he]; exact List.mem_map.mpr ⟨y, hy, rfl⟩)
      exact Array.all_eq_true'.mp hall _ m
    refine wpAny_dictFind_of (knd := L2.mixKind P w) (k := .inr x') (key := .str x t) hkey ho hd (fun e hin => ?_) ?_
    · have m : e ∈ xs.map (entOf P w) := by rw [← he]; exact Array.mem_toList_iff.mpr hin
      obtain ⟨y, hy, rfl⟩ := List.mem_map.mp m
      obtain ⟨z, ez⟩ := hx y hy
      have ky := (hk y hy).1
      refine ⟨.inr z, ?_, ?_⟩
      · rw [ez] at ky; exact ky
      · show oh P w y.1 = _
        rw [ez]; rfl
    · cases hf : es.findIdx? fun e => (L2.mixKind P w).is (.inr x') e.key with
      | none =>
        refine hnone fun hm => ?_
        obtain ⟨y, hy, e⟩ := List.mem_map.mp hm
        have m : entOf P w y ∈ es := Array.mem_toList_iff.mp (by rw [he]; exact List.mem_map.mpr ⟨y, hy, rfl⟩)
        have z := Array.findIdx?_eq_none_iff.mp hf _ m
        have ky := (hk y hy).1
        rw [e] at ky
        exact absurd (z.symm.trans ky) (by decide)
      | some i =>
        obtain ⟨hlt, hi, _⟩ := Array.findIdx?_eq_some_iff_getElem.mp hf
        have ei := ent_at he i
        rw [Array.getElem?_eq_getElem hlt] at ei
        obtain ⟨y, hy, e⟩ := Option.map_eq_some_iff.mp ei.symm
        refine hsome i y hy ?_
        rw [← e] at hi
        obtain ⟨z, ez⟩ := hx y (List.mem_of_getElem? hy)
        have ky := (hk y (List.mem_of_getElem? hy)).1
        rw [ez] at ky
        have ky : (L2.mixKind P w).is (.inr z) (entOf P w y).key = true := ky
        rw [ez, (L2.mixKind P w).inj _ _ _ hi ky]
  · have hany : ∀ b, u = .ref b → ¬ (es.any fun e => e.key == u && e.hash != oh P w k) = true := by
      rintro b rfl
      rw [← Array.any_toList, List.any_eq_true]
      rintro ⟨e, hin, hc⟩
      rw [he] at hin
      obtain ⟨y, hy, rfl⟩ := List.mem_map.mp hin
      simp only [entOf, Bool.and_eq_true, beq_iff_eq, bne_iff_ne, ne_eq] at hc
      obtain ⟨e1, e2⟩ := hc
      have ky := (hk y hy).1
      rw [e1] at ky
      obtain ⟨ks, q1, q2⟩ := ky_ref ky
      obtain ⟨js, q3, q4⟩ := ky_ref hkey
      exact e2 (by rw [q1, q3, q2.inj q4])
    have hst := stored_ky (s := s) (P := P) (w := w) he (fun x hx => (hk x hx).1) (placesWithHash es.size (fun i => es[i]?.map (·.hash)) (oh P w k))
    unfold dictFind
    try with_reducible refine wpAny_holding ?_
    refine wpAny_bind (wpAny_dictEntries ho hd ?_)
    dsimp only
    split
    · next x t =>
      rw [if_neg (fun z => htx ⟨x, t, rfl, z⟩)]
      by_cases hc : ((Value.str x t :: (placesWithHash es.size (fun i => es[i]?.map (·.hash)) (oh P w k)).filterMap fun i => es[i]?.map (·.key)).all carriedByValue) = true
      · rw [if_pos hc]
        exact walk_plain hu bk hkey ho hd he hk hn hnone hsome
      · rw [if_neg hc]
        split
        · next b e => cases e
        · generalize hst0 : (placesWithHash es.size (fun i => es[i]?.map (·.hash)) (oh P w k)).filterMap (fun i => es[i]?.map (·.key)) = stored at hst ⊢
          split <;> (first | refine wpAny_bind (wpAny_pure ?_) | refine wpAny_bind (tells_no hkey hst ?_)) <;> (
            rw [if_neg (by simp)]
            refine wpAny_bind ?_
            refine wpAny_forIn_list _ (fun rest b s' => s' = s ∧ ∃ hit, b = (none, hit) ∧ Fnd xs k rest hit) _ ?_ ?_ _ _ ⟨rfl, none, rfl, fnd_begin he⟩
            · rintro i rest b s' ⟨rfl, hit, rfl, F⟩
              rw [ent_at he i]
              cases hx : xs[i]? with
              | none => exact wpAny_pure ⟨rfl, hit, rfl, fnd_skip F fun x z => by rw [hx] at z; cases z⟩
              | some x =>
                obtain ⟨kx, bx⟩ := hk x (List.mem_of_getElem? hx)
                show wpAny _ _ (if ((entOf P w x).hash == oh P w k) = true then _ else _) _ _ _
                by_cases hh : ((entOf P w x).hash == oh P w k) = true
                · rw [if_pos hh]
                  refine wpAny_bind (wpAny_dictEpoch ho hd (wpAny_bind (ky_eq hu bx bk kx hkey (wpAny_bind (wpAny_dictEpoch ho hd ?_)))))
                  show wpAny _ _ (if (ep != ep) = true then _ else _) _ E _
                  rw [if_neg (by simp)]
                  by_cases e : x.1 = k
                  · rw [decide_eq_true e]
                    cases hit with
                    | some j =>
                      obtain ⟨q1, y, q2, q3⟩ := F.2.2 j rfl
                      exact absurd (show j ∈ i :: rest by rw [key_uniq hn hx q2 (e.trans q3.symm)]; exact List.mem_cons_self) q1
                    | none =>
                      first | rw [if_pos rfl] | skip
                      simp only [Option.isSome_none, Bool.false_eq_true, if_false]
                      first | refine wpAny_bind (wpAny_pure ?_) | skip
                      refine wpAny_bind (wpAny_rule ?_)
                      split
                      · exact wpAny_pure (wpAny_pure (hsome i x hx e))
                      · exact wpAny_pure ⟨rfl, some i, rfl, fnd_hit hn F hx e⟩
                  · rw [decide_eq_false e]
                    simp only [Bool.false_eq_true, if_false]
                    refine wpAny_bind (wpAny_rule ?_)
                    first | rw [if_neg (by simp)] | skip
                    have F2 := fnd_skip F fun y z => by rw [hx] at z; cases z; exact e
                    first
                      | exact wpAny_pure ⟨rfl, hit, rfl, F2⟩
                      | exact wpAny_bind (wpAny_pure (wpAny_pure ⟨rfl, hit, rfl, F2⟩))
                · rw [if_neg hh]
                  refine wpAny_pure ⟨rfl, hit, rfl, fnd_skip F fun y z e => ?_⟩
                  rw [hx] at z
                  cases z
                  exact hh (by rw [← e]; simp [entOf])
            · rintro b s' ⟨rfl, hit, rfl, F⟩
              cases hit with
              | none =>
                refine wpAny_pure (hnone fun hm => ?_)
                obtain ⟨x, hx, e⟩ := List.mem_map.mp hm
                obtain ⟨j, hj⟩ := List.mem_iff_getElem?.mp hx
                rcases F.2.1 j x hj e with z | z
                · cases z
                · cases z
              | some j =>
                obtain ⟨_, x, hx, e⟩ := F.2.2 j rfl
                exact wpAny_pure (hsome j x hx e))
    · by_cases hc : ((u :: (placesWithHash es.size (fun i => es[i]?.map (·.hash)) (oh P w k)).filterMap fun i => es[i]?.map (·.key)).all carriedByValue) = true
      · rw [if_pos hc]
        exact walk_plain hu bk hkey ho hd he hk hn hnone hsome
      · rw [if_neg hc]
        split
        · rw [if_neg (hany _ rfl)]
          generalize hst0 : (placesWithHash es.size (fun i => es[i]?.map (·.hash)) (oh P w k)).filterMap (fun i => es[i]?.map (·.key)) = stored at hst ⊢
          split <;> (first | refine wpAny_bind (wpAny_pure ?_) | refine wpAny_bind (tells_no hkey hst ?_)) <;> (
            rw [if_neg (by simp)]
            refine wpAny_bind ?_
            refine wpAny_forIn_list _ (fun rest b s' => s' = s ∧ ∃ hit, b = (none, hit) ∧ Fnd xs k rest hit) _ ?_ ?_ _ _ ⟨rfl, none, rfl, fnd_begin he⟩
            · rintro i rest b s' ⟨rfl, hit, rfl, F⟩
              rw [ent_at he i]
              cases hx : xs[i]? with
              | none => exact wpAny_pure ⟨rfl, hit, rfl, fnd_skip F fun x z => by rw [hx] at z; cases z⟩
              | some x =>
                obtain ⟨kx, bx⟩ := hk x (List.mem_of_getElem? hx)
                show wpAny _ _ (if ((entOf P w x).hash == oh P w k) = true then _ else _) _ _ _
                by_cases hh : ((entOf P w x).hash == oh P w k) = true
                · rw [if_pos hh]
                  refine wpAny_bind (wpAny_dictEpoch ho hd (wpAny_bind (ky_eq hu bx bk kx hkey (wpAny_bind (wpAny_dictEpoch ho hd ?_)))))
                  show wpAny _ _ (if (ep != ep) = true then _ else _) _ E _
                  rw [if_neg (by simp)]
                  by_cases e : x.1 = k
                  · rw [decide_eq_true e]
                    cases hit with
                    | some j =>
                      obtain ⟨q1, y, q2, q3⟩ := F.2.2 j rfl
                      exact absurd (show j ∈ i :: rest by rw [key_uniq hn hx q2 (e.trans q3.symm)]; exact List.mem_cons_self) q1
                    | none =>
                      first | rw [if_pos rfl] | skip
                      simp only [Option.isSome_none, Bool.false_eq_true, if_false]
                      first | refine wpAny_bind (wpAny_pure ?_) | skip
                      refine wpAny_bind (wpAny_rule ?_)
                      split
                      · exact wpAny_pure (wpAny_pure (hsome i x hx e))
                      · exact wpAny_pure ⟨rfl, some i, rfl, fnd_hit hn F hx e⟩
                  · rw [decide_eq_false e]
                    simp only [Bool.false_eq_true, if_false]
                    refine wpAny_bind (wpAny_rule ?_)
                    first | rw [if_neg (by simp)] | skip
                    have F2 := fnd_skip F fun y z => by rw [hx] at z; cases z; exact e
                    first
                      | exact wpAny_pure ⟨rfl, hit, rfl, F2⟩
                      | exact wpAny_bind (wpAny_pure (wpAny_pure ⟨rfl, hit, rfl, F2⟩))
                · rw [if_neg hh]
                  refine wpAny_pure ⟨rfl, hit, rfl, fnd_skip F fun y z e => ?_⟩
                  rw [hx] at z
                  cases z
                  exact hh (by rw [← e]; simp [entOf])
            · rintro b s' ⟨rfl, hit, rfl, F⟩
              cases hit with
              | none =>
                refine wpAny_pure (hnone fun hm => ?_)
                obtain ⟨x, hx, e⟩ := List.mem_map.mp hm
                obtain ⟨j, hj⟩ := List.mem_iff_getElem?.mp hx
                rcases F.2.1 j x hj e with z | z
                · cases z
                · cases z
              | some j =>
                obtain ⟨_, x, hx, e⟩ := F.2.2 j rfl
                exact wpAny_pure (hsome j x hx e))
        · generalize hst0 : (placesWithHash es.size (fun i => es[i]?.map (·.hash)) (oh P w k)).filterMap (fun i => es[i]?.map (·.key)) = stored at hst ⊢
          split <;> (first | refine wpAny_bind (wpAny_pure ?_) | refine wpAny_bind (tells_no hkey hst ?_)) <;> (
            rw [if_neg (by simp)]
            refine wpAny_bind ?_
            refine wpAny_forIn_list _ (fun rest b s' => s' = s ∧ ∃ hit, b = (none, hit) ∧ Fnd xs k rest hit) _ ?_ ?_ _ _ ⟨rfl, none, rfl, fnd_begin he⟩
            · rintro i rest b s' ⟨rfl, hit, rfl, F⟩
              rw [ent_at he i]
              cases hx : xs[i]? with
              | none => exact wpAny_pure ⟨rfl, hit, rfl, fnd_skip F fun x z => by rw [hx] at z; cases z⟩
              | some x =>
                obtain ⟨kx, bx⟩ := hk x (List.mem_of_getElem? hx)
                show wpAny _ _ (if ((entOf P w x).hash == oh P w k) = true then _ else _) _ _ _
                by_cases hh : ((entOf P w x).hash == oh P w k) = true
                · rw [if_pos hh]
                  refine wpAny_bind (wpAny_dictEpoch ho hd (wpAny_bind (ky_eq hu bx bk kx hkey (wpAny_bind (wpAny_dictEpoch ho hd ?_)))))
                  show wpAny _ _ (if (ep != ep) = true then _ else _) _ E _
                  rw [if_neg (by simp)]
                  by_cases e : x.1 = k
                  · rw [decide_eq_true e]
                    cases hit with
                    | some j =>
                      obtain ⟨q1, y, q2, q3⟩ := F.2.2 j rfl
                      exact absurd (show j ∈ i :: rest by rw [key_uniq hn hx q2 (e.trans q3.symm)]; exact List.mem_cons_self) q1
                    | none =>
                      first | rw [if_pos rfl] | skip
                      simp only [Option.isSome_none, Bool.false_eq_true, if_false]
                      first | refine wpAny_bind (wpAny_pure ?_) | skip
                      refine wpAny_bind (wpAny_rule ?_)
                      split
                      · exact wpAny_pure (wpAny_pure (hsome i x hx e))
                      · exact wpAny_pure ⟨rfl, some i, rfl, fnd_hit hn F hx e⟩
                  · rw [decide_eq_false e]
                    simp only [Bool.false_eq_true, if_false]
                    refine wpAny_bind (wpAny_rule ?_)
                    first | rw [if_neg (by simp)] | skip
                    have F2 := fnd_skip F fun y z => by rw [hx] at z; cases z; exact e
                    first
                      | exact wpAny_pure ⟨rfl, hit, rfl, F2⟩
                      | exact wpAny_bind (wpAny_pure (wpAny_pure ⟨rfl, hit, rfl, F2⟩))
                · rw [if_neg hh]
                  refine wpAny_pure ⟨rfl, hit, rfl, fnd_skip F fun y z e => ?_⟩
                  rw [hx] at z
                  cases z
                  exact hh (by rw [← e]; simp [entOf])
            · rintro b s' ⟨rfl, hit, rfl, F⟩
              cases hit with
              | none =>
                refine wpAny_pure (hnone fun hm => ?_)
                obtain ⟨x, hx, e⟩ := List.mem_map.mp hm
                obtain ⟨j, hj⟩ := List.mem_iff_getElem?.mp hx
                rcases F.2.1 j x hj e with z | z
                · cases z
                · cases z
              | some j =>
                obtain ⟨_, x, hx, e⟩ := F.2.2 j rfl
                exact wpAny_pure (hsome j x hx e))
end
end Gdo

set_option Elab.async false
set_option linter.all false
set_option maxRecDepth 100000
set_option maxHeartbeats 4000000
/-! such a dict: a key is set, asked; dict(rows) -/
namespace Gdo
open PySem PySem.Spec PyProof.Rows
def OdD (P : Program) (w : World) (h : Heap) (d : Addr) (xs : List Ent) : Prop :=
  ∃ o es ep, h.get? d = some o ∧ o.ExactDict ∧ o.data = .dict es ep ∧ es.toList = xs.map (entOf P w) ∧ (∀ x ∈ xs, Ky P w h x.1 x.2.1 ∧ Big x.1) ∧ (xs.map (·.1)).Nodup
def stor (xs : List Ent) (k : OK) (u v : Value) : List Ent := if k ∈ xs.map (·.1) then xs.map (fun x => if x.1 = k then (x.1, x.2.1, v) else x) else xs ++ [(k, u, v)]
theorem stor_len (xs : List Ent) (k : OK) (u v : Value) : (stor xs k u v).length ≤ xs.length + 1 := by
  unfold stor
  split
  · rw [List.length_map]; omega
  · rw [List.length_append]; exact Nat.le_refl _
theorem stor_keys (xs : List Ent) (k : OK) (u v : Value) (hn : (xs.map (·.1)).Nodup) : ((stor xs k u v).map (·.1)).Nodup := by
  unfold stor
  split
  · rw [List.map_map]
    have : ((fun x : Ent => x.1) ∘ fun x : Ent => if x.1 = k then (x.1, x.2.1, v) else x) = fun x : Ent => x.1 := by
      funext x
      show (if x.1 = k then (x.1, x.2.1, v) else x).1 = x.1
      split <;> rfl
    rw [this]; exact hn
  · next h =>
    rw [List.map_append]
    refine List.nodup_append.mpr ⟨hn, by simp, fun a ha b hb => ?_⟩
    rw [List.map_cons, List.map_nil, List.mem_singleton] at hb
    subst hb
    exact fun e => h (e ▸ ha)
section
variable {P : Program} {w : World} {A : Around} {E : Value → Shared → Prop} {s : Shared} {d : Addr} {xs : List Ent} {k : OK} {u v : Value}
theorem Ky.keeps {h h' : Heap} {k : OK} {u : Value} {o : Obj} {es ep} (z : Ky P w h k u) (ho : h.get? d = some o) (hd : o.data = .dict es ep) (hs : Heap.SameBut d h h') : Ky P w h' k u := by
  cases k with
  | tp ks =>
    obtain ⟨a, e, hi⟩ := z
    exact ⟨a, e, hi.keeps ho hd hs⟩
  | _ => exact z
theorem Ky.kept {h h' : Heap} {k : OK} {u : Value} (z : Ky P w h k u) (hs : ∀ b o, h.get? b = some o → h'.get? b = some o) : Ky P w h' k u := by
  cases k with
  | tp ks =>
    obtain ⟨a, e, o, items, n, ho, r⟩ := z
    exact ⟨a, e, o, items, n, hs _ _ ho, r⟩
  | _ => exact z
theorem OdD.kept {h h' : Heap} (z : OdD P w h d xs) (hs : ∀ b o, h.get? b = some o → h'.get? b = some o) : OdD P w h' d xs := by
  obtain ⟨o, es, ep, ho, hx, hd, he, hk, hn⟩ := z
  exact ⟨o, es, ep, hs _ _ ho, hx, hd, he, fun x hx => ⟨(hk x hx).1.kept hs, (hk x hx).2⟩, hn⟩
theorem set_at {Q : Unit → Shared → Prop} (hu : A.units + 1 < cLine) (bk : Big k) (hkey : Ky P w s.heap k u) (hm : OdD P w s.heap d xs) (hz : xs.length < sizeLine)
    (hQ : ∀ h' tk, OdD P w h' d (stor xs k u v) → Heap.SameBut d s.heap h' → Q () { s with heap := h', toks := tk }) : wpAny (model P w) A (dictSet d u v) Q E s := by
  obtain ⟨o, es, ep, ho, hc, hd, he, hk, hn⟩ := hm
  unfold dictSet
  try with_reducible refine wpAny_holding ?_
  refine wpAny_bind (ky_hash (by omega) hkey ?_)
  unfold dictSetHashed
  try with_reducible refine wpAny_holding ?_
  refine wpAny_bind (find_at (s := { s with toks := s.toks + dr k }) hu bk hkey ho hd he hk hn (fun hno => ?_) (fun j x hj hx => ?_))
  · refine wpAny_bind (wpAny_rule (wpAny_updateDictKeys (hz := by have e := ent_size he; omega) (s := { s with toks := s.toks + dr k }) ho hd (hQ _ _ ⟨_, _, ep + 1, Heap.get?_update_self _ ho (Obj.isFreed_of_dict (Obj.data_mapDictKeys hd _)),
      hc.mapDictKeys _, Obj.data_mapDictKeys hd _, ?_, ?_, stor_keys _ _ _ _ hn⟩ (Heap.SameBut.update ..))))
    · unfold stor
      rw [if_neg hno]
      simp [he, entOf]
    · unfold stor
      rw [if_neg hno]
      intro x hx
      rcases List.mem_append.mp hx with hx | hx
      · exact ⟨(hk x hx).1.keeps ho hd (Heap.SameBut.update ..), (hk x hx).2⟩
      · simp only [List.mem_singleton] at hx
        subst hx
        exact ⟨hkey.keeps ho hd (Heap.SameBut.update ..), bk⟩
  · have hin : k ∈ xs.map (·.1) := List.mem_map.mpr ⟨x, List.mem_of_getElem? hj, hx⟩
    refine wpAny_bind (wpAny_rule (wpAny_bind (wpAny_updateDict (s := { s with toks := s.toks + dr k }) ho hd (wpAny_point (hQ _ _ ⟨_, _, ep, Heap.get?_update_self _ ho (Obj.isFreed_of_dict (Obj.data_mapDict hd _)),
      hc.mapDict _, Obj.data_mapDict hd _, ?_, ?_, stor_keys _ _ _ _ hn⟩ (Heap.SameBut.update ..))))))
    · unfold stor
      rw [if_pos hin]
      apply List.ext_getElem?
      intro i
      rw [Array.getElem?_toList, Array.getElem?_modify, ent_at he i, List.getElem?_map, List.getElem?_map]
      cases hi : xs[i]? with
      | none => simp
      | some y =>
        by_cases e : j = i
        · subst e
          rw [hj] at hi
          cases hi
          rw [if_pos rfl]
          simp [entOf, hx]
        · rw [if_neg e]
          have : y.1 ≠ k := fun z => e (key_uniq hn hj hi (hx.trans z.symm))
          simp [this]
    · unfold stor
      rw [if_pos hin]
      intro x hx
      obtain ⟨y, hy, rfl⟩ := List.mem_map.mp hx
      have z := hk y hy
      split
      · exact ⟨z.1.keeps ho hd (Heap.SameBut.update ..), z.2⟩
      · exact ⟨z.1.keeps ho hd (Heap.SameBut.update ..), z.2⟩
end
end Gdo

set_option Elab.async false
set_option linter.all false
set_option maxRecDepth 100000
set_option maxHeartbeats 4000000
/-! dict(rows), the keys of any of these kinds -/
namespace Gdo
open PySem PySem.Spec PyProof.Rows L2
section
variable {P : Program} {w : World} {A : Around} {E : Value → Shared → Prop}
def storAll : List Ent → List Ent → List Ent
  | xs, [] => xs
  | xs, q :: r => storAll (stor xs q.1 q.2.1 q.2.2) r
theorem OdD.but {h h' : Heap} {d c : Addr} {xs : List Ent} (z : OdD P w h d xs) (hs : ∀ b o, b ≠ c → h.get? b = some o → h'.get? b = some o) (hd : d ≠ c) (hk : ∀ o, h.get? c = some o → o.cls ≠ .type "tuple") : OdD P w h' d xs := by
  obtain ⟨o, es, ep, ho, hx, hdt, he, kk, hn⟩ := z
  refine ⟨o, es, ep, hs _ _ hd ho, hx, hdt, he, fun x hx => ⟨?_, (kk x hx).2⟩, hn⟩
  have q := (kk x hx).1
  generalize x.1 = k at q ⊢
  cases k with
  | tp ks =>
    obtain ⟨a, e, oa, items, n, h1, h2, r⟩ := q
    exact ⟨a, e, oa, items, n, hs _ _ (fun z => hk oa (z ▸ h1) h2) h1, h2, r⟩
  | _ => exact q
/-- the pairs that are still to come, where they lie -/
def Prs (P : Program) (w : World) (h : Heap) (items : Array Value) (S I : Addr) (i : Nat) (rest : List Ent) : Prop :=
  ∀ (j : Nat) (q : Ent), rest[j]? = some q → ∃ b : Addr, items[i + j]? = some (.ref b) ∧ b ≠ S ∧ b ≠ I ∧ IsTup h b #[q.2.1, q.2.2] ∧ Ky P w h q.1 q.2.1 ∧ Big q.1
theorem ky_but {h h' : Heap} {c : Addr} {k : OK} {u : Value} (z : Ky P w h k u) (hs : ∀ b o, b ≠ c → h.get? b = some o → h'.get? b = some o) (hk : ∀ o, h.get? c = some o → o.cls ≠ .type "tuple") : Ky P w h' k u := by
  cases k with
  | tp ks =>
    obtain ⟨a, e, oa, items, n, h1, h2, r⟩ := z
    exact ⟨a, e, oa, items, n, hs _ _ (fun z => hk oa (z ▸ h1) h2) h1, h2, r⟩
  | _ => exact z
theorem fill {R : Result → Shared → Prop} {S I l : Addr} {items : Array Value} {res : Value} (hu : A.in1.units + 1 < cLine) (hh : A.handled = none) (n1 : l ≠ I) (n2 : S ≠ I) (n3 : S ≠ l) :
    ∀ (rest : List Ent) (i : Nat) (xs : List Ent) (ix : Int) (t : Tok) (s : Shared), items.size = i + rest.length → xs.length + rest.length ≤ 1000 → Prs P w s.heap items S I i rest →
      s.heap.IsListIter I l i → s.heap.IsList l items → OdD P w s.heap S xs →
      (∀ h' tk, OdD P w h' S (storAll xs rest) → (∀ b o, b ≠ S → b ≠ I → s.heap.get? b = some o → h'.get? b = some o) → R (.ok (.ret res)) { s with heap := h', toks := tk }) →
      codeAny (model P w) A (.builtin "dict.update.loop" ⟨[.ref S, .ref I, .int ix t, res], []⟩) R s := by
  intro rest
  induction rest with
  | nil =>
    intro i xs ix t s hz hl hp hit hL hm hR
    refine codeAny_builtin ud_entry (by
      rw [Around.under_plainId ud_plain _]
      show wpAny _ A.in1 (pyNext (.ref I) >>= _) _ _ s
      refine wpAny_bind (wpAny_pyNext_list_end (A := A.in1) hh hit hL (Array.getElem?_eq_none (Nat.le_of_eq hz)) fun h' he => ?_)
      show wpAny _ A.in1 (Builtin.Dict.addKeywords S [] >>= _) _ _ _
      refine wpAny_bind (wpAny_pure (wpAny_pure (hR h' s.toks (hm.but (c := I) (fun b o nb e => he b o nb e) n2 fun o ho => ?_) fun b o _ nb e => he b o nb e)))
      obtain ⟨oi, hoi, hci, _⟩ := hit
      rw [hoi] at ho
      cases ho
      intro hc
      rw [hci] at hc
      injection hc with hc
      exact absurd hc (by decide))
  | cons q r ih =>
    intro i xs ix t s hz hl hp hit hL hm hR
    rw [List.length_cons] at hz hl
    obtain ⟨b, hb, hbS, hbI, htup, hk, bk⟩ := hp 0 q rfl
    refine codeAny_builtin ud_entry (by
      rw [Around.under_plainId ud_plain _]
      show wpAny _ A.in1 (pyNext (.ref I) >>= _) _ _ s
      have ntI : ∀ o, s.heap.get? I = some o → o.cls ≠ .type "tuple" := fun o ho => by
        obtain ⟨oi, hoi, hci, _⟩ := hit
        rw [hoi] at ho
        cases ho
        intro hc
        rw [hci] at hc
        injection hc with hc
        exact absurd hc (by decide)
      have ntS : ∀ (h : Heap), OdD P w h S xs → ∀ o, h.get? S = some o → o.cls ≠ .type "tuple" := fun h z o ho => by
        obtain ⟨o2, es, ep, h1, hx, _⟩ := z
        rw [h1] at ho
        cases ho
        intro hc
        rw [hx.1] at hc
        injection hc with hc
        exact absurd hc (by decide)
      refine wpAny_bind (wpAny_pyNext_list_item (x := .ref b) hit hL (by simpa using hb) fun h1 hit1 hs1 => ?_)
      have k1 : ∀ c o, c ≠ I → s.heap.get? c = some o → h1.get? c = some o := fun c o nc e => hs1.extBut c o nc e
      have hm1 : OdD P w h1 S xs := hm.but k1 n2 ntI
      have htup1 : IsTup h1 b #[q.2.1, q.2.2] := htup.extBut hs1.extBut hbI
      have hL1 : h1.IsList l items := hL.extBut hs1.extBut n1
      have hkb : Ky P w h1 q.1 q.2.1 := ky_but hk k1 ntI
      obtain ⟨ot, hot, hct, nt, hdt⟩ := id htup1
      show wpAny _ A.in1 (holding [Value.ref b] _ >>= _) _ _ _
      refine wpAny_bind (wpAny_holding (wpAny_bind (wpAny_tryCatch ?_)))
      unfold Builtin.Dict.pairItems
      refine wpAny_bind (wpAny_typeOf (T := "tuple") ⟨ot, hot, hct⟩ (by
        rw [if_pos (by decide)]
        refine wpAny_bind (wpAny_seqItems hot hdt (wpAny_pure ?_))
        show wpAny _ A.in1 (holding [q.2.1, q.2.2] (dictSet S q.2.1 q.2.2)) _ _ _
        refine wpAny_holding (set_at (s := { s with heap := h1 }) hu bk hkb hm1 (by rw [sizeLine_eq]; omega) fun h2 tk hm2 hs2 => ?_)
        have k2 : ∀ c o, c ≠ S → h1.get? c = some o → h2.get? c = some o := fun c o nc e => hs2.extBut c o nc e
        refine wpAny_pure ⟨plainId_quiet ud_plain _, ih (i + 1) (stor xs q.1 q.2.1 q.2.2) (ix + 1) 0 _ (by omega) (by have := stor_len xs q.1 q.2.1 q.2.2; omega) (fun j q' e => ?_) (hit1.at fun o' e => k2 I o' (Ne.symm n2) e) (hL1.extBut hs2.extBut (Ne.symm n3)) hm2 fun h' tk' hd' kk => ?_⟩
        · obtain ⟨b', z1, z2, z3, z4, z5, z6⟩ := hp (j + 1) q' (by simpa using e)
          exact ⟨b', by rw [show i + 1 + j = i + (j + 1) by omega]; exact z1, z2, z3, (z4.extBut hs1.extBut z3).extBut hs2.extBut z2, ky_but (ky_but z5 k1 ntI) k2 (ntS h1 hm1), z6⟩
        · exact hR h' tk' hd' fun c oc h3 h4 e => kk c oc h3 h4 (k2 c oc h3 (k1 c oc h4 e))))
      )
end
end Gdo

set_option Elab.async false
set_option linter.all false
set_option maxRecDepth 100000
set_option maxHeartbeats 4000000
/-! dict(rows) and isinstance, as rules -/
namespace Gdo
open PySem PySem.Spec PyProof.Rows L2
/-- a dict by its entries -/
def RawO (a : Addr) (es : Array DictEntry) (ep : Nat) : HO := .ext fun h => ∃ o, h.get? a = some o ∧ o.ExactDict ∧ o.data = .dict es ep
theorem rawO_ok {P : Program} {w : World} {H : Hp} {h : Heap} {a : Addr} {es : Array DictEntry} {ep : Nat} (z : ∃ o, h.get? a = some o ∧ o.ExactDict ∧ o.data = .dict es ep) : ObjOk P w H h a (RawO a es ep) :=
  ⟨z, let ⟨o, e, _⟩ := z; ⟨o, e⟩, fun h1 h2 ⟨o, e, r⟩ k => ⟨o, k o e, r⟩⟩
/-- what a key is, as a value of the hand layer -/
def KyV (H : Hp) : OK → V → Prop
  | .non, v => v = .non
  | .bo b, v => v = .bl b
  | .sc k, v => v = kV k
  | .tp ks, v => ∃ a, v = .ref a ∧ H a = some (.tup (ks.map kV))
section
variable {X : Cx} {pins : List (Addr × Obj)} {σ : L2.St} {H : Hp} {s : Shared}
theorem items_keys {P : Program} {w : World} : ∀ {ks : List Key} {us : List Value}, Vals (ks.map kV) us → ItemsAre (mixKind P w) ks us
  | [], _, .nil => .nil
  | k :: ks, _, .cons r t => .cons (kV_is (P := P) (w := w) r) (items_keys t)
theorem KyV.ky (I : Inv X pins σ H s) {k : OK} {v : V} {u : Value} (z : KyV H k v) (r : RelV v u) : Ky X.prog X.w s.heap k u := by
  cases k with
  | non => cases (show v = .non from z); exact r
  | bo b => cases (show v = .bl b from z); exact r
  | sc k => cases (show v = kV k from z); exact kV_is (P := X.prog) (w := X.w) r
  | tp ks =>
    obtain ⟨a, rfl, e⟩ := z
    cases (show u = Value.ref a from r)
    obtain ⟨_, its, rv, o, h1, h2, n, h3⟩ := (show ObjOk X.prog X.w H s.heap a (.tup (ks.map kV)) from I.hok a _ e)
    exact ⟨a, rfl, o, _, n, h1, h2, h3, items_keys rv⟩
theorem ents_of (I : Inv X pins σ H s) : ∀ {ps : List Addr} {es : List (OK × V × V)}, Paired (fun p e => H p = some (.tup [e.2.1, e.2.2]) ∧ KyV H e.1 e.2.1 ∧ Big e.1) ps es →
    ∃ qs : List Ent, qs.length = ps.length ∧ ∀ (j : Nat) (q : Ent), qs[j]? = some q → ∃ b : Addr, ps[j]? = some b ∧ IsTup s.heap b #[q.2.1, q.2.2] ∧ Ky X.prog X.w s.heap q.1 q.2.1 ∧ Big q.1
  | _, _, .nil => ⟨[], rfl, fun j q e => by simp at e⟩
  | _, _, .cons (a := p) (b := e) h t => by
    obtain ⟨qs, hl, hq⟩ := ents_of I t
    obtain ⟨h1, h2, h3⟩ := h
    obtain ⟨_, its, rv, ht⟩ := (show ObjOk X.prog X.w H s.heap p (.tup [e.2.1, e.2.2]) from I.hok p _ h1)
    obtain ⟨u, y, rfl, ru, ry⟩ := vals2 rv
    refine ⟨(e.1, u, y) :: qs, by rw [List.length_cons, List.length_cons, hl], fun j q hj => ?_⟩
    cases j with
    | zero =>
      cases (Option.some.inj hj : (e.1, u, y) = q)
      exact ⟨p, rfl, ht, h2.ky I ru, h3⟩
    | succ j =>
      obtain ⟨b, z⟩ := hq j q (by simpa using hj)
      exact ⟨b, by simpa using z.1, z.2⟩
end
section
variable {X : Cx}
def rDictO : List V → Hp → VK → Prop := fun xs H Q => ∃ (l : Addr) (ps : List Addr) (es : List (OK × V × V)), xs = [.ref l] ∧ H l = some (.lst (ps.map V.ref)) ∧ Paired (fun p e => H p = some (.tup [e.2.1, e.2.2]) ∧ KyV H e.1 e.2.1 ∧ Big e.1) ps es ∧ ps.length ≤ 500 ∧
  ∀ p ents ep, H p = none → Q (.ref p) (upd H p (RawO p ents ep))
theorem cr_dictO (hc : X.calm = true) (hu : X.A.units + 8 < cLine) : CallR X (.type "dict") rDictO := by
  intro pins s σ H xs us Q I r h
  obtain ⟨l, ps, es, rfl, hl, hp, h5, q⟩ := h
  obtain ⟨u, rfl, rx⟩ := vals1 r
  cases (show u = Value.ref l from rx)
  obtain ⟨hz, its, n, rv, ho⟩ := (show ObjOk X.prog X.w H s.heap l (.lst (ps.map V.ref)) from I.hok l _ hl)
  have ei := refs_at rv
  subst ei
  obtain ⟨qs, ql, hq⟩ := ents_of I hp
  have hh := I.ok.hd hc
  refine callType_codes (Q₁ := fun obj t => obj = .ref s.heap.objs.size ∧ t = { s with heap := s.heap.push { cls := .type "dict", data := .dict #[] } }) PySem.F.kt_called_dict (PySem.F.kt_typeCall_dict_1 _) PySem.F.entry_dict_init (kt_code_dict_new _ ⟨rfl, rfl⟩) fun obj t ⟨e1, e2⟩ => ?_
  subst e1 e2
  have new : OdD X.prog X.w (s.heap.push { cls := .type "dict", data := .dict #[] }) s.heap.objs.size [] := ⟨_, #[], 0, Heap.get?_push_size _ rfl, ⟨rfl, rfl, rfl⟩, rfl, rfl, (fun x hx => by cases hx), .nil⟩
  have k0 : ∀ b o, s.heap.get? b = some o → (s.heap.push { cls := .type "dict", data := .dict #[] }).get? b = some o := fun b o e => Heap.get?_push_of_some _ e
  have hT : Shared.TypeIs { s with heap := s.heap.push { cls := .type "dict", data := .dict #[] } } (.ref s.heap.objs.size) "dict" := ⟨_, Heap.get?_push_size _ rfl, rfl⟩
  refine ⟨hT, PySem.F.args_dict_init_2 _ _, ?_⟩
  unfold Builtin.«dict.__init__»
  refine wpAny_bind (m := Builtin.Dict.selfAndRest _ _) ?_
  unfold Builtin.Dict.selfAndRest
  refine wpAny_bind (wpAny_notOrdered_dict hT ?_)
  show wpAny _ _ (pure (s.heap.objs.size, [Value.ref l])) _ _ _
  refine wpAny_pure ?_
  show wpAny _ _ (Builtin.Dict.updateFrom "dict.__init__" s.heap.objs.size (.ref l) [] .none) _ _ _
  unfold Builtin.Dict.updateFrom
  refine wpAny_bind (wpAny_typeOf (T := "list") ⟨_, k0 _ _ ho, rfl⟩ (by
    rw [if_pos (by decide)]
    refine wpAny_bind (miss_list (k0 _ _ ho) rfl rfl rfl hh fun h1 tk1 hk1 => ?_)
    rw [if_pos (show (none : Option Value).isNone = true from rfl)]
    have hl1 : h1.IsList l (ps.map Value.ref).toArray := ⟨_, hk1 _ _ (k0 _ _ ho), rfl, n, rfl⟩
    have hS1 : s.heap.objs.size < h1.objs.size := Heap.lt_size (hk1 _ _ (Heap.get?_push_size s.heap rfl))
    refine wpAny_bind (wpAny_rule (wpAny_bind (wpAny_pyIter_list hl1 ?_)))
    have k2 : ∀ b o, h1.get? b = some o → (h1.push { cls := .type "list_iterator", data := .fields #[.ref l, .int 0 0] }).get? b = some o := fun b o e => Heap.get?_push_of_some _ e
    have hlt : l < s.heap.objs.size := Heap.lt_size ho
    have kall : ∀ b o, s.heap.get? b = some o → (h1.push { cls := .type "list_iterator", data := .fields #[.ref l, .int 0 0] }).get? b = some o := fun b o e => k2 _ _ (hk1 _ _ (k0 _ _ e))
    have run := fill (P := X.prog) (w := X.w) (A := X.A.in1) (R := wants (fun r t => r = .none ∧ EP X pins σ Q (.ref s.heap.objs.size) t) X.xe) (S := s.heap.objs.size) (I := h1.objs.size) (l := l) (items := (ps.map Value.ref).toArray) (res := Value.none)
      (by show X.A.units + 1 + 1 + 1 < cLine; omega) hh (Nat.ne_of_lt (Nat.lt_trans hlt hS1)) (Nat.ne_of_lt hS1) (Nat.ne_of_gt hlt) qs 0 [] 0 0 { s with heap := h1.push { cls := .type "list_iterator", data := .fields #[.ref l, .int 0 0] }, toks := tk1 }
      (by simp [ql]) (by rw [List.length_nil]; omega) (fun j q' e => by
        obtain ⟨b, z1, z2, z3, z4⟩ := hq j q' e
        have hb : b < s.heap.objs.size := z2.lt
        exact ⟨b, by simp [z1], Nat.ne_of_lt hb, Nat.ne_of_lt (Nat.lt_trans hb hS1), z2.keeps kall, z3.kept kall, z4⟩)
      ⟨_, Heap.get?_push_size _ rfl, rfl, rfl⟩ (hl1.at fun o e => k2 _ _ e) (new.kept fun b o e => k2 _ _ (hk1 _ _ e))
      (fun h' tk hd' kk => ⟨rfl, by
        obtain ⟨o, ents, ep, h2, h3, h4, _⟩ := hd'
        have k3 : ∀ b o, s.heap.get? b = some o → h'.get? b = some o := fun b o e => kk b o (Nat.ne_of_lt (Heap.lt_size e)) (Nat.ne_of_lt (Nat.lt_trans (Heap.lt_size e) hS1)) (kall b o e)
        exact ⟨.ref s.heap.objs.size, upd H s.heap.objs.size (RawO s.heap.objs.size ents ep), I.laid (t' := tk) k3 (Nat.le_refl _) (rawO_ok ⟨o, h2, h3, h4⟩), rfl, q _ _ _ (I.hok.fresh (Nat.le_refl _))⟩⟩)
    · first
        | exact wpAny_pure ⟨plainId_quiet ud_plain _, run⟩
        | exact wpAny_bind (wpAny_pure (wpAny_pure ⟨plainId_quiet ud_plain _, run⟩))))
/-! ### isinstance, of such a dict too -/
inductive TyD (K : PySem.W.Frag) (H : Hp) : V → Value → Prop
  | x {v : V} {t : Value} (h : TyX K H v t) : TyD K H v t
  | raw {a : Addr} {es : Array DictEntry} {ep : Nat} (h : H a = some (RawO a es ep)) : TyD K H (.ref a) (.type "dict")
theorem tyD_kit {pins : List (Addr × Obj)} {σ : L2.St} {H : Hp} {s : Shared} {v : V} {u t : Value} (I : Inv X pins σ H s) (r : RelV v u) (z : TyD X.K H v t) : ∃ P : Heap → Prop, PySem.W.KitX X.K u t P ∧ P s.heap ∧ u ≠ .builtin "__main__.__loader__#opaque" := by
  cases z with
  | x h => exact kit_of I r h
  | @raw a es ep h =>
    cases (show u = Value.ref a from r)
    obtain ⟨⟨o, h1, h2, _⟩, _⟩ := I.hok a _ h
    exact ⟨_, PySem.W.kitx_dict, ⟨o, h1, h2.1⟩, fun z => nomatch z⟩
def rIsD (K : PySem.W.Frag) : List V → Hp → VK → Prop := fun xs H Q => ∃ (v c : V) (t u : Value) (b : Bool), xs = [v, c] ∧ ClsV c u ∧ TyD K H v t ∧ PySem.W.kitOne K t u = some b ∧ Q (.bl b) H
theorem call_isD : CallR X (.builtin "isinstance") (rIsD X.K) := by
  intro pins s σ H xs us Q I r h
  obtain ⟨v, c, t, u, b, rfl, k, ty, e, q⟩ := h
  obtain ⟨u1, u2, rfl, r1, r2⟩ := vals2 r
  obtain rfl := k.eq r2
  obtain ⟨P, Z, p, hx⟩ := tyD_kit I r1 ty
  exact PySem.W.kia_one Z I.kIn p e hx fun tk => ⟨.bl b, H, I.tok tk, rfl, q⟩
def rIsDT (K : PySem.W.Frag) : List V → Hp → VK → Prop := fun xs H Q => ∃ (v : V) (tp : Addr) (cs : List V) (t : Value) (us : List Value) (b : Bool), xs = [v, .ref tp] ∧ H tp = some (.tup cs) ∧ Paired ClsV cs us ∧ TyD K H v t ∧ PySem.W.kitAny K t us = some b ∧ Q (.bl b) H
theorem call_isDT : CallR X (.builtin "isinstance") (rIsDT X.K) := by
  intro pins s σ H xs us Q I r h
  obtain ⟨v, tp, cs, t, ws, b, rfl, hT, k, ty, e, q⟩ := h
  obtain ⟨u1, u2, rfl, r1, r2⟩ := vals2 r
  cases (show u2 = Value.ref tp from r2)
  obtain ⟨P, Z, p, hx⟩ := tyD_kit I r1 ty
  obtain ⟨_, its, rv, ⟨oc, od, dt, sl⟩, h1, h2, n, h3⟩ := (show ObjOk X.prog X.w H s.heap tp (.tup cs) from I.hok tp _ hT)
  obtain rfl := ClsV.all k rv
  simp only at h2 h3
  subst h2 h3
  exact PySem.W.kia_tup Z I.kIn p h1 e hx fun tk => ⟨.bl b, H, I.tok tk, rfl, q⟩
end
end Gdo

set_option Elab.async false
set_option linter.all false
set_option maxRecDepth 100000
set_option maxHeartbeats 4000000
/-! a dict with odd keys, tracked by its entries as values: stored to, walked, asked -/
namespace Gdo
open PySem PySem.Spec PyProof.Rows L2
/-- an entry: which key, the key's value, the value -/
abbrev EnV := OK × V × V
def EnR (x : EnV) (q : Ent) : Prop := x.1 = q.1 ∧ RelV x.2.1 q.2.1 ∧ RelV x.2.2 q.2.2
def RawP (P : Program) (w : World) (a : Addr) (xs : List EnV) (h : Heap) : Prop :=
  (a == sysModules) = false ∧ xs.length ≤ sizeLine ∧ (xs.map (·.1)).Nodup ∧ ∃ (o : Obj) (es : Array DictEntry) (ep : Nat) (qs : List Ent), h.get? a = some o ∧ o.ExactDict ∧ o.data = .dict es ep ∧ es.toList = qs.map (entOf P w) ∧ Paired EnR xs qs
def RawV (P : Program) (w : World) (a : Addr) (xs : List EnV) : HO := .ext (RawP P w a xs)
/-- its keys, where they stand -/
def EnK (H : Hp) (xs : List EnV) : Prop := ∀ x ∈ xs, KyV H x.1 x.2.1 ∧ Big x.1
def storV (xs : List EnV) (k : OK) (y v : V) : List EnV := if k ∈ xs.map (·.1) then xs.map (fun x => if x.1 = k then (x.1, x.2.1, v) else x) else xs ++ [(k, y, v)]
def scE (p : Key × V) : EnV := (.sc p.1, kV p.1, p.2)
theorem KyV.ext {H H' : Hp} {k : OK} {v : V} (z : KyV H k v) (e : ∀ a xs, H a = some (.tup xs) → H' a = some (.tup xs)) : KyV H' k v := by
  cases k with
  | tp ks =>
    obtain ⟨a, rfl, h⟩ := z
    exact ⟨a, rfl, e _ _ h⟩
  | _ => exact z
theorem enr_keys {xs : List EnV} {qs : List Ent} (h : Paired EnR xs qs) : qs.map (·.1) = xs.map (·.1) := by
  induction h with
  | nil => rfl
  | cons r _ ih => rw [List.map_cons, List.map_cons, ih, r.1]
theorem enr_get {xs : List EnV} {qs : List Ent} (h : Paired EnR xs qs) : ∀ {i : Nat} {x : EnV}, xs[i]? = some x → ∃ q, qs[i]? = some q ∧ EnR x q := by
  induction h with
  | nil => intro i x e; cases e
  | cons r _ ih =>
    intro i x e
    cases i with
    | zero => cases e; exact ⟨_, rfl, r⟩
    | succ i => exact ih e
theorem enr_mem {xs : List EnV} {qs : List Ent} (h : Paired EnR xs qs) : ∀ {q : Ent}, q ∈ qs → ∃ x ∈ xs, EnR x q := by
  induction h with
  | nil => intro q e; cases e
  | cons r _ ih =>
    intro q e
    rcases List.mem_cons.mp e with rfl | e
    · exact ⟨_, List.mem_cons_self .., r⟩
    · obtain ⟨x, h1, h2⟩ := ih e
      exact ⟨x, List.mem_cons_of_mem _ h1, h2⟩
theorem enr_stor {xs : List EnV} {qs : List Ent} {k : OK} {y v : V} {u r : Value} (h : Paired EnR xs qs) (ry : RelV y u) (rv : RelV v r) : Paired EnR (storV xs k y v) (stor qs k u r) := by
  unfold storV stor
  rw [enr_keys h]
  by_cases hk : k ∈ xs.map (·.1)
  · rw [if_pos hk, if_pos hk]
    clear hk
    induction h with
    | nil => exact .nil
    | @cons x q _ _ e _ ih =>
      refine .cons ?_ ih
      obtain ⟨e1, e2, e3⟩ := e
      show EnR (if x.1 = k then (x.1, x.2.1, v) else x) (if q.1 = k then (q.1, q.2.1, r) else q)
      rw [← e1]
      by_cases c : x.1 = k
      · rw [if_pos c, if_pos c]
        exact ⟨rfl, e2, rv⟩
      · rw [if_neg c, if_neg c]
        exact ⟨e1, e2, e3⟩
  · rw [if_neg hk, if_neg hk]
    clear hk
    induction h with
    | nil => exact .cons ⟨rfl, ry, rv⟩ .nil
    | cons e _ ih => exact .cons e ih
theorem storV_len (xs : List EnV) (k : OK) (y v : V) : (storV xs k y v).length ≤ xs.length + 1 := by
  unfold storV
  split
  · rw [List.length_map]; omega
  · rw [List.length_append]; exact Nat.le_refl _
theorem storV_keys {xs : List EnV} {k : OK} {y v : V} (hn : (xs.map (·.1)).Nodup) : ((storV xs k y v).map (·.1)).Nodup := by
  unfold storV
  split
  · rw [List.map_map]
    have : ((fun x : EnV => x.1) ∘ fun x : EnV => if x.1 = k then (x.1, x.2.1, v) else x) = fun x : EnV => x.1 := by
      funext x
      show (if x.1 = k then (x.1, x.2.1, v) else x).1 = x.1
      split <;> rfl
    rw [this]; exact hn
  · next h =>
    rw [List.map_append]
    refine List.nodup_append.mpr ⟨hn, by simp, fun a ha b hb => ?_⟩
    rw [List.map_cons, List.map_nil, List.mem_singleton] at hb
    subst hb
    exact fun e => h (e ▸ ha)
theorem storV_mem {xs : List EnV} {k : OK} {y v : V} {x : EnV} (h : x ∈ storV xs k y v) : (∃ x' ∈ xs, x'.1 = x.1 ∧ x'.2.1 = x.2.1 ∧ ((x.2.2 = x'.2.2 ∧ x.1 ≠ k) ∨ (x.2.2 = v ∧ x.1 = k))) ∨ x = (k, y, v) := by
  unfold storV at h
  split at h
  · obtain ⟨x', h1, rfl⟩ := List.mem_map.mp h
    by_cases c : x'.1 = k
    · rw [if_pos c]
      exact .inl ⟨x', h1, rfl, rfl, .inr ⟨rfl, c⟩⟩
    · rw [if_neg c]
      exact .inl ⟨x', h1, rfl, rfl, .inl ⟨rfl, c⟩⟩
  · next hn =>
    rcases List.mem_append.mp h with h | h
    · exact .inl ⟨x, h, rfl, rfl, .inl ⟨rfl, fun e => hn (e ▸ List.mem_map.mpr ⟨x, h, rfl⟩)⟩⟩
    · exact .inr (List.mem_singleton.mp h)
theorem sc_nodup : ∀ {l : List L2.Key}, l.Nodup → (l.map OK.sc).Nodup
  | [], _ => .nil
  | k :: r, h => by
    obtain ⟨h1, h2⟩ := List.nodup_cons.mp h
    refine List.nodup_cons.mpr ⟨fun m => ?_, sc_nodup h2⟩
    obtain ⟨x, hx, e⟩ := List.mem_map.mp m
    injection e with e
    exact h1 (e ▸ hx)
/-- what was stored is there -/
theorem storV_at (xs : List EnV) (k : OK) (y v : V) : ∃ x ∈ storV xs k y v, x.1 = k ∧ x.2.2 = v := by
  unfold storV
  by_cases h : k ∈ xs.map (·.1)
  · rw [if_pos h]
    obtain ⟨x, h1, h2⟩ := List.mem_map.mp h
    refine ⟨_, List.mem_map.mpr ⟨x, h1, rfl⟩, ?_⟩
    rw [if_pos h2]
    exact ⟨h2, rfl⟩
  · rw [if_neg h]
    exact ⟨_, List.mem_append_right _ (List.mem_singleton.mpr rfl), rfl, rfl⟩
theorem enk_stor {H : Hp} {xs : List EnV} {k : OK} {y v : V} (h : EnK H xs) (hk : KyV H k y) (hb : Big k) : EnK H (storV xs k y v) := fun x hx => by
  rcases storV_mem hx with ⟨x', h1, h2, h3, _⟩ | rfl
  · rw [← h2, ← h3]
    exact h x' h1
  · exact ⟨hk, hb⟩
theorem EnK.ext {H H' : Hp} {xs : List EnV} (h : EnK H xs) (e : ∀ a xs, H a = some (.tup xs) → H' a = some (.tup xs)) : EnK H' xs := fun x hx => ⟨(h x hx).1.ext e, (h x hx).2⟩
section
variable {X : Cx} {pins : List (Addr × Obj)} {σ : L2.St} {H : Hp} {s : Shared}
theorem raw_od (I : Inv X pins σ H s) {a : Addr} {xs : List EnV} (h : Rd H a (RawV X.prog X.w a xs)) (hk : EnK H xs) : (a == sysModules) = false ∧ xs.length ≤ sizeLine ∧ ∃ qs, OdD X.prog X.w s.heap a qs ∧ Paired EnR xs qs := by
  obtain ⟨⟨h1, h2, h3, o, es, ep, qs, h4, h5, h6, h7, h8⟩, _⟩ := (show ObjOk X.prog X.w H s.heap a (RawV X.prog X.w a xs) from h.ok I.hok)
  refine ⟨h1, h2, qs, ⟨o, es, ep, h4, h5, h6, h7, fun q hq => ?_, by rw [enr_keys h8]; exact h3⟩, h8⟩
  obtain ⟨x, hx, e1, e2, e3⟩ := enr_mem h8 hq
  rw [← e1]
  exact ⟨(hk x hx).1.ky I e2, (hk x hx).2⟩
theorem scE_od (I : Inv X pins σ H s) {a : Addr} {kvs : List (Key × V)} (h : H a = some (.dK kvs)) (hk : ∀ p ∈ kvs, Big (.sc p.1)) : (a == sysModules) = false ∧ kvs.length ≤ sizeLine ∧ (kvs.map (·.1)).Nodup ∧ ∃ qs, OdD X.prog X.w s.heap a qs ∧ Paired EnR (kvs.map scE) qs := by
  obtain ⟨z, hd, vs, rel, o, es, ep, h1, h2, h3, h4, h5, h6⟩ := dk_of I.hok h
  have key : ∀ {l : List (Key × V)} {m : List (Key × Value)}, KV l m → l.map (·.1) = m.map (·.1) := by
    intro l m r
    induction r with
    | nil => rfl
    | cons e _ ih => rw [List.map_cons, List.map_cons, ih, e.1]
  have hn : (kvs.map (·.1)).Nodup := by rw [key rel]; exact h6
  have go : ∀ {l : List (Key × V)} {m : List (Key × Value)} {ds : List DictEntry}, KV l m → Pairs (mixKind X.prog X.w) ds m → (∀ e ∈ ds, ∃ k, (mixKind X.prog X.w).is k e.key = true ∧ e.hash = (mixKind X.prog X.w).hash k) → (∀ p ∈ l, Big (.sc p.1)) →
      ∃ qs : List Ent, ds = qs.map (entOf X.prog X.w) ∧ Paired EnR (l.map scE) qs ∧ ∀ q ∈ qs, Ky X.prog X.w s.heap q.1 q.2.1 ∧ Big q.1 := by
    intro l m ds r
    induction r generalizing ds with
    | nil =>
      intro p _ _
      cases p
      exact ⟨[], rfl, .nil, fun q hq => by cases hq⟩
    | @cons p q l m e _ ih =>
      intro pr hh hb
      cases pr with
      | @cons en _ ds' _ p1 p2 p3 =>
        obtain ⟨qs, q1, q2, q3⟩ := ih p3 (fun e he => hh e (List.mem_cons_of_mem _ he)) fun p hp => hb p (List.mem_cons_of_mem _ hp)
        obtain ⟨e1, e2⟩ := e
        obtain ⟨k', k1, k2⟩ := hh en (List.mem_cons_self ..)
        have ek : k' = q.1 := (mixKind X.prog X.w).inj _ _ _ k1 p1
        subst ek
        refine ⟨(.sc q.1, en.key, en.val) :: qs, ?_, .cons ⟨by show OK.sc p.1 = .sc q.1; rw [e1], ?_, ?_⟩ q2, fun x hx => ?_⟩
        · rw [q1]
          show en :: _ = (⟨oh X.prog X.w (.sc q.1), en.key, en.val⟩ : DictEntry) :: _
          have : oh X.prog X.w (.sc q.1) = en.hash := k2.symm
          rw [this]
        · show RelV (kV p.1) en.key
          rw [e1]
          exact relV_key (show keyIs q.1 en.key = true from p1)
        · show RelV p.2 en.val
          rw [p2]
          exact e2
        · rcases List.mem_cons.mp hx with rfl | hx
          · refine ⟨p1, ?_⟩
            show Big (.sc q.1)
            rw [← e1]
            exact hb p (List.mem_cons_self ..)
          · exact q3 x hx
  obtain ⟨qs, q1, q2, q3⟩ := go rel h5 (fun e he => h4 e (Array.mem_toList_iff.mp he)) hk
  refine ⟨hd, z, hn, qs, ⟨o, es, ep, h1, h2, h3, q1, q3, ?_⟩, q2⟩
  have : qs.map (·.1) = (kvs.map (·.1)).map OK.sc := by
    rw [enr_keys q2, List.map_map, List.map_map]
    rfl
  rw [this]
  exact sc_nodup hn
end
end Gdo

set_option Elab.async false
set_option linter.all false
set_option maxRecDepth 100000
set_option maxHeartbeats 4000000
/-! rules for such a dict -/
namespace Gdo
open PySem PySem.Spec PyProof.Rows L2
section
variable {X : Cx} {pins : List (Addr × Obj)} {σ : L2.St} {H : Hp} {s : Shared} {A : Around} {E : Value → Shared → Prop}
theorem dget_at {P : Program} {w : World} {d : Addr} {xs : List Ent} {k : OK} {u : Value} {Q : Option Value → Shared → Prop} (hu : A.units + 1 < cLine) (bk : Big k) (hkey : Ky P w s.heap k u) (hm : OdD P w s.heap d xs) {q : Ent} (hq : q ∈ xs) (e : q.1 = k)
    (h : ∀ tk, Q (some q.2.2) { s with toks := tk }) : wpAny (model P w) A (dictGet d u) Q E s := by
  obtain ⟨o, es, ep, ho, hc, hd, he, hk, hn⟩ := hm
  unfold dictGet
  try with_reducible refine wpAny_holding ?_
  refine wpAny_bind (ky_hash (by omega) hkey (wpAny_bind (find_at (s := { s with toks := s.toks + dr k }) hu bk hkey ho hd he hk hn (fun hno => ?_) (fun j x hj hx => ?_))))
  · exact absurd (List.mem_map.mpr ⟨q, hq, e⟩) hno
  · obtain ⟨i, hi⟩ := List.mem_iff_getElem?.mp hq
    have ij : i = j := key_uniq hn hi hj (e.trans hx.symm)
    subst ij
    rw [hj] at hi
    cases hi
    refine wpAny_bind (wpAny_dictEntries (s := { s with toks := s.toks + dr k }) ho hd ?_)
    rw [ent_at he i, hj]
    exact wpAny_pure (h _)
theorem get_at {P : Program} {w : World} {d : Addr} {xs : List Ent} {k : OK} {u : Value} {Q : Value → Shared → Prop} (hu : A.in1.units + 1 < cLine) (bk : Big k) (hkey : Ky P w s.heap k u) (hm : OdD P w s.heap d xs) {q : Ent} (hq : q ∈ xs) (e : q.1 = k)
    (h : ∀ tk, Q q.2.2 { s with toks := tk }) : wpAny (model P w) A (getItem (.ref d) u) Q E s := by
  have ty : s.TypeIs (.ref d) "dict" := let ⟨o, _, _, ho, hc, _⟩ := hm; ⟨o, ho, hc.1⟩
  unfold getItem
  try with_reducible refine wpAny_holding ?_
  refine wpAny_bind (wpAny_sequenceKey ty (by decide) ?_)
  refine wpAny_bind (wpAny_callSpecial?_slot (name := Str.ofString "__getitem__") ty PySem.F.slot_dict_getitem
    (wpAny_call_entry PySem.F.slot_dict_getitem ty PySem.F.entry_dict_getitem ?_ (PySem.args_dict_getitem _ _)))
  show wpAny _ _ (dictGet d u >>= _) _ _ s
  refine wpAny_bind (dget_at (A := A.in1) hu bk hkey hm hq e fun tk => ?_)
  exact wpAny_pure ⟨_, rfl, wpAny_pure (h _)⟩
theorem put_at {P : Program} {w : World} {d : Addr} {xs : List Ent} {k : OK} {u v : Value} {Q : Unit → Shared → Prop} (hu : A.in1.units + 1 < cLine) (bk : Big k) (hkey : Ky P w s.heap k u) (hm : OdD P w s.heap d xs) (hz : xs.length < sizeLine)
    (hQ : ∀ h' tk, OdD P w h' d (stor xs k u v) → Heap.SameBut d s.heap h' → Q () { s with heap := h', toks := tk }) : wpAny (model P w) A (setItem (.ref d) u v) Q E s := by
  have ty : s.TypeIs (.ref d) "dict" := let ⟨o, _, _, ho, hc, _⟩ := hm; ⟨o, ho, hc.1⟩
  unfold setItem
  try with_reducible refine wpAny_holding ?_
  refine wpAny_bind (wpAny_sequenceKey ty (by decide) ?_)
  refine wpAny_bind (wpAny_callSpecial?_slot (name := Str.ofString "__setitem__") ty PySem.F.slot_dict_setitem
    (wpAny_call_entry PySem.F.slot_dict_setitem ty PySem.F.entry_dict_setitem ?_ (PySem.args_dict_setitem _ _ _)))
  show wpAny _ _ (Builtin.Dict.notOrdered "__setitem__" ⟨[.ref d, u, v], []⟩ >>= _) _ _ s
  refine wpAny_bind (wpAny_notOrdered_dict ty ?_)
  show wpAny _ _ (dictSet d u v >>= _) _ _ s
  exact wpAny_bind (set_at (A := A.in1) hu bk hkey hm hz fun h' tk a b => wpAny_pure ⟨.none, rfl, wpAny_pure (hQ h' tk a b)⟩)
/-- behind a[y] = v, a dict with whatever keys -/
def OPut (P : Program) (w : World) (H : Hp) (a : Addr) (y v : V) (H' : Hp) : Prop :=
  ∃ (kvs : List (Key × V)) (k : OK), H a = some (.dK kvs) ∧ (∀ p ∈ kvs, Big (.sc p.1)) ∧ KyV H k y ∧ Big k ∧ kvs.length < sizeLine ∧ H' = upd H a (RawV P w a (storV (kvs.map scE) k y v))
def sOPut (P : Program) (w : World) (td ty tv : TE) : TS := fun D σ H => tv σ H fun v H1 => td σ H1 fun x H2 => ty σ H2 fun y H3 => ∃ a H4, x = .ref a ∧ (DPut H3 a y v H4 ∨ OPut P w H3 a y v H4) ∧ D.nx σ H4
variable {o i e value : Expr} {pos pos' tpos : Pos} {td ty tv : TE}
theorem ps_oput {P : Program} {w : World} (hP : X.prog = P) (hw : X.w = w) (hu : X.A.units + 2 < cLine) (ho : PE X o td) (hi : PE X i ty) (hv : PE X value tv) (hs : swapsWith value (some (.Subscript o i pos')) pos.line X.env = pure false) :
    PS X (.Assign [.Subscript o i pos'] value pos) (sOPut P w td ty tv) := by
  subst hP hw
  refine ⟨fun pins s σ H D I h => ?_⟩
  refine wpAny_Assign_Subscript (thn (hv.run pins s σ H _ I h) fun r s1 ⟨v, H1, I1, rv, q1⟩ => thn (ho.run pins s1 σ H1 _ I1 q1) fun u s2 ⟨x, H2, I2, rx, q2⟩ => thn (hi.run pins s2 σ H2 _ I2 q2) fun iv s3 ⟨y, H3, I3, ry, a, H4, ex, g, q3⟩ => ?_) hs
  subst ex
  obtain rfl : u = Value.ref a := rx
  rcases g with g | ⟨kvs, k, e1, e2, e3, e4, e5, rfl⟩
  · exact d_setItem (by omega) I3 g ry rv fun s4 I4 => ⟨σ, H4, I4, q3⟩
  · obtain ⟨z1, z2, z4, qs, z5, z6⟩ := scE_od I3 e1 e2
    have hl : qs.length = kvs.length := by rw [← Paired.length z6, List.length_map]
    refine put_at (by show X.A.units + 1 + 1 < cLine; omega) e4 (e3.ky I3 ry) z5 (by omega) fun h' tk hd sb => ⟨σ, _, ?_, q3⟩
    obtain ⟨o', es, ep, h1, h2, h3, h4, h5, h6⟩ := hd
    refine d_write (t' := tk) I3 (by rw [e1]; exact True.intro) sb ⟨o', h1⟩ ⟨⟨z1, ?_, ?_, o', es, ep, _, h1, h2, h3, h4, enr_stor z6 ry rv⟩, ⟨o', h1⟩, fun h1' h2' ⟨a1, a2, a3, ob, es', ep', qs', a4, r⟩ kk => ⟨a1, a2, a3, ob, es', ep', qs', kk _ a4, r⟩⟩
    · have := storV_len (kvs.map scE) k y v
      rw [List.length_map] at this
      omega
    · refine storV_keys ?_
      have : (kvs.map scE).map (·.1) = (kvs.map (·.1)).map OK.sc := by
        rw [List.map_map, List.map_map]
        rfl
      rw [this]
      exact sc_nodup z4
/-- the same again on such a dict -/
def RGet (P : Program) (w : World) (H : Hp) (a : Addr) (y v : V) : Prop := ∃ xs x, Rd H a (RawV P w a xs) ∧ EnK H xs ∧ x ∈ xs ∧ KyV H x.1 y ∧ x.2.2 = v
def tRGet (P : Program) (w : World) (td ty : TE) : TE := fun σ H Q => td σ H fun x H1 => ty σ H1 fun y H2 => ∃ a v, x = .ref a ∧ (DGet H2 a y (some v) ∨ RGet P w H2 a y v) ∧ Q v H2
theorem pe_rget {P : Program} {w : World} (hP : X.prog = P) (hw : X.w = w) (hu : X.A.units + 2 < cLine) (ho : PE X o td) (hi : PE X i ty) (hs : NoSl i) : PE X (.Subscript o i pos) (tRGet P w td ty) := by
  subst hP hw
  refine ⟨fun pins s σ H Q I h => ?_⟩
  refine subD_of PySem.F.slot_dict_getitem.lookup hs (thn (ho.run pins s σ H _ I h) fun u s1 ⟨x, H1, I1, rx, q1⟩ => thn (hi.run pins s1 σ H1 _ I1 q1) fun iv s2 ⟨y, H2, I2, ry, a, v, ex, g, q2⟩ => ?_)
  subst ex
  obtain rfl : u = Value.ref a := rx
  rcases g with g | ⟨xs, x, g, gk, gx, gy, rfl⟩
  · exact ⟨dict_typeIs I2 g, d_getItem (by omega) I2 g ry fun w' s3 I3 rw' => ⟨v, H2, I3, rw', q2⟩⟩
  · obtain ⟨z1, z2, qs, z3, z4⟩ := raw_od I2 g gk
    obtain ⟨j, hj⟩ := List.mem_iff_getElem?.mp gx
    obtain ⟨q, hq, e1, e2, e3⟩ := enr_get z4 hj
    refine ⟨let ⟨o, _, _, ho, hc, _⟩ := z3; ⟨o, ho, hc.1⟩, ?_⟩
    exact get_at (k := x.1) (q := q) (by show X.A.units + 1 + 1 < cLine; omega) (gk x gx).2 (gy.ky I2 ry) z3 (List.mem_of_getElem? hq) e1.symm fun tk => ⟨x.2.2, H2, I2.tok tk, e3, q2⟩
/-! ### walked -/
theorem frzR {P : Program} {w : World} {h : Heap} {d : Addr} {o : Obj} {xs : List EnV} (ok : HOk P w H h) (e : H d = some (.frz o (RawV P w d xs))) :
    (d == sysModules) = false ∧ h.get? d = some o ∧ o.ExactDict ∧ ∃ (es : Array DictEntry) (ep : Nat) (qs : List Ent), o.data = .dict es ep ∧ es.size = xs.length ∧ es.toList = qs.map (entOf P w) ∧ Paired EnR xs qs := by
  obtain ⟨hd, ⟨z1, z2, z3, o', es, ep, qs, h1, h2, h3, h4, h5⟩, _⟩ := ok d _ e
  rw [hd] at h1
  cases h1
  refine ⟨z1, hd, h2, es, ep, qs, h3, ?_, h4, h5⟩
  rw [← Array.length_toList, h4, List.length_map, ← Paired.length h5]
end
def Itkr (P : Program) (w : World) (d : Addr) (o : Obj) (xs : List EnV) : It :=
  ⟨fun i H => H d = some (.frz o (RawV P w d xs)) ∧ i < xs.length, fun i H x H' => H' = H ∧ ∃ e, xs[i]? = some e ∧ x = e.2.1, fun i H => H d = some (.frz o (RawV P w d xs)) ∧ xs.length ≤ i⟩
def Itir (P : Program) (w : World) (d : Addr) (o : Obj) (xs : List EnV) : It :=
  ⟨fun i H => H d = some (.frz o (RawV P w d xs)) ∧ i < xs.length, fun i H x H' => ∃ T e, xs[i]? = some e ∧ x = .ref T ∧ H T = none ∧ H' = upd H T (.tup [e.2.1, e.2.2]), fun i H => H d = some (.frz o (RawV P w d xs)) ∧ xs.length ≤ i⟩
theorem walk_keysR {P : Program} {w : World} {d : Addr} {o : Obj} {xs : List EnV} : Walk (Itkr P w d o xs) xs.length (fun H => H d = some (.frz o (RawV P w d xs))) (YAt (xs.map fun e => e.2.1)) :=
  ⟨fun _ _ hi q => ⟨q, hi⟩, fun _ q => ⟨q, Nat.le_refl _⟩, fun i _ _ _ _ _ ⟨h, e, he, hx⟩ => ⟨h, by rw [List.getElem?_map, he, hx]; rfl⟩⟩
theorem walk_itemsR {P : Program} {w : World} {d : Addr} {o : Obj} {xs : List EnV} : Walk (Itir P w d o xs) xs.length (fun H => H d = some (.frz o (RawV P w d xs))) (YPair (fun i => xs[i]?.map fun e => e.2.1) fun i => xs[i]?.map fun e => e.2.2) := by
  refine ⟨fun _ _ hi q => ⟨q, hi⟩, fun _ q => ⟨q, Nat.le_refl _⟩, fun i H x H' _ _ y => ?_⟩
  obtain ⟨T, e, h1, h2, h3, h4⟩ := y
  exact ⟨T, e.2.1, e.2.2, h2, h3, h4, by simp [h1], by simp [h1]⟩
section
variable {P : Program} {w : World} {K : PySem.W.Frag} {tg : Expr} {d : Addr} {o : Obj} {es : Array DictEntry} {ep : Nat}
theorem turn_keysR {xs : List EnV} (it : Addr) (hod : o.data = .dict es ep) : Turn P w K tg (Itkr P w d o xs) [it] it (fun i h => h.IsKeyIter it d i xs.length ep) where
  mem := by simp
  obj := fun i h st b hb => by
    have e : b = it := by simpa using hb
    subst e
    obtain ⟨oi, e, c, dd⟩ := st
    exact ⟨oi, e, fun v z => by rw [dd] at z; cases z⟩
  keep := fun i h h' st k => st.at fun oi e => k it (by simp) oi e
  item := by
    intro X hP hw hK hc i pins s σ H E I hf st hg
    subst hP hw hK
    obtain ⟨hd, hi⟩ := hg
    obtain ⟨f0, f1, f2, f3, f4, f5⟩ := hf it (by simp)
    obtain ⟨hs, hgd, hx, es', ep', qs, hdt, hsz, he, pr⟩ := frzR I.hok hd
    obtain ⟨rfl, rfl⟩ := dict_ep hod hdt
    obtain ⟨x, hxi⟩ : ∃ p, xs[i]? = some p := ⟨xs[i], List.getElem?_eq_getElem hi⟩
    obtain ⟨q, hq, e1, e2, e3⟩ := enr_get pr hxi
    have hen := ent_at he i
    rw [hq, Option.map_some] at hen
    refine next_key_item st hgd hdt hsz hen fun h' st' sb => ?_
    have I1 : Inv X pins σ H { s with heap := h' } := I.turned (t' := s.toks) (fun b ob hb e => (sb.2 b hb).trans e) f0 f1 f3 f4 f5
    obtain ⟨oi, e, c, dd⟩ := id st'
    exact ⟨q.2.1, rfl, go_of (s := { s with heap := h' }) e c dd (by decide) ⟨x.2.1, H, I1, e2, ⟨rfl, x, hxi, rfl⟩, st', fun b hb => (hf b hb).1⟩⟩
  done := by
    intro X hP hw hK hc i pins s σ H E I hf st hg
    subst hP hw hK
    obtain ⟨hd, hi⟩ := hg
    obtain ⟨f0, f1, f2, f3, f4, f5⟩ := hf it (by simp)
    obtain ⟨hs, hgd, hx, es', ep', qs, hdt, hsz, he, pr⟩ := frzR I.hok hd
    obtain ⟨rfl, rfl⟩ := dict_ep hod hdt
    exact next_key_end (I.ok.hd hc) st hgd hdt hsz hi fun h' eb => ⟨rfl, I.turned (t' := s.toks) (fun b ob hb e => eb b ob hb e) f0 f1 f3 f4 f5⟩
  self := fun A i s Q E st h => wpAny_pyIter_keyiter st h
theorem turn_itemsR {xs : List EnV} {elts : List Expr} {kk : Nat} {tpos : Pos} (it : Addr) (hod : o.data = .dict es ep) :
    Turn P w K (.Tuple elts kk tpos) (Itir P w d o xs) [it] it (fun i h => ∃ ok ov, IsItemIter h it d i xs.length ep ok ov) where
  mem := by simp
  obj := fun i h st b hb => by
    have e : b = it := by simpa using hb
    subst e
    obtain ⟨ok, ov, e⟩ := st
    exact ⟨_, e, fun v z => nomatch z⟩
  keep := fun i h h' st k => let ⟨ok, ov, e⟩ := st; ⟨ok, ov, k it (by simp) _ e⟩
  item := by
    intro X hP hw hK hc i pins s σ H E I hf st hg
    subst hP hw hK
    obtain ⟨hd, hi⟩ := hg
    obtain ⟨hs, hgd, hx, es', ep', qs, hdt, hsz, he, pr⟩ := frzR I.hok hd
    obtain ⟨rfl, rfl⟩ := dict_ep hod hdt
    obtain ⟨x, hxi⟩ : ∃ p, xs[i]? = some p := ⟨xs[i], List.getElem?_eq_getElem hi⟩
    obtain ⟨q, hq, e1, e2, e3⟩ := enr_get pr hxi
    have hen := ent_at he i
    rw [hq, Option.map_some] at hen
    have hlt' : i < es'.size := by omega
    have hei : es'[i] = entOf X.prog X.w q := by
      rw [Array.getElem?_eq_getElem hlt'] at hen
      exact Option.some.inj hen
    obtain ⟨ok, ov, hit⟩ := st
    rw [← hsz] at hit
    have hlt : it < s.heap.objs.size := Heap.lt_size hit
    refine wpAny_pyNext_items_item_raw hit ⟨o, hgd, hx, hdt⟩ hlt' fun h' ho hT hz hk => ?_
    rw [hei] at ho hT
    refine ⟨_, rfl, wpAny_letOwnedTupleGo_items (s := { s with heap := h' }) ho fun h'' he' sb => ?_⟩
    have hT2 : h''.get? s.heap.objs.size = some { cls := .type "tuple", data := .seq #[q.2.1, q.2.2] } := (sb.2 _ (Nat.ne_of_gt hlt)).trans hT
    have new : ObjOk X.prog X.w (upd H s.heap.objs.size (.tup [x.2.1, x.2.2])) h'' s.heap.objs.size (.tup [x.2.1, x.2.2]) :=
      ⟨by show 2 ≤ sizeLine; decide, [q.2.1, q.2.2], .cons e2 (.cons e3 .nil), ⟨_, hT2, rfl, _, rfl⟩⟩
    have I1 : Inv X pins σ (upd H s.heap.objs.size (.tup [x.2.1, x.2.2])) { s with heap := h'' } :=
      I.turnedNew (t' := s.toks) (ch := [it]) (fun b ob hb e => (sb.2 b (by simpa using hb)).trans (hk b ob (by simpa using hb) e)) hf (Nat.le_refl _) new
    refine ⟨.ref s.heap.objs.size, _, I1, rfl, ⟨_, x, hxi, rfl, I.hok.fresh (Nat.le_refl _), rfl⟩, ⟨q.2.1, q.2.2, ?_⟩, fun b hb => ?_⟩
    · rw [← hsz]; exact he'
    · have e : b = it := by simpa using hb
      rw [e, upd_ne (Nat.ne_of_lt hlt)]
      exact (hf it (by simp)).1
  done := by
    intro X hP hw hK hc i pins s σ H E I hf st hg
    subst hP hw hK
    obtain ⟨hd, hi⟩ := hg
    obtain ⟨f0, f1, f2, f3, f4, f5⟩ := hf it (by simp)
    obtain ⟨hs, hgd, hx, es', ep', qs, hdt, hsz, he, pr⟩ := frzR I.hok hd
    obtain ⟨rfl, rfl⟩ := dict_ep hod hdt
    obtain ⟨ok, ov, hit⟩ := st
    rw [← hsz] at hit
    exact wpAny_pyNext_items_end_raw (I.ok.hd hc) hit ⟨o, hgd, hx, hdt⟩ (by omega) fun h' eb => ⟨rfl, I.turned (t' := s.toks) (fun b ob hb e => eb b ob hb e) f0 f1 f3 f4 f5⟩
  self := fun A i s Q E st h => let ⟨_, _, e⟩ := st; PySem.W.kcp_self e h
end
section
variable {X : Cx} {tg e : Expr} {td : TE} {apos cpos : Pos}
/-- the dict is locked; its keys of either kind -/
def iKeysR (P : Program) (w : World) (td : TE) : TI := fun σ H R => td σ H fun x H1 => ∃ d o, x = .ref d ∧ ((∃ kvs, H1 d = some (.frz o (.dK kvs)) ∧ R (Itk d o kvs) H1) ∨ ∃ xs, H1 d = some (.frz o (RawV P w d xs)) ∧ R (Itkr P w d o xs) H1)
def iItemsR (P : Program) (w : World) (td : TE) : TI := fun σ H R => td σ H fun x H1 => ∃ d o, x = .ref d ∧ ((∃ kvs, H1 d = some (.frz o (.dK kvs)) ∧ R (Iti d o kvs) H1) ∨ ∃ xs, H1 d = some (.frz o (RawV P w d xs)) ∧ R (Itir P w d o xs) H1)
theorem pi_keysR {P : Program} {w : World} (hP : X.prog = P) (hw : X.w = w) (he : PE X e td) : PI X tg e (iKeysR P w td) := by
  subst hP hw
  refine ⟨fun pins s σ H R I h => ?_⟩
  refine thn (he.run pins s σ H _ I h) fun u s1 ⟨x, H1, I1, rx, d, o, ex, q⟩ => ?_
  subst ex
  obtain rfl : u = Value.ref d := rx
  rcases q with ⟨kvs, hd, q⟩ | ⟨xs, hd, q⟩
  · obtain ⟨hs, hgd, hx, es, ep, vs, hdt, hsz, kv, hm⟩ := I1.frzK hd
    refine iter_keys hs hgd hx hdt (pi_one (tk := s1.toks) I1 _ (turn_keys _ hdt) ⟨_, Heap.get?_push_size _ rfl, rfl, ?_⟩ q)
    rw [hsz] <;> rfl
  · obtain ⟨hs, hgd, hx, es, ep, qs, hdt, hsz, ent⟩ := frzR I1.hok hd
    refine iter_keys hs hgd hx hdt (pi_one (tk := s1.toks) I1 _ (turn_keysR _ hdt) ⟨_, Heap.get?_push_size _ rfl, rfl, ?_⟩ q)
    rw [hsz] <;> rfl
theorem pi_itemsR {P : Program} {w : World} (hP : X.prog = P) (hw : X.w = w) {elts : List Expr} {kk : Nat} {tpos : Pos} (he : PE X e td) (hbase : attributeBase e "items" X.env (eval e X.env) = eval e X.env := by rfl) (hline : (apos.endLine == cpos.line) = true := by rfl) :
    PI X (.Tuple elts kk tpos) (.Call (.Attribute e "items" apos) [] [] cpos) (iItemsR P w td) := by
  subst hP hw
  refine ⟨fun pins s σ H R I h => ?_⟩
  refine wpAny_Call_method (T := "dict") (id := "dict.items") hbase rfl hline F.plainAttrs_dict F.slot_dict_items F.type_dict_items (thn (he.run pins s σ H _ I h) fun u s1 ⟨x, H1, I1, rx, d, o, ex, q⟩ => ?_)
  subst ex
  obtain rfl : u = Value.ref d := rx
  rcases q with ⟨kvs, hd, q⟩ | ⟨xs, hd, q⟩
  · obtain ⟨hs, hgd, hx, es, ep, vs, hdt, hsz, kv, hm⟩ := I1.frzK hd
    have hl : kvs.length = vs.length := Paired.length kv
    refine ⟨hm.dictOf.typeIs, hm.dictOf.mapOf.noDict, ?_⟩
    have I2 : Inv X pins σ H1 { s1 with heap := s1.heap.push { cls := .type "dict_items", data := .fields #[.ref d] } } := I1.kept (t' := s1.toks) fun b ob q => Heap.get?_push_of_some _ q
    refine method_meetsIn F.slot_dict_items F.entry_dict_items rfl (PySem.evalArgs_none ⟨rfl, hm.dictOf.typeIs, F.args_dict_items_1 _, _, meets_dict_items (mixKind X.prog X.w) d hs, ⟨vs, hm.dictOf⟩, ?_⟩)
    refine wpAny_pyIter_items (d := d) (knd := mixKind X.prog X.w) ⟨_, Heap.get?_push_size _ rfl, rfl, rfl⟩ (hm.push _) (pi_one (tk := s1.toks) I2 _ (turn_items _ hdt) ⟨.none, .none, ?_⟩ q)
    rw [hl]
    exact Heap.get?_push_size _ rfl
  · obtain ⟨hs, hgd, hx, es, ep, qs, hdt, hsz, ent⟩ := frzR I1.hok hd
    have hR : s1.heap.DictRaw d es ep := ⟨o, hgd, hx, hdt⟩
    refine ⟨hR.typeIs, fun b z => by cases z; exact ⟨o, hgd, hx.2.1⟩, ?_⟩
    have I2 : Inv X pins σ H1 { s1 with heap := s1.heap.push { cls := .type "dict_items", data := .fields #[.ref d] } } := I1.kept (t' := s1.toks) fun b ob q => Heap.get?_push_of_some _ q
    refine method_meetsIn F.slot_dict_items F.entry_dict_items rfl (PySem.evalArgs_none ⟨rfl, hR.typeIs, F.args_dict_items_1 _, _, meets_dict_items_raw d hs, ⟨es, ep, hR⟩, ?_⟩)
    refine wpAny_pyIter_items_raw (d := d) ⟨_, Heap.get?_push_size _ rfl, rfl, rfl⟩ (hR.at fun o' z => Heap.get?_push_of_some _ z) (pi_one (tk := s1.toks) I2 _ (turn_itemsR _ hdt) ⟨.none, .none, ?_⟩ q)
    rw [hsz]
    exact Heap.get?_push_size _ rfl
end
/-! ### isinstance -/
inductive TyE (P : Program) (w : World) (K : PySem.W.Frag) (H : Hp) : V → Value → Prop
  | x {v : V} {t : Value} (h : TyX K H v t) : TyE P w K H v t
  | raw {a : Addr} {xs : List EnV} (h : H a = some (RawV P w a xs)) : TyE P w K H (.ref a) (.type "dict")
theorem tyE_kit {X : Cx} {pins : List (Addr × Obj)} {σ : L2.St} {H : Hp} {s : Shared} {v : V} {u t : Value} (I : Inv X pins σ H s) (r : RelV v u) (z : TyE X.prog X.w X.K H v t) : ∃ P : Heap → Prop, PySem.W.KitX X.K u t P ∧ P s.heap ∧ u ≠ .builtin "__main__.__loader__#opaque" := by
  cases z with
  | x h => exact kit_of I r h
  | @raw a xs h =>
    cases (show u = Value.ref a from r)
    obtain ⟨⟨_, _, _, o, _, _, _, h1, h2, _⟩, _⟩ := I.hok a _ h
    exact ⟨_, PySem.W.kitx_dict, ⟨o, h1, h2.1⟩, fun z => nomatch z⟩
def rIsE (P : Program) (w : World) (K : PySem.W.Frag) : List V → Hp → VK → Prop := fun xs H Q => ∃ (v c : V) (t u : Value) (b : Bool), xs = [v, c] ∧ ClsV c u ∧ TyE P w K H v t ∧ PySem.W.kitOne K t u = some b ∧ Q (.bl b) H
theorem call_isE {X : Cx} {P : Program} {w : World} (hP : X.prog = P) (hw : X.w = w) : CallR X (.builtin "isinstance") (rIsE P w X.K) := by
  subst hP hw
  intro pins s σ H xs us Q I r h
  obtain ⟨v, c, t, u, b, rfl, k, ty, e, q⟩ := h
  obtain ⟨u1, u2, rfl, r1, r2⟩ := vals2 r
  obtain rfl := k.eq r2
  obtain ⟨P, Z, p, hx⟩ := tyE_kit I r1 ty
  exact PySem.W.kia_one Z I.kIn p e hx fun tk => ⟨.bl b, H, I.tok tk, rfl, q⟩
end Gdo

set_option Elab.async false
set_option linter.all false
set_option maxRecDepth 100000
set_option maxHeartbeats 4000000
/-! a caught exception, kept behind its suite -/
namespace Gx
open PySem PySem.Spec PyProof.Rows L2
/-- an exception of the class cls with the dict d, at a -/
def ExK (cls : Value) (d : Option Addr) (a : Addr) : HO := .ext fun h => ∃ (ob : Obj) (fv : Array Value), h.get? a = some ob ∧ Zc cls d ob ∧ ob.data = .fields fv
section
variable {X : Cx} {pins : List (Addr × Obj)} {σ : L2.St} {H : Hp} {s : Shared} {a : Addr} {ob : Obj} {fv : Array Value} {cls : Value} {d : Option Addr}
/-- what stands and is not tracked may be tracked, if it is no part of the frame and was not there at the entry -/
theorem track (J : Inv X pins σ H s) (g : s.heap.get? a = some ob) (z : Zc cls d ob) (df : ob.data = .fields fv) (free : H a = none) (n0 : X.s_0.heap.get? a = none) (nL : a ≠ X.env.locals) (np : ∀ p ∈ X.pn ++ pins, p.1 ≠ a) : Inv X pins σ (upd H a (ExK cls d a)) s := by
  have nc : ∀ x c, X.env.cells.lookup x = some c → c ≠ a := fun x c e q => by
    obtain ⟨v, o', h1, h2⟩ := J.cell x c e
    rw [q, g] at h1
    cases h1
    rw [df] at h2
    cases h2
  have B := J.base
  have far : ∀ b o, X.s_0.heap.get? b = some o → b ≠ a := fun b o e q => by rw [q, n0] at e; cases e
  have ok : ObjOk X.prog X.w (upd H a (ExK cls d a)) s.heap a (ExK cls d a) := ⟨⟨ob, fv, g, z, df⟩, ⟨ob, g⟩, fun h1 h2 ⟨o, v, q, r⟩ k => ⟨o, v, k o q, r⟩⟩
  have U : Un X.fs X.ex X.H_0 (upd H a (ExK cls d a)) X.s_0.heap s.heap :=
    { keep := B.keep, slot := B.slot, there := B.there
      free := fun b o e n x => (upd_ne (far b o e)).trans (B.free b o e n x)
      tups := fun b xs e => (upd_ne (ne_of_none (B.tups b xs e) free)).trans (B.tups b xs e)
      frzs := fun b o u e => (upd_ne (ne_of_none (B.frzs b o u e) free)).trans (B.frzs b o u e)
      tbls := fun b ps e => by
        obtain ⟨more, q⟩ := B.tbls b ps e
        exact ⟨more, (upd_ne (ne_of_none q free)).trans q⟩ }
  exact
    { ok := J.ok, os := J.os, bare := J.bare, base := U, loc := J.loc, cell := J.cell
      free := (upd_ne nL.symm).trans J.free
      freeC := fun x c e => (upd_ne (nc x c e)).trans (J.freeC x c e)
      pin := fun p hp => by
        obtain ⟨p1, p2, p3⟩ := J.pin p hp
        exact ⟨p1, (upd_ne (np p hp)).trans p2, p3⟩
      hok := J.hok.laidN (fun b u q => q) free ok
      len := J.len }
end
/-- the clause 'except x as n: y = n': every exception is caught; y is slot j, n slot i -/
def wKeep (K : PySem.W.Frag) (c : Value) (i j : Nat) (D : Ends) : WX := fun cls d σ H =>
  PySem.W.exmOne K cls c = some true ∧ ∀ a, H a = none → D.nx (((σ.set i (some (.ref a))).set j (some (.ref a))).set i none) (upd H a (ExK cls d a))
section
variable {X : Cx} {x n y : Str} {c : Value} {i j : Nat} {body : List Stmt} {np' py pn' pa pos pos' : Pos} {tb : WX → TS}
theorem ps_try_keep (hs : X.stack = X.env :: X.outer) (hf : X.env.frame = some X.env.locals) (hN : X.N.Nodup) (hi : X.N[i]? = some n) (hj : X.N[j]? = some y) (hln : X.env.kindOf n = some .local) (hly : X.env.kindOf y = some .local) (hc : Names X x c) (hex : X.ex = [])
    (hd : (n == ("__debug__" : Str)) = false := by decide) (hcd : (n == ("__classdict__" : Str)) = false := by decide)
    (hsw : swapsWith (.Name n pn') (some (.Name y py)) pa.line X.env = pure false := by rfl)
    (hb : ∀ (W : WX) (pn : List (Addr × Obj)) (xe : Value → Shared → Prop), Takes (X.tr pn xe) W → PassesOwn (model X.prog X.w) X.A X.env xe → PSs (X.tr pn xe) body (tb W)) :
    PS X (.Try body [.ExceptHandler (some (.Name x np')) (some n) [.Assign [.Name y py] (.Name n pn') pa] pos'] [] [] pos) (fun D σ H => tb (wKeep X.K c i j D) D σ H) := by
  refine ⟨fun pins s σ H D I h => wpAny_Try_except ?_⟩
  have fr1 : X.A.frames = some (X.env :: X.outer) := I.ok.frames.trans (congrArg some hs)
  refine wpAny_mono ((hb (wKeep X.K c i j D) (X.pn ++ pins) _ (fun u s' caught => ?_) PassesOwn.looking).run [] s σ H D (I.toTry _) h) (fun f s1 done => ?_) (fun _ _ z => z)
  · obtain ⟨a, B, sI, ps, σ1, H1, cls, dct, ue, I1, ground, slots, sky, fresh, osEq, bare1, mt, next⟩ := caught
    cases ue
    have I2 : Inv X pins σ1 H1 sI := I1.ofTry I.ok
    rw [hs] at sky ground
    refine Sky.land Zc.steady fr1 hf sky fun hA flA upA => ?_
    have IA : Inv X pins σ1 H1 { s' with heap := hA } := I2.landed (by rw [hs]; exact ground) flA.1 (slots.trans upA) osEq bare1
    obtain ⟨ob, fv, gA, zA, dA⟩ := flA.there
    have noFrame : a ∉ frs (X.env :: X.outer) := fun m => by
      obtain ⟨_, o', e', nf⟩ := flA.2.2.1.mem m
      rw [gA] at e'
      cases e'
      exact nf _ dA
    have notLoc : a ≠ X.env.locals := fun q => noFrame (List.mem_filterMap.mpr ⟨X.env, List.mem_cons_self, by rw [hf, q]⟩)
    have notFs : a ∉ X.fs := fun m => by
      obtain ⟨ev, m1, m2⟩ := List.mem_filterMap.mp m
      exact noFrame (List.mem_filterMap.mpr ⟨ev, List.mem_cons_of_mem _ m1, m2⟩)
    have groundA : B.get? a = none := flA.2.1
    -- nothing of before is at a
    have before : ∀ b o, sI.heap.get? b = some o → b ≠ a := fun b o e q => by
      rw [q] at e
      have := ground a o e noFrame
      rw [groundA] at this
      cases this
    have n0 : X.s_0.heap.get? a = none := by
      cases e : X.s_0.heap.get? a with
      | none => rfl
      | some o =>
        obtain ⟨o', e'⟩ := I2.base.there a o e (by rw [hex]; exact List.not_mem_nil)
        exact absurd rfl (before a o' e')
    have np : ∀ p ∈ X.pn ++ pins, p.1 ≠ a := fun p hp => before p.1 p.2 (I2.pin p hp).1
    refine wpAny_handleBy_cons (codeAny_handlers_test ?_) (by intro q; cases q)
    have SA := IA.suite gA dA fresh notLoc notFs
    have kind : PySem.W.Looks (model X.prog X.w) hA (typeOf (.ref a)) cls := fun A Q E s k q => wpAny_typeOf_ref (k _ _ gA) (by rw [zA.1]; exact q)
    have named : ∀ {Q : Value → Shared → Prop} {E : Value → Shared → Prop}, Q c { s' with heap := hA } → wpAny (model X.prog X.w) (X.A.mark (some (.ref a))) (eval (.Name x np') X.env) Q E { s' with heap := hA } := fun {Q E} q => by
      obtain ⟨m1, m2, m3⟩ := hc
      rcases m3 with m3 | ⟨m3, m4, m5⟩
      · exact ld_glob (X := X.suite a ((a, ob) :: (X.pn ++ pins))) SA m1 m3 q m2
      · exact ld_blt (X := X.suite a ((a, ob) :: (X.pn ++ pins))) SA m1 m3 m4 q m5 m2
    refine named ((PySem.W.exm_one (M := model X.prog X.w) IA.kIn kind mt).here ?_)
    refine codeAny_handlers_suite_as (HandSPX.lands_againZ flA fun hB flB upB => ?_)
    have IB : Inv X pins σ1 H1 { s' with heap := hB } := I2.landed (by rw [hs]; exact ground) flB.1 ((slots.trans upA).trans upB) osEq bare1
    obtain ⟨ob2, fv2, gB, zB, dB⟩ := flB.there
    have SB := IB.suite gB dB fresh notLoc notFs
    refine store_ok (X := X.suite a ((a, ob2) :: (X.pn ++ pins))) (v := .ref a) SB hN hi (.inl hln) rfl (fun s3 S3 => ?_) (.inr hln)
    have set2 : PS (X.suite a ((a, ob2) :: (X.pn ++ pins))) (.Assign [.Name y py] (.Name n pn') pa) (tAsg (tVar i) (gName j)) := ps_set hN hj (.inl hly) (pe_var hi (.inl hln) hd hcd) hsw (.inr hly)
    have goal1 : (tAsg (tVar i) (gName j)) { nx := fun σ' H' => σ' = (σ1.set i (some (.ref a))).set j (some (.ref a)) ∧ H' = H1, rt := fun _ _ => False, bk := fun _ _ => False, ct := fun _ _ => False } (σ1.set i (some (.ref a))) H1 := by
      have hlen : i < σ1.length := by
        rw [I2.len]
        exact (List.getElem?_eq_some_iff.mp hi).1
      exact ⟨_, List.getElem?_set_self hlen, rfl, rfl⟩
    have run1 := (pss_one set2).run [] s3 _ H1 _ S3 goal1
    refine wpAny_mono run1 (fun f s4 q => ?_) (fun _ _ z => False.elim z)
    cases f with
    | next =>
      obtain ⟨σ4, H4, S4, e1, e2⟩ := q
      rw [e1, e2] at S4
      refine gone_ok (X := X.suite a ((a, ob2) :: (X.pn ++ pins))) S4 hN hi hln fun s5 S5 => ?_
      have pin5 := S5.pin (a, ob2) (List.mem_append_left _ List.mem_cons_self)
      have J5 : Inv X pins (((σ1.set i (some (.ref a))).set j (some (.ref a))).set i none) H1 s5 := S5.unsuite I.ok
      exact ⟨_, _, track J5 pin5.1 zB dB fresh n0 notLoc np, next a fresh⟩
    | brk =>
      obtain ⟨_, _, _, z⟩ := q
      exact False.elim z
    | cont =>
      obtain ⟨_, _, _, z⟩ := q
      exact False.elim z
    | ret u =>
      obtain ⟨_, _, _, _, _, z⟩ := q
      exact False.elim z
  · cases f with
    | next =>
      obtain ⟨σ2, H2, J, q⟩ := done
      exact wpAny_execs_nil ⟨σ2, H2, J.ofTry I.ok, q⟩
    | brk =>
      obtain ⟨σ2, H2, J, q⟩ := done
      exact ⟨σ2, H2, J.ofTry I.ok, q⟩
    | cont =>
      obtain ⟨σ2, H2, J, q⟩ := done
      exact ⟨σ2, H2, J.ofTry I.ok, q⟩
    | ret u =>
      obtain ⟨v, σ2, H2, J, r, q⟩ := done
      exact ⟨v, σ2, H2, J.ofTry I.ok, r, q⟩
end
/-! isinstance and a field of it -/
section
variable {X : Cx} {pins : List (Addr × Obj)} {σ : L2.St} {H : Hp} {s : Shared} {a D : Addr} {d : Option Addr}
/-- its own dict, where it has one -/
def DicAt (H : Hp) : Option Addr → Prop
  | none => True
  | some dd => ∃ fs, H dd = some (.xd fs)
theorem inst_of (I : Inv X pins σ H s) (e : H a = some (ExK (.ref D) d a)) (k : DicAt H d) : ∃ ob od, PySem.W.InstAt s.heap a ob D od := by
  obtain ⟨⟨ob, fv, g, z, df⟩, _⟩ := I.hok a _ e
  have nc : PySem.W.notCls ob := by
    unfold PySem.W.notCls
    rw [df]
  cases d with
  | none => exact ⟨ob, none, g, z.1, nc, by rw [z.2]; exact True.intro⟩
  | some dd =>
    obtain ⟨fs, hd⟩ := k
    obtain ⟨mA, hns, _⟩ := (show ObjOk X.prog X.w H s.heap dd (.xd fs) from I.hok dd _ hd)
    obtain ⟨o, ho, _⟩ := lookIn_ns hns
    exact ⟨ob, some o, g, z.1, nc, by rw [z.2]; exact ho⟩
theorem kit_exc (T : ExcC X.K D) {ob : Obj} {od : Option Obj} : PySem.W.KitX X.K (.ref a) (.ref D) (fun h => PySem.W.InstAt h a ob D od) := by
  refine PySem.W.kitx_exc ?_ T.hg T.hk T.hs T.ha T.hn T.ht T.hm
  obtain ⟨cd, h, _⟩ := PySem.W.any_some T.hd
  rw [h]
  rfl
/-- isinstance(e, c), e a kept exception -/
def rIsX (K : PySem.W.Frag) : List V → Hp → VK → Prop := fun xs H Q => ∃ (a D : Addr) (d : Option Addr) (c : V) (u : Value) (b : Bool), xs = [.ref a, c] ∧ H a = some (ExK (.ref D) d a) ∧ DicAt H d ∧ ExcC K D ∧ ClsV c u ∧ PySem.W.kitOne K (.ref D) u = some b ∧ Q (.bl b) H
theorem call_isX : CallR X (.builtin "isinstance") (rIsX X.K) := by
  intro pins s σ H xs us Q I r h
  obtain ⟨a, D, d, c, u, b, rfl, e, k, T, cv, kb, q⟩ := h
  obtain ⟨u1, u2, rfl, r1, r2⟩ := vals2 r
  obtain rfl := cv.eq r2
  cases (show u1 = Value.ref a from r1)
  obtain ⟨ob, od, J⟩ := inst_of I e k
  exact PySem.W.kia_one (kit_exc T) I.kIn J kb (fun z => nomatch z) fun tk => ⟨.bl b, H, I.tok tk, rfl, q⟩
/-- isinstance(e, (c, ..)) -/
def rIsXT (K : PySem.W.Frag) : List V → Hp → VK → Prop := fun xs H Q => ∃ (a D : Addr) (d : Option Addr) (tp : Addr) (cs : List V) (us : List Value) (b : Bool), xs = [.ref a, .ref tp] ∧ H a = some (ExK (.ref D) d a) ∧ DicAt H d ∧ ExcC K D ∧ H tp = some (.tup cs) ∧ Paired ClsV cs us ∧ PySem.W.kitAny K (.ref D) us = some b ∧ Q (.bl b) H
theorem call_isXT : CallR X (.builtin "isinstance") (rIsXT X.K) := by
  intro pins s σ H xs us Q I r h
  obtain ⟨a, D, d, tp, cs, ws, b, rfl, e, k, T, ht, cv, kb, q⟩ := h
  obtain ⟨u1, u2, rfl, r1, r2⟩ := vals2 r
  cases (show u1 = Value.ref a from r1)
  cases (show u2 = Value.ref tp from r2)
  obtain ⟨ob, od, J⟩ := inst_of I e k
  obtain ⟨_, its, rv, o, h1, h2, n, h3⟩ := (show ObjOk X.prog X.w H s.heap tp (.tup cs) from I.hok tp _ ht)
  obtain rfl := ClsV.all cv rv
  obtain ⟨oc, od', dt, sl⟩ := o
  dsimp only at h2 h3
  rw [h2, h3] at h1
  exact PySem.W.kia_tup (kit_exc T) I.kIn J h1 kb (fun z => nomatch z) fun tk => ⟨.bl b, H, I.tok tk, rfl, q⟩
/-- e.f, e a kept exception of an own class -/
def tXk (K : PySem.W.Frag) (te : TE) (f : Str) : TE := fun σ H Q => te σ H fun x H1 => ∃ (a C dd : Addr) (fs : List (Str × V)) (v : V), x = .ref a ∧ H1 a = some (ExK (.ref C) (some dd) a) ∧ H1 dd = some (.xd fs) ∧ XfC K C ∧ PySem.W.findIn K (.ref C) f = some none ∧ fs.lookup f = some v ∧ Q v H1
theorem pe_xk {e : Expr} {te : TE} {pos : Pos} {f : Str} (he : PE X e te) (hb : attributeBase e f X.env (eval e X.env) = eval e X.env := by rfl) : PE X (.Attribute e f pos) (tXk X.K te f) := by
  refine ⟨fun pins s σ H Q I h => attr_of hb (thn (he.run pins s σ H _ I h) fun u s1 hu => ?_)⟩
  obtain ⟨x, H1, I1, rx, a, C, dd, fs, v, rfl, ea, ed, T, nf, lf, q⟩ := hu
  cases (show u = Value.ref a from rx)
  obtain ⟨⟨ob, fv, g, z, df⟩, _⟩ := I1.hok a _ ea
  obtain ⟨mA, hns, rl⟩ := (show ObjOk X.prog X.w H1 s1.heap dd (.xd fs) from I1.hok dd _ ed)
  obtain ⟨o, ho, look⟩ := lookIn_ns hns
  obtain ⟨w, hw, rw'⟩ := RelO.some_of (v := v) (o := mA f) (by rw [← lf]; exact rl f)
  have J : PySem.W.InstAt s1.heap a ob C (some o) := ⟨g, z.1, by unfold PySem.W.notCls; rw [df], by rw [z.2]; exact ho⟩
  exact HandSPX.exc_get I1.kIn J T.ga T.gg T.exC (PySem.W.findObj_own T.hdC nf rfl (by rw [look, hw])) (handed_of rw') ⟨v, H1, I1.tok _, rw', q⟩
end
/-! C.m(e, ..), m static, in a try's body -/
section
variable {X : Cx} {CX : CXT} {k : Nat} {C g p : Addr} {mc : Value} {fd : FuncData} {ps : List Str} {sp : Sp} {E : L2.St → XK} {o e : Expr} {es : List Expr} {m : Str} {pos apos : Pos} {ta : TE} {t : TA} {pl : Sem Bool}
def tSMethS (C : Addr) (sp : Sp) (E : L2.St → XK) (ta : TE) (t : TA) : TE := fun σ H Q => ta σ H fun x H1 => x = .ref C ∧ t σ H1 fun vs H2 => sp vs H2 Q (E σ)
theorem pe_smethS (he : PE X o ta) (r : ClX.CRead X.K C mc) (c : Go.SMet X.K C mc m p g) (hk : PySem.W.keepIn X.K (.ref g) = true) (F : FnOk X.prog X.w X.K X.mg X.base CX k g fd ps sp) (hr : Room k X.A) (hb : Binds X.K fd ps []) (hx : ∀ σ, PassesAt CX X σ (E σ)) (ha : PA X (e :: es) t)
    (hst : starEach (e :: es) X.env = (false, eval e X.env) :: starEach es X.env := by rfl) (hpl : (backTo pos (starEach es X.env)).any (·.1) = false := by rfl)
    (ht : eval (.Call (.Attribute o m apos) (e :: es) [] pos) X.env = (do
      let ov ← eval o X.env
      standAt apos.atName
      let (f, first) ← holding [ov] (getMethod ov m pl)
      callWith pos f first (backTo pos (starEach (e :: es) X.env)) (backToKw pos (keywordEach [] X.env))) := by rfl) :
    PE X (.Call (.Attribute o m apos) (e :: es) [] pos) (tSMethS C sp E ta t) := by
  refine ⟨fun pins s σ H Q I h => PySem.W.methodCall_KW (pl := pl) (thn (he.run pins s σ H _ I h) fun u s1 hu => ?_) ht⟩
  obtain ⟨x, H1, I1, rx, rfl, q⟩ := hu
  cases (show u = Value.ref C from rx)
  refine Go.getsm_ok I1 r c fun s2 I2 => PySem.W.callWith_K (first := []) (h₀ := X.base) I2.ok.mod.kin hk (thn (ha.run pos pins s2 σ H1 _ I2 q) fun us s3 hv => ?_) hst hpl
  obtain ⟨vs, H2, I3, rv, q2⟩ := hv
  exact ⟨I3.kIn, run_fnS (us := us) (vs := vs) F hr hb (hx σ) I3 rv q2⟩
end
end Gx

set_option Elab.async false
set_option linter.all false
set_option maxRecDepth 100000
set_option maxHeartbeats 4000000
namespace Lw
open L2 hiding Ext
open PySem PySem.Spec PyProof.Rows Gn Gr Gk Go Gt Gf Gu Gx Gdo
/-! ### check_claims of any value -/
/-- an error of the program's own, without fields -/
structure XE1 (K : PySem.W.Frag) (mg : Str → Option Value) (nm : Str) (CF : Addr) : Prop where
  xF : PySem.W.excIn K CF [.type "ValueError", .type "Exception", .type "BaseException", .type "object"] "ValueError.__new__" = true
  gF : mg nm = some (.ref CF)
  kF : PySem.W.keepIn K (.ref CF) = true
  bF : PySem.W.subIn K (.ref CF) (.type "BaseException") = some true
  tF : PySem.W.typeIn K (.ref CF) = some (.type "type")
variable {d g : Addr} {H H' : Hp}
/-- a value that is no list and no tuple, whatever draws leave alone -/
inductive Ot (d g : Addr) (H : Hp) : V → String → Prop
  | non : Ot d g H .non "NoneType"
  | bl (b : Bool) : Ot d g H (.bl b) "bool"
  | int (i : Int) : Ot d g H (.int i) "int"
  | str (x : Str) : Ot d g H (.str x) "str"
  | dct {a : Addr} {kvs : List (Key × V)} (h : H a = some (.dK kvs)) (n1 : a ≠ d) (n2 : a ≠ g) : Ot d g H (.ref a) "dict"
  | raw {a : Addr} {es : Array DictEntry} {ep : Nat} (h : H a = some (RawO a es ep)) (n1 : a ≠ d) (n2 : a ≠ g) : Ot d g H (.ref a) "dict"
theorem Ot.kp {v : V} {t : String} (h : Ot d g H v t) (k : Kp d g H H') : Ot d g H' v t := by
  cases h with
  | non => exact .non
  | bl b => exact .bl b
  | int i => exact .int i
  | str x => exact .str x
  | dct h n1 n2 => exact .dct (k _ _ n1 n2 h) n1 n2
  | raw h n1 n2 => exact .raw (k _ _ n1 n2 h) n1 n2
theorem Ot.ty {K : PySem.W.Frag} {v : V} {t : String} (h : Ot d g H v t) : TyD K H v (.type t) ∧ kitB t "list" = some false ∧ kitB t "tuple" = some false := by
  cases h with
  | non => exact ⟨.x TyT.non.x, by decide +kernel, by decide +kernel⟩
  | bl b => exact ⟨.x (TyT.bl b).x, by decide +kernel, by decide +kernel⟩
  | int i => exact ⟨.x (TyT.int i).x, by decide +kernel, by decide +kernel⟩
  | str x => exact ⟨.x (TyT.str x).x, by decide +kernel, by decide +kernel⟩
  | dct h => exact ⟨.x (TyT.dct h).x, by decide +kernel, by decide +kernel⟩
  | raw h => exact ⟨.raw h, by decide +kernel, by decide +kernel⟩
inductive Kn (d g : Addr) (H : Hp) : V → Option (List PyData) → Prop
  | seq {a : Addr} {xs : List V} {ds : List PyData} (h : ClAt H a xs) (n1 : a ≠ d) (n2 : a ≠ g) (hd : DkAll d g H xs ds) (hl : ds.length ≤ 100) : Kn d g H (.ref a) (some ds)
  | oth {v : V} {t : String} (h : Ot d g H v t) : Kn d g H v none
def claimsB (ns : List Str) : Option (List PyData) → Bool
  | some ds => decide (ds.length ≤ 20) && ds.all (claimB ns)
  | none => false
theorem ty_seqX {K : PySem.W.Frag} {H : Hp} {cl : Addr} {xs : List V} (h : ClAt H cl xs) : ∃ ty, TyX K H (.ref cl) ty ∧ PySem.W.kitAny K ty [.type "list", .type "tuple"] = some true := by
  rcases h with h | h
  · exact ⟨_, (TyT.lst h).x, kitAny_cons (b := true) (kit_ty (by decide +kernel)) (fun z => by cases z) (fun _ => rfl)⟩
  · exact ⟨_, (TyT.tup h).x, kitAny_cons (b := false) (kit_ty (by decide +kernel)) (fun _ => kitAny_cons (b := true) (kit_ty (by decide +kernel)) (fun z => by cases z) (fun _ => rfl)) (fun z => by cases z)⟩
theorem bools_all {bs : List Bool} : (bs.all id = true) ↔ ∀ b ∈ bs, b = true := by
  rw [List.all_eq_true]
  exact Iff.rfl
section
variable {P : Program} {w : World} {K : PySem.W.Frag} {mg : Str → Option Value} {base : Heap} {C CF : Addr}
def spCkClX (C CF : Addr) : Sp := fun vs H Q E => ∃ (a d g : Addr) (v : V) (s : Option (List PyData)) (rs : List FRow), vs = [.ref a, v] ∧ FoAt C H a rs ∧ Kn d g H v s ∧
  (claimsB (fNames rs) s = true → ∀ H', Ext H H' → Q .non H') ∧ (claimsB (fNames rs) s = false → ∀ H', Ext H H' → E (.ref CF) none H')
theorem ok_ckClX {f fJ : Addr} {fd fdJ : FuncData} (F : Fun K "check_claims" "check_claims" sCheckClaims f fd) (T : Names mg) (Y : XE1 K mg "InvalidClaims" CF) (hM : ∃ t, mg "MOST_CLAIMS" = some (.int 20 t))
    (GC : FnOk P w K mg base CX0 3 fJ fdJ ["forest", "value"] (spClaimX C)) (bC : Binds K fdJ ["forest", "value"] []) (kC : PySem.W.keepIn K (.ref fJ) = true) (mC : mg "is_claim" = some (.ref fJ)) :
    FnOk P w K mg base (L2.CX P w) 4 f fd ["forest", "claims"] (spCkClX C CF) := by
  refine F.okX scCkClaims (fun vs H Q E h => ?_) (fun cdv A outer s H vs Q E hr h => ?_)
  · obtain ⟨a, d, g, v, s, rs, rfl, _⟩ := h
    rfl
  · obtain ⟨a, d, g, v, s, rs, rfl, hF, hS, k, kf⟩ := h
    have hu := hu_of hr
    have nd := scCkClaims.nd
    obtain ⟨tM, hM⟩ := hM
    refine ⟨_, pss_cons (ps_if (pt_not (pt_val (pe_callB Gdo.call_isDT rfl T.isi (by decide +kernel) (pa_cons (pv 1) (pa_cons (pe_tup (pa_cons (pe_bltn (v := .ty "list") rfl T.list (by decide +kernel) rfl) (pa_cons (pe_bltn (v := .ty "tuple") rfl T.tuple (by decide +kernel) rfl) pa_nil))) pa_nil))))) (pss_one (ps_raise rfl (takes_of rfl rfl rfl rfl) (pmk_own PySem.F.excBase_ValueError Y.xF Y.gF Y.kF (raises_own Y.bF Y.tF) rfl))) pss_nil)
(pss_cons (ps_if (pt_cmpR op_gt (pe_callB call_len_seq rfl T.len PySem.boot_len (pa_cons (pv 1) pa_nil)) (pe_glob (v := .int 20) rfl hM ⟨_, rfl⟩) (nomark _)) (pss_one (ps_raise rfl (takes_of rfl rfl rfl rfl) (pmk_own PySem.F.excBase_ValueError Y.xF Y.gF Y.kF (raises_own Y.bF Y.tF) rfl))) pss_nil)
(pss_one (ps_if (pt_not (pt_val (pe_callB (cr_all rfl) rfl T.all (by decide +kernel) (pa_cons (pe_lc (own := [("pair", 2)]) (g := gName 2) (tt := tYes) rfl nd (pi_seqV (pv 1)) (blkOk_by (N := nCkClaims) (sc := defScope sCheckClaims) (by decide +kernel))
(fun _ _ _ _ _ => pg_name (i := 2) nd rfl (.inl rfl)) (fun _ _ _ _ _ => pts_nil) (fun _ _ _ _ _ => pe_call GC hr rfl mC kC bC .nil pass0 (pa_cons (pv 0) (pa_cons (pv 2) pa_nil)))) pa_nil)))) (pss_one (ps_raise rfl (takes_of rfl rfl rfl rfl) (pmk_own PySem.F.excBase_ValueError Y.xF Y.gF Y.kF (raises_own Y.bF Y.tF) rfl))) pss_nil))), ?_⟩
    refine ⟨_, rfl, by show 2 ≤ sizeLine; decide, fun tp htp => ?_⟩
    have k1 : Ext H (upd H tp (.tup [.ty "list", .ty "tuple"])) := Ext.new htp
    have ht1 : (upd H tp (.tup [.ty "list", .ty "tuple"])) tp = some (.tup [.ty "list", .ty "tuple"]) := upd_same
    generalize upd H tp (.tup [.ty "list", .ty "tuple"]) = H1 at k1 ht1 ⊢
    cases hS with
    | @oth v t h =>
      obtain ⟨h0, h1, h2⟩ := Ot.ty (K := K) (h.kp (d := d) (g := g) fun a o _ _ e => k1 _ _ e)
      refine ⟨_, tp, _, _, [.type "list", .type "tuple"], false, rfl, ht1, .cons (.ty _) (.cons (.ty _) .nil), h0, kitAny_cons (b := false) (kit_ty h1) (fun _ => kitAny_cons (b := false) (kit_ty h2) (fun _ => rfl) (fun z => by cases z)) (fun z => by cases z), false, rfl, iteT ?_⟩
      exact kf rfl _ k1
    | @seq l xs ds hl n1 n2 hd h100 =>
      have hl1 := hl.ext k1
      have dl := DkAll.len hd
      obtain ⟨ty, hty, hkit⟩ := ty_seqX (K := K) hl1
      refine ⟨_, tp, _, _, [.type "list", .type "tuple"], true, rfl, ht1, .cons (.ty _) (.cons (.ty _) .nil), .x hty, hkit, true, rfl, iteF ?_⟩
      refine ⟨_, rfl, l, _, rfl, hl1.sq, _, _, rfl, rfl, _, rfl, ?_⟩
      refine ite2 (fun e => ?_) (fun e => ?_)
      · have e : (20 : Int) < xs.length := of_decide_eq_true e
        refine kf ?_ _ k1
        show (decide (ds.length ≤ 20) && ds.all (claimB (fNames rs))) = false
        rw [decide_eq_false (by omega), Bool.false_and]
      have e20 : ¬ (20 : Int) < xs.length := of_decide_eq_false (Bool.eq_false_iff.mpr e)
      have cb : claimsB (fNames rs) (some ds) = ds.all (claimB (fNames rs)) := by
        show (decide (ds.length ≤ 20) && ds.all (claimB (fNames rs))) = ds.all (claimB (fNames rs))
        rw [decide_eq_true (by omega), Bool.true_and]
      refine ⟨l, xs, rfl, hl1, fun J hJ D hD => ?_⟩
      refine lc_it hJ (fun i H' => H' D = some (.lst (((ds.take i).map (claimB (fNames rs))).map V.bl)) ∧ Ext H1 H') ⟨upd_same, Ext.new hD⟩ (fun i H' _ ⟨_, e⟩ => ?_) ?_ ?_
      · rcases hl1 with h | h
        · exact (e _ _ h).trans h.symm
        · exact (e _ _ h).trans h.symm
      · rintro i y H2 H2' hi ⟨d2, k2⟩ ⟨rfl, hy⟩
        obtain ⟨x, hx, dx⟩ := DkAll.get hd hy
        have k12 := k1.trans k2
        refine ⟨rfl, yes_of ?_⟩
        refine ⟨_, rfl, _, rfl, a, d, g, y, x, rs, rfl, hF.ext k12, Dk.kp (fun a o _ _ e => k12 _ _ e) dx, fun H3 k3 => ?_⟩
        have hi2 : i < xs.length := hi
        refine ⟨_, k3 _ _ d2, ?_, ?_, fun b o e => ?_⟩
        · rw [List.length_map, List.length_map, List.length_take]
          exact small1000 (by omega)
        · rw [upd_same, List.take_add_one, hx, List.map_append, List.map_append]
          rfl
        · rw [upd_ne (ne_of_none e hD)]
          exact k3 _ _ (k2 _ _ e)
      rintro H2 ⟨d2, k2⟩
      rw [dl, List.take_length] at d2
      refine ⟨D, _, rfl, SqL.of d2, ?_⟩
      have ea : ((ds.map (claimB (fNames rs))).all id) = ds.all (claimB (fNames rs)) := by rw [List.all_map]; rfl
      rw [ea]
      cases hc : ds.all (claimB (fNames rs)) with
      | true => exact ⟨true, rfl, iteF (k (by rw [cb, hc]) H2 (k1.trans k2))⟩
      | false => exact ⟨false, rfl, iteT (kf (by rw [cb, hc]) H2 (k1.trans k2))⟩
end
end Lw

set_option Elab.async false
set_option linter.all false
set_option maxRecDepth 100000
set_option maxHeartbeats 4000000
namespace Lw
open L2 hiding Ext
open PySem PySem.Spec PyProof.Rows Gn Gr Gk Go Gt Gf Gu Gx Gdo
/-! ### check_spent of any value -/
def natB : PyData → Bool
  | .int i => decide (0 ≤ i)
  | _ => false
def spentB (n : Nat) : Option (List PyData) → Bool
  | some ds => decide (ds.length = n) && ds.all natB
  | none => false
section
variable {P : Program} {w : World} {K : PySem.W.Frag} {mg : Str → Option Value} {base : Heap} {C CF : Addr}
abbrev nCkSpent : List Str := ["claims", "spent", "number"]
def spCkSpX (CF : Addr) : Sp := fun vs H Q E => ∃ (c d g : Addr) (v : V) (cs : List V) (s : Option (List PyData)), vs = [.ref c, v] ∧ ClAt H c cs ∧ Kn d g H v s ∧
  (spentB cs.length s = true → ∀ H', Ext H H' → Q .non H') ∧ (spentB cs.length s = false → ∀ H', Ext H H' → E (.ref CF) none H')
theorem scCkSpent : FnScope nCkSpent ["claims", "spent"] (defScope sCheckSpent) := ⟨rfl, rfl, rfl, by decide +kernel, rfl, by decide +kernel, by decide +kernel⟩
theorem ok_ckSpX {f fJ : Addr} {fd fdJ : FuncData} (F : Fun K "check_spent" "check_spent" sCheckSpent f fd) (T : Names mg) (Y : XE1 K mg "InvalidSpent" CF)
    (GI : FnOk P w K mg base CX0 1 fJ fdJ ["value"] spInt) (bI : Binds K fdJ ["value"] []) (kI : PySem.W.keepIn K (.ref fJ) = true) (mI : mg "is_int" = some (.ref fJ)) :
    FnOk P w K mg base (L2.CX P w) 2 f fd ["claims", "spent"] (spCkSpX CF) := by
  refine F.okX scCkSpent (fun vs H Q E h => ?_) (fun cdv A outer s H vs Q E hr h => ?_)
  · obtain ⟨c, d, g, v, cs, s, rfl, _⟩ := h
    rfl
  · obtain ⟨c, d, g, v, cs, s, rfl, hc, hS, k, kf⟩ := h
    have hu := hu_of hr
    have nd := scCkSpent.nd
    refine ⟨_, pss_cons (ps_if (pt_not (pt_val (pe_callB Gdo.call_isDT rfl T.isi (by decide +kernel) (pa_cons (pv 1) (pa_cons (pe_tup (pa_cons (pe_bltn (v := .ty "list") rfl T.list (by decide +kernel) rfl) (pa_cons (pe_bltn (v := .ty "tuple") rfl T.tuple (by decide +kernel) rfl) pa_nil))) pa_nil))))) (pss_one (ps_raise rfl (takes_of rfl rfl rfl rfl) (pmk_own PySem.F.excBase_ValueError Y.xF Y.gF Y.kF (raises_own Y.bF Y.tF) rfl))) pss_nil)
(pss_cons (ps_if (pt_cmpR op_ne (pe_callB call_len_seq rfl T.len PySem.boot_len (pa_cons (pv 1) pa_nil)) (pe_callB call_len_seq rfl T.len PySem.boot_len (pa_cons (pv 0) pa_nil)) (nomark _)) (pss_one (ps_raise rfl (takes_of rfl rfl rfl rfl) (pmk_own PySem.F.excBase_ValueError Y.xF Y.gF Y.kF (raises_own Y.bF Y.tF) rfl))) pss_nil)
(pss_one (ps_if (pt_not (pt_val (pe_callB (cr_all rfl) rfl T.all (by decide +kernel) (pa_cons (pe_lc (own := [("number", 2)]) (g := gName 2) (tt := tYes) rfl nd (pi_seqV (pv 1)) (blkOk_by (N := nCkSpent) (sc := defScope sCheckSpent) (by decide +kernel))
(fun _ _ _ _ _ => pg_name (i := 2) nd rfl (.inl rfl)) (fun _ _ _ _ _ => pts_nil) (fun _ _ _ _ _ => (pe_and (pe_call GI hr rfl mI kI bI .nil pass0 (pa_cons (pv 2) pa_nil)) (pe_one (pe_cmpR op_ge (pv 2) pe_int (nomark _)))))) pa_nil)))) (pss_one (ps_raise rfl (takes_of rfl rfl rfl rfl) (pmk_own PySem.F.excBase_ValueError Y.xF Y.gF Y.kF (raises_own Y.bF Y.tF) rfl))) pss_nil))), ?_⟩
    refine ⟨_, rfl, by show 2 ≤ sizeLine; decide, fun tp htp => ?_⟩
    have k1 : Ext H (upd H tp (.tup [.ty "list", .ty "tuple"])) := Ext.new htp
    have ht1 : (upd H tp (.tup [.ty "list", .ty "tuple"])) tp = some (.tup [.ty "list", .ty "tuple"]) := upd_same
    generalize upd H tp (.tup [.ty "list", .ty "tuple"]) = H1 at k1 ht1 ⊢
    cases hS with
    | @oth v t h =>
      obtain ⟨h0, h1, h2⟩ := Ot.ty (K := K) (h.kp (d := d) (g := g) fun a o _ _ e => k1 _ _ e)
      refine ⟨_, tp, _, _, [.type "list", .type "tuple"], false, rfl, ht1, .cons (.ty _) (.cons (.ty _) .nil), h0, kitAny_cons (b := false) (kit_ty h1) (fun _ => kitAny_cons (b := false) (kit_ty h2) (fun _ => rfl) (fun z => by cases z)) (fun z => by cases z), false, rfl, iteT ?_⟩
      exact kf rfl _ k1
    | @seq l xs ds hl n1 n2 hd h100 =>
      have hl1 := hl.ext k1
      have hc1 := hc.ext k1
      have dl := DkAll.len hd
      obtain ⟨ty, hty, hkit⟩ := ty_seqX (K := K) hl1
      refine ⟨_, tp, _, _, [.type "list", .type "tuple"], true, rfl, ht1, .cons (.ty _) (.cons (.ty _) .nil), .x hty, hkit, true, rfl, iteF ?_⟩
      refine ⟨_, rfl, l, _, rfl, hl1.sq, _, rfl, c, _, rfl, hc1.sq, rfl, _, rfl, ?_⟩
      by_cases e : xs.length = cs.length
      rotate_left
      · show if (!decide (V.int (xs.length : Nat) = V.int (cs.length : Nat))) = true then _ else _
        rw [decide_eq_false (by intro z; injection z with z; omega)]
        refine iteT (kf ?_ _ k1)
        show (decide (ds.length = cs.length) && ds.all natB) = false
        rw [decide_eq_false (by omega), Bool.false_and]
      refine iteNS (by rw [e]) ?_
      have cb : spentB cs.length (some ds) = ds.all natB := by
        show (decide (ds.length = cs.length) && ds.all natB) = ds.all natB
        rw [decide_eq_true (by omega), Bool.true_and]
      refine ⟨l, xs, rfl, hl1, fun J hJ D hD => ?_⟩
      refine lc_it hJ (fun i H' => H' D = some (.lst (((ds.take i).map natB).map V.bl)) ∧ Ext H1 H') ⟨upd_same, Ext.new hD⟩ (fun i H' _ ⟨_, e⟩ => ?_) ?_ ?_
      · rcases hl1 with h | h
        · exact (e _ _ h).trans h.symm
        · exact (e _ _ h).trans h.symm
      · rintro i y H2 H2' hi ⟨d2, k2⟩ ⟨rfl, hy⟩
        obtain ⟨x, hx, dx⟩ := DkAll.get hd hy
        have dx2 : Dk d g H2' y x := Dk.kp (fun a o _ _ e => k2 _ _ (k1 _ _ e)) dx
        have hi2 : i < xs.length := hi
        have add : ∀ b, natB x = b → ∃ acc, H2' D = some (.lst acc) ∧ acc.length < sizeLine ∧ ((upd H2' D (.lst (acc ++ [.bl b]))) D = some (.lst (((ds.take (i + 1)).map natB).map V.bl)) ∧ Ext H1 (upd H2' D (.lst (acc ++ [.bl b])))) := fun b hb => by
          refine ⟨_, d2, ?_, ?_, fun b o e => ?_⟩
          · rw [List.length_map, List.length_map, List.length_take]
            exact small1000 (by omega)
          · rw [upd_same, List.take_add_one, hx, List.map_append, List.map_append, ← hb]
            rfl
          · rw [upd_ne (ne_of_none e hD)]
            exact k2 _ _ e
        refine ⟨rfl, yes_of ?_⟩
        cases dx2 with
        | int i' =>
          refine ⟨_, rfl, _, _, rfl, .inl ⟨i', rfl, rfl⟩, true, rfl, iteT ?_⟩
          exact ⟨_, rfl, _, _, rfl, rfl, add _ rfl⟩
        | non => exact ⟨_, rfl, _, _, rfl, .inr ⟨rfl, .inl .non⟩, false, rfl, iteF (add false rfl)⟩
        | bl b => exact ⟨_, rfl, _, _, rfl, .inr ⟨rfl, .inr (.inl (.bl b))⟩, false, rfl, iteF (add false rfl)⟩
        | str s => exact ⟨_, rfl, _, _, rfl, .inr ⟨rfl, .inr (.inr (.inl (.str s)))⟩, false, rfl, iteF (add false rfl)⟩
        | lst hq => exact ⟨_, rfl, _, _, rfl, .inr ⟨rfl, .inr (.inr (.inr (.inl (.lst hq))))⟩, false, rfl, iteF (add false rfl)⟩
        | tup hq => exact ⟨_, rfl, _, _, rfl, .inr ⟨rfl, .inr (.inr (.inr (.inr (.inl (.tup hq)))))⟩, false, rfl, iteF (add false rfl)⟩
        | dct hq => exact ⟨_, rfl, _, _, rfl, .inr ⟨rfl, .inr (.inr (.inr (.inr (.inr (.dct hq)))))⟩, false, rfl, iteF (add false rfl)⟩
      rintro H2 ⟨d2, k2⟩
      rw [dl, List.take_length] at d2
      refine ⟨D, _, rfl, SqL.of d2, ?_⟩
      have ea : ((ds.map natB).all id) = ds.all natB := by rw [List.all_map]; rfl
      rw [ea]
      cases hq : ds.all natB with
      | true => exact ⟨true, rfl, iteF (k (by rw [cb, hq]) H2 (k1.trans k2))⟩
      | false => exact ⟨false, rfl, iteT (kf (by rw [cb, hq]) H2 (k1.trans k2))⟩
end
end Lw

set_option Elab.async false
set_option linter.all false
set_option maxRecDepth 100000
set_option maxHeartbeats 4000000
namespace Lw
open L2 hiding Ext
open PySem PySem.Spec PyProof.Rows Gn Gr Gk Go Gt Gf Gu Gx Gdo
/-! ### _law_is_between of any value -/
section
variable {P : Program} {w : World} {K : PySem.W.Frag} {mg : Str → Option Value} {base : Heap}
abbrev nLBtw : List Str := ["_law_value", "_law_least", "_law_most"]
def spBtw : Sp := fun vs H Q _ => ∃ (d g : Addr) (v : V) (x : PyData) (lo hi : Int), vs = [v, .int lo, .int hi] ∧ Dk d g H v x ∧ Q (.bl (btwD lo hi x)) H
theorem scLBtw : FnScope nLBtw ["_law_value", "_law_least", "_law_most"] (defScope sLIsBetween) := ⟨rfl, rfl, rfl, by decide +kernel, rfl, by decide +kernel, by decide +kernel⟩
theorem ok_btw {f : Addr} {fd : FuncData} (F : Fun K "_law_is_between" "_law_is_between" sLIsBetween f fd) (T : Names mg) : FnOk P w K mg base CX0 1 f fd ["_law_value", "_law_least", "_law_most"] spBtw := by
  refine F.ok scLBtw (fun vs H Q E h => ?_) (fun cdv A outer s H vs Q E hr h => ?_)
  · obtain ⟨d, g, v, x, lo, hi, rfl, _⟩ := h
    rfl
  · obtain ⟨d, g, v, x, lo, hi, rfl, hv, k⟩ := h
    refine ⟨_, pss_one (ps_ret (pe_and (pe_callB call_isi rfl T.isi (by decide +kernel) (pa_cons (pv 0) (pa_cons (pe_bltn (v := .ty "int") rfl T.int (by decide +kernel) rfl) pa_nil))) (pe_and (pe_not (pe_callB call_isi rfl T.isi (by decide +kernel) (pa_cons (pv 0) (pa_cons (pe_bltn (v := .ty "bool") rfl T.bool (by decide +kernel) rfl) pa_nil)))) (pe_one (pe_chain op_le op_le (pv 1) (pv 0) (pv 2)))))), ?_⟩
    cases hv with
    | int i =>
      refine ⟨_, rfl, _, _, _, _, true, rfl, .ty _, (TyT.int i).x, kit_ty (by decide +kernel), true, rfl, iteT ?_⟩
      refine ⟨_, rfl, _, _, _, _, false, rfl, .ty _, (TyT.int i).x, kit_ty (by decide +kernel), false, rfl, ?_⟩
      refine ⟨true, rfl, iteT ?_⟩
      refine ⟨_, rfl, _, rfl, _, _, rfl, rfl, _, rfl, ?_⟩
      refine ite2 (fun e => ?_) (fun e => ?_)
      · have e := of_decide_eq_true e
        refine ⟨_, rfl, _, _, rfl, rfl, ?_⟩
        have z : btwD lo hi (.int i) = decide (i ≤ hi) := by
          unfold btwD
          by_cases h2 : i ≤ hi <;> simp [e, h2]
        rw [z] at k
        exact k
      · have e : ¬ lo ≤ i := fun h => e (decide_eq_true h)
        have z : btwD lo hi (.int i) = false := by
          unfold btwD
          simp [e]
        rw [z] at k
        exact k
    | bl b => exact ⟨_, rfl, _, _, _, _, true, rfl, .ty _, (TyT.bl b).x, kit_ty (by decide +kernel), true, rfl, iteT ⟨_, rfl, _, _, _, _, true, rfl, .ty _, (TyT.bl b).x, kit_ty (by decide +kernel), true, rfl, ⟨false, rfl, iteF k⟩⟩⟩
    | non => exact ⟨_, rfl, _, _, _, _, false, rfl, .ty _, TyT.non.x, kit_ty (by decide +kernel), false, rfl, iteF k⟩
    | str s => exact ⟨_, rfl, _, _, _, _, false, rfl, .ty _, (TyT.str s).x, kit_ty (by decide +kernel), false, rfl, iteF k⟩
    | lst hq => exact ⟨_, rfl, _, _, _, _, false, rfl, .ty _, (TyT.lst hq).x, kit_ty (by decide +kernel), false, rfl, iteF k⟩
    | tup hq => exact ⟨_, rfl, _, _, _, _, false, rfl, .ty _, (TyT.tup hq).x, kit_ty (by decide +kernel), false, rfl, iteF k⟩
    | dct hq => exact ⟨_, rfl, _, _, _, _, false, rfl, .ty _, (TyT.dct hq).x, kit_ty (by decide +kernel), false, rfl, iteF k⟩
end
end Lw

set_option Elab.async false
set_option linter.all false
set_option maxRecDepth 100000
set_option maxHeartbeats 4000000
namespace Lw
open L2 hiding Ext
open PySem PySem.Spec PyProof.Rows Gn Gr Gk Go Gt Gf Gu Gx Gdo
/-! ### _law_are_claims of any value -/
def strD : PyData → Bool
  | .str _ => true
  | _ => false
theorem Dk.strT {d g : Addr} {H : Hp} {v : V} {x : PyData} (h : Dk d g H v x) : ∃ T, TyT H v T ∧ kitB T "str" = some (strD x) := by
  cases h with
  | non => exact ⟨_, .non, by decide +kernel⟩
  | bl b => exact ⟨_, .bl b, (show kitB "bool" "str" = some false by decide +kernel)⟩
  | int i => exact ⟨_, .int i, (show kitB "int" "str" = some false by decide +kernel)⟩
  | str x => exact ⟨_, .str x, (show kitB "str" "str" = some true by decide +kernel)⟩
  | lst e => exact ⟨_, .lst e, (show kitB "list" "str" = some false by decide +kernel)⟩
  | tup e => exact ⟨_, .tup e, (show kitB "tuple" "str" = some false by decide +kernel)⟩
  | dct e => exact ⟨_, .dct e, (show kitB "dict" "str" = some false by decide +kernel)⟩
section
variable {P : Program} {w : World} {K : PySem.W.Frag} {mg : Str → Option Value} {base : Heap}
abbrev nLAreC : List Str := ["_law_names", "_law_value", "_law_pair"]
def spLCl : Sp := fun vs H Q _ => ∃ (ln d g : Addr) (v : V) (s : Option (List PyData)) (ns : List Str), vs = [.ref ln, v] ∧ H ln = some (.lst (ns.map V.str)) ∧ Kn d g H v s ∧ ∀ H', Ext H H' → Q (.bl (claimsB ns s)) H'
theorem scLAreC : FnScope nLAreC ["_law_names", "_law_value"] (defScope sLAreClaims) := ⟨rfl, rfl, rfl, by decide +kernel, rfl, by decide +kernel, by decide +kernel⟩
theorem ok_lclm {f fB : Addr} {fd fdB : FuncData} (F : Fun K "_law_are_claims" "_law_are_claims" sLAreClaims f fd) (T : Names mg)
    (GB : FnOk P w K mg base CX0 1 fB fdB ["_law_value", "_law_least", "_law_most"] spBtw) (bB : Binds K fdB ["_law_value", "_law_least", "_law_most"] []) (kB : PySem.W.keepIn K (.ref fB) = true) (mB : mg "_law_is_between" = some (.ref fB)) :
    FnOk P w K mg base CX0 2 f fd ["_law_names", "_law_value"] spLCl := by
  refine F.ok scLAreC (fun vs H Q E h => ?_) (fun cdv A outer s H vs Q E hr h => ?_)
  · obtain ⟨ln, d, g, v, s, ns, rfl, _⟩ := h
    rfl
  · obtain ⟨ln, d, g, v, s, ns, rfl, hln, hS, k⟩ := h
    have hu := hu_of hr
    have nd := scLAreC.nd
    have hr1 := hr
    refine ⟨_, pss_cons (ps_if (PW.pt (pw_or (pt_not (pt_val (pe_callB Gdo.call_isDT rfl T.isi (by decide +kernel) (pa_cons (pv 1) (pa_cons (pe_tup (pa_cons (pe_bltn (v := .ty "list") rfl T.list (by decide +kernel) rfl) (pa_cons (pe_bltn (v := .ty "tuple") rfl T.tuple (by decide +kernel) rfl) pa_nil))) pa_nil))))) (pw_or1 (pt_cmpR op_gt (pe_callB call_len_seq rfl T.len PySem.boot_len (pa_cons (pv 1) pa_nil)) pe_int (nomark _))))) (pss_one (ps_ret pe_bl)) pss_nil)
(pss_cons (ps_for PassesOwn.never rfl (pi_seqV (pv 1)) (pg_name (i := 2) nd rfl (.inl rfl))
(pss_cons (ps_if (PW.pt (pw_or (pt_not (pt_val (pe_callB call_isi rfl T.isi (by decide +kernel) (pa_cons (pv 2) (pa_cons (pe_bltn (v := .ty "tuple") rfl T.tuple (by decide +kernel) rfl) pa_nil))))) (pw_or (pt_cmpR op_ne (pe_callB call_len_seq rfl T.len PySem.boot_len (pa_cons (pv 2) pa_nil)) pe_int (nomark _)) (pw_or (pt_not (pt_val (pe_callB call_isi rfl T.isi (by decide +kernel) (pa_cons (pe_ix ix_tup (pv 2) pe_int (fun _ _ => rfl)) (pa_cons (pe_bltn (v := .ty "str") rfl T.str (by decide +kernel) rfl) pa_nil))))) (pw_or1 (pt_cmpR (Gj.op_notInO hr.units) (pe_ix ix_tup (pv 2) pe_int (fun _ _ => rfl)) (pv 0) rfl)))))) (pss_one (ps_ret pe_bl)) pss_nil)
(pss_one (ps_if (pt_not (pt_val (pe_call GB hr1 rfl mB kB bB .nil pass0 (pa_cons (pe_ix ix_tup (pv 2) pe_int (fun _ _ => rfl)) (pa_cons pe_int (pa_cons (pe_op op_pow pe_int pe_int) pa_nil)))))) (pss_one (ps_ret pe_bl)) pss_nil))))
(pss_one (ps_ret pe_bl))), ?_⟩
    refine ⟨_, rfl, by show 2 ≤ sizeLine; decide, fun tp htp => ?_⟩
    have k1 : Ext H (upd H tp (.tup [.ty "list", .ty "tuple"])) := Ext.new htp
    have ht1 : (upd H tp (.tup [.ty "list", .ty "tuple"])) tp = some (.tup [.ty "list", .ty "tuple"]) := upd_same
    generalize upd H tp (.tup [.ty "list", .ty "tuple"]) = H1 at k1 ht1 ⊢
    cases hS with
    | @oth v t h =>
      obtain ⟨h0, h1, h2⟩ := Ot.ty (K := K) (h.kp (d := d) (g := g) fun a o _ _ e => k1 _ _ e)
      refine ⟨_, tp, _, _, [.type "list", .type "tuple"], false, rfl, ht1, .cons (.ty _) (.cons (.ty _) .nil), h0, kitAny_cons (b := false) (kit_ty h1) (fun _ => kitAny_cons (b := false) (kit_ty h2) (fun _ => rfl) (fun z => by cases z)) (fun z => by cases z), false, rfl, iteT ?_⟩
      exact k _ k1
    | @seq l xs ds hl n1 n2 hd h100 =>
      have hl1 := hl.ext k1
      have dl := DkAll.len hd
      obtain ⟨ty, hty, hkit⟩ := ty_seqX (K := K) hl1
      refine ⟨_, tp, _, _, [.type "list", .type "tuple"], true, rfl, ht1, .cons (.ty _) (.cons (.ty _) .nil), .x hty, hkit, true, rfl, iteF ?_⟩
      refine ⟨_, rfl, l, _, rfl, hl1.sq, _, _, rfl, rfl, _, rfl, ?_⟩
      have cB : claimsB ns (some ds) = (decide (ds.length ≤ 20) && ds.all (claimB ns)) := rfl
      refine ite2 (fun e => ?_) (fun e => ?_)
      · have e : (20 : Int) < xs.length := of_decide_eq_true e
        have z := k H1 k1
        rw [cB, decide_eq_false (by omega), Bool.false_and] at z
        exact z
      have e20 : ¬ (20 : Int) < xs.length := of_decide_eq_false (Bool.eq_false_iff.mpr e)
      rw [cB, decide_eq_true (by omega), Bool.true_and] at k
      refine ⟨l, xs, rfl, hl1, fun J wJ => ?_⟩
      refine for_it wJ (fun i σ H' => ∃ v2 : Option V, σ = [some (.ref ln), some (.ref l), v2] ∧ ds.all (claimB ns) = (ds.drop i).all (claimB ns) ∧ Ext H1 H') ⟨none, rfl, by rw [List.drop_zero], Ext.refl⟩ (fun i σ H' _ ⟨_, _, _, e⟩ => ?_) ?_ ?_
      · rcases hl1 with h | h
        · exact (e _ _ h).trans h.symm
        · exact (e _ _ h).trans h.symm
      · rintro i y σ H2 H2' hi ⟨v2, rfl, ha, k2⟩ ⟨rfl, hy⟩
        obtain ⟨x, hx, dx⟩ := DkAll.get hd hy
        have k12 := k1.trans k2
        have hix := (List.getElem?_eq_some_iff.mp hx).1
        have hdr : ds.drop i = x :: ds.drop (i + 1) := by
          rw [List.drop_eq_getElem_cons hix]
          rw [List.getElem?_eq_getElem hix] at hx
          cases hx
          rfl
        rw [hdr, List.all_cons] at ha
        have dx2 : Dk d g H2' y x := Dk.kp (fun a o _ _ e => k12 _ _ e) dx
        have no : ∀ {H3 : Hp}, Ext H2' H3 → claimB ns x = false → Q (.bl false) H3 := fun {H3} k3 h => by
          have z := k H3 (k12.trans k3)
          rw [ha, h, Bool.false_and] at z
          exact z
        rcases dx2.nt9 with ⟨p, ys, es, rfl, rfl, hp, hd'⟩ | ⟨T', ht, hk, hn⟩
        · have hl' := DkAll.len hd'
          refine ⟨_, rfl, _, _, _, _, true, rfl, .ty _, (TyT.tup hp).x, kit_ty (by decide +kernel), true, rfl, iteF ?_⟩
          by_cases h2 : ys.length = 2
          · refine ⟨_, rfl, p, _, rfl, .inr (SqT.of hp), rfl, _, rfl, iteNS (by rw [h2]; rfl) ?_⟩
            match ys, h2, es, hl', hd', hp with
            | [v1, v2'], _, [x1, x2], _, .cons d1 (.cons d2 .nil), hp =>
              have ec : claimB ns (.tuple [x1, x2]) = (inD ns x1 && btwD 0 1000000000 x2) := by simp [claimB]
              rw [ec] at no ha
              obtain ⟨T1, t1, t2⟩ := d1.strT
              refine ⟨_, rfl, p, _, _, _, rfl, rfl, SqT.of hp, (show atI _ ((0 : Nat) : Int) = _ from atI_nat rfl), _, _, _, _, strD x1, rfl, .ty _, t1.x, kit_ty t2, _, rfl, ?_⟩
              cases hs : strD x1 with
              | false =>
                refine iteT ?_
                have : inD ns x1 = false := by
                  cases x1 with
                  | str => cases hs
                  | _ => rfl
                exact no Ext.refl (by rw [this, Bool.false_and])
              | true =>
                refine iteF ?_
                refine ⟨_, rfl, p, _, _, _, rfl, rfl, SqT.of hp, (show atI _ ((0 : Nat) : Int) = _ from atI_nat rfl), _, rfl, ln, ns, rfl, .inl (k12 _ _ hln), ?_⟩
                rcases d1.inE ns with ⟨hf, hin⟩ | ⟨a', rfl, hc, hin⟩
                · refine .inl ⟨hf, _, rfl, ?_⟩
                  show if (!inV v1 (ns.map V.str)) = true then _ else _
                  rw [hin]
                  cases hb : inD ns x1 with
                  | false => exact iteT (no Ext.refl (by rw [hb, Bool.false_and]))
                  | true =>
                    rw [hb, Bool.true_and] at no ha
                    refine iteF ?_
                    refine ⟨_, rfl, p, _, _, _, rfl, rfl, SqT.of hp, (show atI _ ((1 : Nat) : Int) = _ from atI_nat rfl), ?_⟩
                    have p9 : ((10 : Int) ^ Int.toNat 9) = 1000000000 := by decide +kernel
                    refine ⟨_, _, rfl, rfl, ⟨by decide, by decide, by decide⟩, ?_⟩
                    refine ⟨d, g, v2', x2, 0, 10 ^ Int.toNat 9, rfl, d2, ?_⟩
                    rw [p9]
                    refine ⟨_, rfl, ?_⟩
                    cases hb2 : btwD 0 1000000000 x2 with
                    | false => exact iteT (no Ext.refl hb2)
                    | true =>
                      rw [hb2, Bool.true_and] at ha
                      exact iteF ⟨_, rfl, ha, k2⟩
                · exact .inr ⟨a', rfl, hc, _, rfl, iteT (no Ext.refl (by rw [hin, Bool.false_and]))⟩
          · refine ⟨_, rfl, p, _, rfl, .inr (SqT.of hp), rfl, _, rfl, ?_⟩
            show if (!decide (V.int (ys.length : Nat) = V.int 2)) = true then _ else _
            rw [decide_eq_false (by intro e; injection e with e; omega)]
            exact iteT (no Ext.refl (claimB_len (by omega)))
        · refine ⟨_, rfl, _, _, _, _, false, rfl, .ty _, ht.x, kit_ty hk, false, rfl, iteT ?_⟩
          exact no Ext.refl (hn ns)
      · rintro σ H2 ⟨v2, rfl, ha, k2⟩
        have z := k H2 (k1.trans k2)
        rw [ha, dl, List.drop_length] at z
        exact z
end
end Lw

set_option Elab.async false
set_option linter.all false
set_option maxRecDepth 100000
set_option maxHeartbeats 4000000
namespace Lw
open L2 hiding Ext
open PySem PySem.Spec PyProof.Rows Gn Gr Gk Go Gt Gf Gu Gx Gdo
/-! ### _law_are_spent of any value -/
section
variable {P : Program} {w : World} {K : PySem.W.Frag} {mg : Str → Option Value} {base : Heap}
abbrev nLAreS : List Str := ["_law_claims_here", "_law_value", "_law_one"]
def spLSp : Sp := fun vs H Q _ => ∃ (c d g : Addr) (v : V) (cs : List V) (s : Option (List PyData)), vs = [.ref c, v] ∧ ClAt H c cs ∧ Kn d g H v s ∧ (∀ ds, s = some ds → ∀ i, .int i ∈ ds → i ≤ 10 ^ 40) ∧ ∀ H', Ext H H' → Q (.bl (spentB cs.length s)) H'
theorem scLAreS : FnScope nLAreS ["_law_claims_here", "_law_value"] (defScope sLAreSpent) := ⟨rfl, rfl, rfl, by decide +kernel, rfl, by decide +kernel, by decide +kernel⟩
theorem ok_lspn {f fB : Addr} {fd fdB : FuncData} (F : Fun K "_law_are_spent" "_law_are_spent" sLAreSpent f fd) (T : Names mg)
    (GB : FnOk P w K mg base CX0 1 fB fdB ["_law_value", "_law_least", "_law_most"] spBtw) (bB : Binds K fdB ["_law_value", "_law_least", "_law_most"] []) (kB : PySem.W.keepIn K (.ref fB) = true) (mB : mg "_law_is_between" = some (.ref fB)) :
    FnOk P w K mg base CX0 2 f fd ["_law_claims_here", "_law_value"] spLSp := by
  refine F.ok scLAreS (fun vs H Q E h => ?_) (fun cdv A outer s H vs Q E hr h => ?_)
  · obtain ⟨c, d, g, v, cs, s, rfl, _⟩ := h
    rfl
  · obtain ⟨c, d, g, v, cs, s, rfl, hc, hS, hm, k⟩ := h
    have hu := hu_of hr
    have nd := scLAreS.nd
    have hr1 := hr
    refine ⟨_, pss_cons (ps_if (PW.pt (pw_or (pt_not (pt_val (pe_callB Gdo.call_isDT rfl T.isi (by decide +kernel) (pa_cons (pv 1) (pa_cons (pe_tup (pa_cons (pe_bltn (v := .ty "list") rfl T.list (by decide +kernel) rfl) (pa_cons (pe_bltn (v := .ty "tuple") rfl T.tuple (by decide +kernel) rfl) pa_nil))) pa_nil))))) (pw_or1 (pt_cmpR op_ne (pe_callB call_len_seq rfl T.len PySem.boot_len (pa_cons (pv 1) pa_nil)) (pe_callB call_len_seq rfl T.len PySem.boot_len (pa_cons (pv 0) pa_nil)) (nomark _))))) (pss_one (ps_ret pe_bl)) pss_nil)
(pss_one (ps_ret (pe_cmpR (Gj.op_eqE hr.units) (pe_lc (own := [("_law_one", 2)]) (g := gName 2) rfl nd (pi_seqV (pv 1)) (blkOk_by (N := nLAreS) (sc := defScope sLAreSpent) (by decide +kernel))
(fun _ _ _ _ _ => pg_name (i := 2) nd rfl (.inl rfl)) (fun _ _ _ _ _ => pts_one (pt_not (pt_val (pe_call GB hr1 rfl mB kB bB .nil pass0 (pa_cons (pv 2) (pa_cons pe_int (pa_cons (pe_op op_pow pe_int pe_int) pa_nil))))))) (fun _ _ _ _ _ => pv 2)) (pe_lst pa_nil) (nomark _)))), ?_⟩
    refine ⟨_, rfl, by show 2 ≤ sizeLine; decide, fun tp htp => ?_⟩
    have k1 : Ext H (upd H tp (.tup [.ty "list", .ty "tuple"])) := Ext.new htp
    have ht1 : (upd H tp (.tup [.ty "list", .ty "tuple"])) tp = some (.tup [.ty "list", .ty "tuple"]) := upd_same
    generalize upd H tp (.tup [.ty "list", .ty "tuple"]) = H1 at k1 ht1 ⊢
    cases hS with
    | @oth v t h =>
      obtain ⟨h0, h1, h2⟩ := Ot.ty (K := K) (h.kp (d := d) (g := g) fun a o _ _ e => k1 _ _ e)
      refine ⟨_, tp, _, _, [.type "list", .type "tuple"], false, rfl, ht1, .cons (.ty _) (.cons (.ty _) .nil), h0, kitAny_cons (b := false) (kit_ty h1) (fun _ => kitAny_cons (b := false) (kit_ty h2) (fun _ => rfl) (fun z => by cases z)) (fun z => by cases z), false, rfl, iteT ?_⟩
      exact k _ k1
    | @seq l xs ds hl n1 n2 hd h100 =>
      have hl1 := hl.ext k1
      have hc1 := hc.ext k1
      have dl := DkAll.len hd
      obtain ⟨ty, hty, hkit⟩ := ty_seqX (K := K) hl1
      refine ⟨_, tp, _, _, [.type "list", .type "tuple"], true, rfl, ht1, .cons (.ty _) (.cons (.ty _) .nil), .x hty, hkit, true, rfl, iteF ?_⟩
      refine ⟨_, rfl, l, _, rfl, hl1.sq, _, rfl, c, _, rfl, hc1.sq, rfl, _, rfl, ?_⟩
      have cB : spentB cs.length (some ds) = (decide (ds.length = cs.length) && ds.all natB) := rfl
      by_cases e : xs.length = cs.length
      rotate_left
      · show if (!decide (V.int (xs.length : Nat) = V.int (cs.length : Nat))) = true then _ else _
        rw [decide_eq_false (by intro z; injection z with z; omega)]
        refine iteT ?_
        have z := k H1 k1
        rw [cB, decide_eq_false (by omega), Bool.false_and] at z
        exact z
      refine iteNS (by rw [e]) ?_
      rw [cB, decide_eq_true (by omega), Bool.true_and] at k
      refine ⟨l, xs, rfl, hl1, fun J wJ D hD => ?_⟩
      have nlD : l ≠ D := by rcases hl1 with e | e <;> exact ne_of_none e hD
      refine lc_it wJ (fun i H' => ∃ zs : List V, H' D = some (.lst zs) ∧ zs.length ≤ i ∧ zs.isEmpty = (ds.take i).all natB ∧ Ext H1 H') ⟨[], upd_same, Nat.le_refl _, rfl, Ext.new hD⟩ (fun i H' _ ⟨_, _, _, _, e⟩ => ?_) ?_ ?_
      · rcases hl1 with h | h
        · exact (e _ _ h).trans h.symm
        · exact (e _ _ h).trans h.symm
      · rintro i y H2 H2' hi ⟨zs, z1, z2, z3, k2⟩ ⟨rfl, hy⟩
        obtain ⟨x, hx, dx⟩ := DkAll.get hd hy
        have dx2 : Dk d g H2' y x := Dk.kp (fun a o _ _ e => k2 _ _ (k1 _ _ e)) dx
        have hi2 : i < xs.length := hi
        have eb : btwD 0 (10 ^ 40) x = natB x := by
          cases x with
          | int i' =>
            have := hm ds rfl i' (List.mem_of_getElem? hx)
            unfold btwD natB
            exact decide_eq_decide.mpr ⟨fun h => h.1, fun h => ⟨h, this⟩⟩
          | _ => rfl
        have ta : (ds.take (i + 1)).all natB = ((ds.take i).all natB && natB x) := by
          rw [List.take_add_one, hx, List.all_append]
          simp
        have p40 : ((10 : Int) ^ Int.toNat 40) = 10 ^ 40 := rfl
        refine ⟨rfl, _, rfl, _, _, rfl, rfl, ⟨by decide, by decide, by decide⟩, ?_⟩
        refine ⟨d, g, y, x, 0, 10 ^ Int.toNat 40, rfl, dx2, ?_⟩
        rw [p40, eb]
        refine ⟨_, rfl, ?_⟩
        cases hb : natB x with
        | true =>
          refine iteF ⟨zs, z1, by omega, ?_, k2⟩
          rw [ta, hb, z3, Bool.and_true]
        | false =>
          refine iteT ⟨_, rfl, zs, z1, small1000 (by omega), zs ++ [y], upd_same, by rw [List.length_append]; show _ + 1 ≤ _; omega, ?_, fun b o e => ?_⟩
          · rw [ta, hb, Bool.and_false]
            cases zs <;> rfl
          · rw [upd_ne (ne_of_none e hD)]
            exact k2 _ _ e
      rintro H2 ⟨zs, z1, z2, z3, k2⟩
      rw [dl, List.take_length] at z3
      refine ⟨Nat.zero_le _, fun e2 he2 => ⟨D, e2, zs, rfl, rfl, SqL.of (Ext.new he2 _ _ z1), SqL.of upd_same, ?_⟩⟩
      show Q (.bl zs.isEmpty) _
      rw [z3]
      exact k _ (k1.trans (k2.trans (Ext.new he2)))
end
end Lw

set_option Elab.async false
set_option linter.all false
set_option maxRecDepth 100000
set_option maxHeartbeats 4000000
namespace Lw
open L2 hiding Ext
open PySem PySem.Spec PyProof.Rows Gn Gr Gk Go Gt Gf Gu Gx Gdo
/-! ### _law_other_spent -/
theorem dkall_of {d g : Addr} {H : Hp} {P : PyData → Prop} : ∀ {xs : List V}, (∀ y ∈ xs, ∃ x, Dk d g H y x ∧ P x) → ∃ ds, DkAll d g H xs ds ∧ ∀ x ∈ ds, P x
  | [], _ => ⟨[], .nil, fun _ h => by cases h⟩
  | y :: r, h => by
    obtain ⟨x, h1, h2⟩ := h y (List.mem_cons_self ..)
    obtain ⟨ds, h3, h4⟩ := dkall_of (xs := r) fun z hz => h z (List.mem_cons_of_mem _ hz)
    refine ⟨x :: ds, .cons h1 h3, fun z hz => ?_⟩
    rcases List.mem_cons.mp hz with rfl | hz
    · exact h2
    · exact h4 z hz
def Ve (d g : Addr) (H : Hp) (y : V) : Prop := ∃ x, Dk d g H y x ∧ ∀ i, x = .int i → i ≤ 10 ^ 40
def Vs (d g : Addr) (H : Hp) (v : V) : Prop := (∃ t, Ot d g H v t) ∨ ∃ a xs, v = .ref a ∧ ClAt H a xs ∧ a ≠ d ∧ a ≠ g ∧ (∀ y ∈ xs, Ve d g H y) ∧ xs.length ≤ 100
theorem Vs.kp {d g : Addr} {H H' : Hp} {v : V} (h : Vs d g H v) (k : Kp d g H H') : Vs d g H' v := by
  rcases h with ⟨t, h⟩ | ⟨a, xs, rfl, hc, n1, n2, hx, hl⟩
  · exact .inl ⟨t, h.kp fun a o n1 n2 e => k _ _ n1 n2 e⟩
  · refine .inr ⟨a, xs, rfl, ?_, n1, n2, fun y hy => (hx y hy).elim fun x h => ⟨x, h.1.kp k, h.2⟩, hl⟩
    rcases hc with e | e
    · exact .inl (k _ _ n1 n2 e)
    · exact .inr (k _ _ n1 n2 e)
theorem Vs.kn {d g : Addr} {H : Hp} {v : V} (h : Vs d g H v) : ∃ s, Kn d g H v s ∧ ∀ ds, s = some ds → ∀ i, .int i ∈ ds → i ≤ 10 ^ 40 := by
  rcases h with ⟨t, h⟩ | ⟨a, xs, rfl, hc, n1, n2, hx, hl⟩
  · exact ⟨none, .oth h, fun ds e => by cases e⟩
  · obtain ⟨ds, h1, h2⟩ := dkall_of hx
    exact ⟨some ds, .seq hc n1 n2 h1 (by rw [← h1.len]; exact hl), fun ds' e i hi => by cases e; exact h2 _ hi i rfl⟩
def VS (d g : Addr) (H : Hp) (acc : List V) : Prop := ∀ y ∈ acc, Vs d g H y
theorem VS.add {d g : Addr} {H H' : Hp} {acc : List V} {v : V} (h : VS d g H acc) (k : Ext H H') (hv : Vs d g H' v) : VS d g H' (v :: acc) := fun y hy => by
  rcases List.mem_cons.mp hy with rfl | hy
  · exact hv
  · exact (h y hy).kp (Kp.of k)
theorem vs_new {ns : List Int} {d g c : Addr} {b : Nat} {H : Hp} {p : Addr} {ys : List V} (D : Dw ns d g c b H) (hp : H p = none) (hv : ∀ y ∈ ys, Ve d g H y) (hl : ys.length ≤ 100) : Vs d g (upd H p (.lst ys)) (.ref p) :=
  .inr ⟨p, ys, rfl, .inl upd_same, D.nd hp, D.ng hp, fun y hy => (hv y hy).elim fun x h => ⟨x, Dk.kp (Kp.new hp) h.1, h.2⟩, hl⟩
theorem vs_newT {ns : List Int} {d g c : Addr} {b : Nat} {H : Hp} {p : Addr} {ys : List V} (D : Dw ns d g c b H) (hp : H p = none) (hv : ∀ y ∈ ys, Ve d g H y) (hl : ys.length ≤ 100) : Vs d g (upd H p (.tup ys)) (.ref p) :=
  .inr ⟨p, ys, rfl, .inr upd_same, D.nd hp, D.ng hp, fun y hy => (hv y hy).elim fun x h => ⟨x, Dk.kp (Kp.new hp) h.1, h.2⟩, hl⟩
theorem ve_flat {d g : Addr} {H : Hp} (ys : List V) (n : Nat) (h : ∀ y ∈ ys, Ve d g H y) : ∀ y ∈ (List.replicate n ys).flatten, Ve d g H y := fun y hy => by
  obtain ⟨l, h1, h2⟩ := List.mem_flatten.mp hy
  rw [(List.mem_replicate.mp h1).2] at h2
  exact h y h2
theorem flat_len (y : V) (n : Nat) : (List.replicate n [y]).flatten.length = n := by simp
end Lw

set_option Elab.async false
set_option linter.all false
set_option maxRecDepth 100000
set_option maxHeartbeats 4000000
namespace Lw
open L2 hiding Ext
open PySem PySem.Spec PyProof.Rows Gn Gr Gk Go Gt Gf Gu Gx Gdo
section
variable {P : Program} {w : World} {K : PySem.W.Frag} {mg : Str → Option Value} {base : Heap}
abbrev nLOS : List Str := ["_law_state", "_law_value", "_law_odd"]
def spLOS (ns : List Int) : Sp := fun vs H Q _ => ∃ (d g c l : Addr) (b : Nat) (xs : List V), vs = [.ref d, .ref l] ∧ Dw ns d g c b H ∧ b ≤ 900000000 ∧ H l = some (.lst xs) ∧ xs.length ≤ 50 ∧ (∀ y ∈ xs, ∃ i : Int, y = .int i ∧ i ≤ 10 ^ 40) ∧
  ∀ v H', Vs d g H' v → Dw ns d g c (b + 10) H' → Kp d g H H' → Q v H'
theorem scLOS : FnScope nLOS ["_law_state", "_law_value"] (defScope sLOtherSpent) := ⟨rfl, rfl, rfl, by decide +kernel, rfl, by decide +kernel, by decide +kernel⟩
theorem ok_losp {f fT fP : Addr} {fd fdT fdP : FuncData} (ns : List Int) (F : Fun K "_law_other_spent" "_law_other_spent" sLOtherSpent f fd) (T : Names mg) (R : Draw P w K mg base ns fT fP fdT fdP) : FnOk P w K mg base CX0 4 f fd ["_law_state", "_law_value"] (spLOS ns) := by
  refine F.ok scLOS (fun vs H Q E h => ?_) (fun cdv A outer s H vs Q E hr h => ?_)
  · obtain ⟨d, g, c, l, b, xs, rfl, _⟩ := h
    rfl
  · obtain ⟨d, g, c, l, b, xs, rfl, D, hb, hl, h50, hx, k⟩ := h
    have hu := hu_of hr
    have nd := scLOS.nd
    have hr3 : Room 3 (A.deeper (envOfC "_law_other_spent" (defScope sLOtherSpent) s.heap.objs.size f cdv)) := hr
    refine ⟨_, pss_cons (ps_set (i := 2) nd rfl (.inl rfl) (pe_lst (pa_cons pe_non (pa_cons pe_dnewK (pa_cons pe_int (pa_cons pe_str (pa_cons (pe_op op_cat (pv 1) (pe_lst (pa_cons pe_int pa_nil))) (pa_cons (pe_slice sl_list (pv 1) po_none (po_some (pe_un un_neg pe_int))) (pa_cons (pe_callTy call_tuple_of rfl T.tuple (by decide +kernel) (pa_cons (pv 1) pa_nil)) (pa_cons (pe_op op_rep (pe_lst (pa_cons (pe_un un_neg pe_int) pa_nil)) (pe_callB call_len_seq rfl T.len PySem.boot_len (pa_cons (pv 1) pa_nil))) (pa_cons (pe_op op_rep (pe_lst (pa_cons pe_bl pa_nil)) (pe_callB call_len_seq rfl T.len PySem.boot_len (pa_cons (pv 1) pa_nil))) pa_nil)))))))))))
(pss_one (ps_ret (pe_call R.GP hr3 rfl R.mP R.kP R.bP .nil pass0 (pa_cons (pv 0) (pa_cons (pe_op op_cat (pv 2) (pe_lst (pa_cons (pe_op op_rep (pe_lst (pa_cons (pe_op op_pow pe_int pe_int) pa_nil)) (pe_callB call_len_seq rfl T.len PySem.boot_len (pa_cons (pv 1) pa_nil))) (pa_cons (pe_op op_rep (pe_lst (pa_cons pe_str pa_nil)) (pe_callB call_len_seq rfl T.len PySem.boot_len (pa_cons (pv 1) pa_nil))) (pa_cons (pe_op op_rep (pe_lst (pa_cons pe_non pa_nil)) (pe_callB call_len_seq rfl T.len PySem.boot_len (pa_cons (pv 1) pa_nil))) (pa_cons (pe_op op_cat (pe_lst (pa_cons (pe_lst pa_nil) pa_nil)) (pe_slice sl_list (pv 1) (po_some pe_int) po_none)) pa_nil)))))) pa_nil))))), ?_⟩
    have VX : ∀ H' : Hp, ∀ y ∈ xs, Ve d g H' y := fun H' y hy => by
      obtain ⟨i, rfl, hi⟩ := hx y hy
      exact ⟨_, .int i, fun j e => by cases e; exact hi⟩
    have VI : ∀ (H' : Hp) (i : Int), i ≤ 10 ^ 40 → Ve d g H' (.int i) := fun H' i hi => ⟨_, .int i, fun j e => by cases e; exact hi⟩
    have VC : ∀ (H' : Hp) (lo hi : Option Int), ∀ y ∈ cutV xs lo hi, Ve d g H' y := fun H' lo hi y hy => VX H' y (by
      unfold cutV at hy
      exact List.mem_of_mem_drop (List.mem_of_mem_take hy))
    have lc : ∀ lo hi, (cutV xs lo hi).length ≤ 50 := fun lo hi => Nat.le_trans (cutV_length ..) h50
    have sz : ∀ {n : Nat}, n ≤ 200 → n ≤ sizeLine := fun h => Nat.le_of_lt (small1000 (by omega))
    have S0 : VS d g H [] := fun y hy => by cases hy
    intro q1 hq1
    have j1 : Ext H (upd H q1 (.dK [])) := Ext.new hq1
    have S1 := S0.add j1 (v := .ref q1) (.inl ⟨_, .dct upd_same (D.nd hq1) (D.ng hq1)⟩)
    generalize upd H q1 (.dK []) = H1 at j1 S1 ⊢
    have D1 := D.keep j1
    -- value + [0]
    refine ⟨_, rfl, by show 1 ≤ sizeLine; decide, fun t2 ht2 => ⟨l, t2, _, _, rfl, rfl, Ext.new ht2 _ _ (j1 _ _ hl), upd_same, sz (by show _ + 1 ≤ _; omega), fun q2 hq2 => ?_⟩⟩
    have a2 := Ext.new (o := .lst [.int 0]) ht2
    have D1' := D1.keep a2
    have b2 := Ext.new (o := .lst (xs ++ [.int 0])) hq2
    have S2 := S1.add (a2.trans b2) (vs_new D1' hq2 (ys := xs ++ [.int 0]) (fun y hy => by
      rcases List.mem_append.mp hy with hy | hy
      · exact VX _ y hy
      · rw [List.mem_singleton] at hy
        subst hy
        exact VI _ 0 (by decide)) (by rw [List.length_append]; show _ + 1 ≤ _; omega))
    have j2 := j1.trans (a2.trans b2)
    clear a2 b2 D1' S1 j1
    generalize upd (upd H1 t2 _) q2 _ = H2 at j2 S2 ⊢
    have D2 := D.keep j2
    -- value[:-1]
    refine ⟨_, rfl, ?_⟩
    dsimp only [tNoPart]
    refine ⟨_, rfl, _, rfl, l, _, rfl, SqL.of (j2 _ _ hl), fun q3 hq3 => ?_⟩
    have b3 := Ext.new (o := .lst (cutV xs none (some (-1)))) hq3
    have S3 := S2.add b3 (vs_new D2 hq3 (VC _ _ _) (by have := lc none (some (-1)); omega))
    have j3 := j2.trans b3
    clear b3 S2 j2
    generalize upd H2 q3 _ = H3 at j3 S3 ⊢
    have D3 := D.keep j3
    -- tuple(value)
    refine ⟨_, rfl, l, _, rfl, .inl ⟨SqL.of (j3 _ _ hl), fun q4 hq4 => ?_⟩⟩
    have b4 := Ext.new (o := .tup xs) hq4
    have S4 := S3.add b4 (vs_newT D3 hq4 (VX _) (by omega))
    have j4 := j3.trans b4
    clear b4 S3 j3
    generalize upd H3 q4 _ = H4 at j4 S4 ⊢
    have D4 := D.keep j4
    refine ⟨_, rfl, (by show 1 ≤ sizeLine; decide), fun t5 ht5 => ⟨_, rfl, l, _, rfl, .inl (SqL.of (Ext.new ht5 _ _ (j4 _ _ hl))), t5, _, _, rfl, rfl, upd_same, by omega, by omega, sz (by show 1 * _ ≤ _; omega), fun q5 hq5 => ?_⟩⟩
    have a5 := Ext.new (o := .lst [.int (-1)]) ht5
    have b5 := Ext.new (o := .lst (List.replicate (xs.length : Int).toNat [.int (-1)]).flatten) hq5
    have S5 := S4.add (a5.trans b5) (vs_new (D4.keep a5) hq5 (ve_flat _ _ (fun y hy => by
      rw [List.mem_singleton] at hy
      subst hy
      exact VI _ (-1) (by decide))) (by rw [flat_len]; omega))
    have j5 := j4.trans (a5.trans b5)
    clear a5 b5 S4 j4
    generalize upd (upd H4 t5 _) q5 _ = H5 at j5 S5 ⊢
    have D5 := D.keep j5
    refine ⟨(by show 1 ≤ sizeLine; decide), fun t6 ht6 => ⟨_, rfl, l, _, rfl, .inl (SqL.of (Ext.new ht6 _ _ (j5 _ _ hl))), t6, _, _, rfl, rfl, upd_same, by omega, by omega, sz (by show 1 * _ ≤ _; omega), fun q6 hq6 => ?_⟩⟩
    have a6 := Ext.new (o := .lst [.bl true]) ht6
    have b6 := Ext.new (o := .lst (List.replicate (xs.length : Int).toNat [.bl true]).flatten) hq6
    have S6 := S5.add (a6.trans b6) (vs_new (D5.keep a6) hq6 (ve_flat _ _ (fun y hy => by
      rw [List.mem_singleton] at hy
      subst hy
      exact ⟨_, .bl _, fun j e => by cases e⟩)) (by rw [flat_len]; omega))
    have j6 := j5.trans (a6.trans b6)
    clear a6 b6 S5 j5
    generalize upd (upd H5 t6 _) q6 _ = H6 at j6 S6 ⊢
    have D6 := D.keep j6
    refine ⟨(by show 9 ≤ sizeLine; decide), fun o1 ho1 => ?_⟩
    obtain ⟨L1, eL1⟩ : ∃ L : List V, L = [.non, .ref q1, .int 5, .str "", .ref q2, .ref q3, .ref q4, .ref q5, .ref q6] := ⟨_, rfl⟩
    rw [← eL1]
    have j7 := j6.trans (Ext.new (o := .lst L1) ho1)
    have d7 : (upd H6 o1 (.lst L1)) o1 = some (.lst L1) := upd_same
    have S7 : VS d g (upd H6 o1 (.lst L1)) [.ref q6, .ref q5, .ref q4, .ref q3, .ref q2, .ref q1] := fun y hy => (S6 y hy).kp (Kp.new ho1)
    clear S6 j6
    generalize upd H6 o1 (.lst L1) = H7 at j7 S7 d7 ⊢
    have D7 := D.keep j7
    refine ⟨_, rfl, _, rfl, ?_⟩
    refine ⟨_, _, rfl, rfl, ⟨by decide, by decide, by decide⟩, (by show 1 ≤ sizeLine; decide), fun t8 ht8 => ⟨_, rfl, l, _, rfl, .inl (SqL.of (Ext.new ht8 _ _ (j7 _ _ hl))), t8, _, _, rfl, rfl, upd_same, by omega, by omega, sz (by show 1 * _ ≤ _; omega), fun q8 hq8 => ?_⟩⟩
    have a8 := Ext.new (o := .lst [.int (10 ^ Int.toNat 30)]) ht8
    have b8 := Ext.new (o := .lst (List.replicate (xs.length : Int).toNat [.int (10 ^ Int.toNat 30)]).flatten) hq8
    have S8 := S7.add (a8.trans b8) (vs_new (D7.keep a8) hq8 (ve_flat _ _ (fun y hy => by
      rw [List.mem_singleton] at hy
      subst hy
      exact VI _ _ (by decide +kernel))) (by rw [flat_len]; omega))
    have j8 := j7.trans (a8.trans b8)
    have d8 := b8 _ _ (a8 _ _ d7)
    clear a8 b8 S7 j7 d7
    generalize upd (upd H7 t8 _) q8 _ = H8 at j8 S8 d8 ⊢
    have D8 := D.keep j8
    refine ⟨(by show 1 ≤ sizeLine; decide), fun t9 ht9 => ⟨_, rfl, l, _, rfl, .inl (SqL.of (Ext.new ht9 _ _ (j8 _ _ hl))), t9, _, _, rfl, rfl, upd_same, by omega, by omega, sz (by show 1 * _ ≤ _; omega), fun q9 hq9 => ?_⟩⟩
    have a9 := Ext.new (o := .lst [.str "1"]) ht9
    have b9 := Ext.new (o := .lst (List.replicate (xs.length : Int).toNat [.str "1"]).flatten) hq9
    have S9 := S8.add (a9.trans b9) (vs_new (D8.keep a9) hq9 (ve_flat _ _ (fun y hy => by
      rw [List.mem_singleton] at hy
      subst hy
      exact ⟨_, .str _, fun j e => by cases e⟩)) (by rw [flat_len]; omega))
    have j9 := j8.trans (a9.trans b9)
    have d9 := b9 _ _ (a9 _ _ d8)
    clear a9 b9 S8 j8 d8
    generalize upd (upd H8 t9 _) q9 _ = H9 at j9 S9 d9 ⊢
    have D9 := D.keep j9
    refine ⟨(by show 1 ≤ sizeLine; decide), fun t10 ht10 => ⟨_, rfl, l, _, rfl, .inl (SqL.of (Ext.new ht10 _ _ (j9 _ _ hl))), t10, _, _, rfl, rfl, upd_same, by omega, by omega, sz (by show 1 * _ ≤ _; omega), fun q10 hq10 => ?_⟩⟩
    have a10 := Ext.new (o := .lst [.non]) ht10
    have b10 := Ext.new (o := .lst (List.replicate (xs.length : Int).toNat [.non]).flatten) hq10
    have S10 := S9.add (a10.trans b10) (vs_new (D9.keep a10) hq10 (ve_flat _ _ (fun y hy => by
      rw [List.mem_singleton] at hy
      subst hy
      exact ⟨_, .non, fun j e => by cases e⟩)) (by rw [flat_len]; omega))
    have j10 := j9.trans (a10.trans b10)
    have d10 := b10 _ _ (a10 _ _ d9)
    clear a10 b10 S9 j9 d9
    generalize upd (upd H9 t10 _) q10 _ = H10 at j10 S10 d10 ⊢
    have D10 := D.keep j10
    -- [[]] + value[1:]
    refine ⟨Nat.zero_le _, fun e11 he11 => ⟨by show 1 ≤ sizeLine; decide, fun t11 ht11 => ?_⟩⟩
    have a11 := Ext.new (o := .lst []) he11
    have D10' := D10.keep a11
    have I11 : Ve d g (upd H10 e11 (.lst [])) (.ref e11) := ⟨.list [], .lst upd_same (D10.nd he11) (D10.ng he11) .nil, fun j e => by cases e⟩
    have b11 := Ext.new (o := .lst [.ref e11]) ht11
    have I11 : Ve d g (upd (upd H10 e11 (.lst [])) t11 (.lst [.ref e11])) (.ref e11) := I11.elim fun x h => ⟨x, Dk.kp (Kp.of b11) h.1, h.2⟩
    have T11 : (upd (upd H10 e11 (.lst [])) t11 (.lst [.ref e11])) t11 = some (.lst [.ref e11]) := upd_same
    have j11 := j10.trans (a11.trans b11)
    have d11 := b11 _ _ (a11 _ _ d10)
    have S11 : VS d g (upd (upd H10 e11 (.lst [])) t11 (.lst [.ref e11])) [.ref q10, .ref q9, .ref q8, .ref q6, .ref q5, .ref q4, .ref q3, .ref q2, .ref q1] := fun y hy => (S10 y hy).kp (Kp.of (a11.trans b11))
    clear a11 b11 S10 j10 d10 D10'
    generalize upd (upd H10 e11 _) t11 _ = H11 at j11 S11 d11 I11 T11 ⊢
    have D11 := D.keep j11
    refine ⟨_, rfl, _, rfl, ?_⟩
    dsimp only [tNoPart]
    refine ⟨l, _, rfl, SqL.of (j11 _ _ hl), fun c11 hc11 => ?_⟩
    have b12 := Ext.new (o := .lst (cutV xs (some 1) none)) hc11
    have c1 := lc (some 1) none
    refine ⟨t11, c11, _, _, rfl, rfl, b12 _ _ T11, upd_same, sz (by show 1 + _ ≤ _; omega), fun q11 hq11 => ?_⟩
    have D12 := D11.keep b12
    have I12 : Ve d g (upd H11 c11 (.lst (cutV xs (some 1) none))) (.ref e11) := I11.elim fun x h => ⟨x, Dk.kp (Kp.of b12) h.1, h.2⟩
    have b13 := Ext.new (o := .lst ([.ref e11] ++ cutV xs (some 1) none)) hq11
    have S13 := S11.add (b12.trans b13) (vs_new D12 hq11 (ys := [.ref e11] ++ cutV xs (some 1) none) (fun y hy => by
      rcases List.mem_append.mp hy with hy | hy
      · rw [List.mem_singleton] at hy
        subst hy
        exact I12
      · exact VC _ _ _ y hy) (by rw [List.length_append]; show 1 + _ ≤ _; omega))
    have j13 := j11.trans (b12.trans b13)
    have d13 := b13 _ _ (b12 _ _ d11)
    clear b12 b13 S11 j11 d11 I11 I12 T11 D12
    generalize upd (upd H11 c11 _) q11 _ = H13 at j13 S13 d13 ⊢
    have D13 := D.keep j13
    refine ⟨(by show 4 ≤ sizeLine; decide), fun o2 ho2 => ?_⟩
    have b14 := Ext.new (o := .lst [.ref q8, .ref q9, .ref q10, .ref q11]) ho2
    have nL : L1.length = 9 := by rw [eL1]; rfl
    refine ⟨o1, o2, _, _, rfl, rfl, b14 _ _ d13, upd_same, sz (by show _ + 4 ≤ _; omega), fun o3 ho3 => ?_⟩
    have D14 := D13.keep b14
    have b15 := Ext.new (o := .lst (L1 ++ [.ref q8, .ref q9, .ref q10, .ref q11])) ho3
    refine ⟨d, g, c, _, D14.keep b15, by omega, .inl ⟨o3, _, rfl, upd_same, D14.nd ho3, D14.ng ho3, by rw [List.length_append, nL]; show 0 < 9 + 4; decide, by rw [List.length_append, nL]; show 9 + 4 ≤ 1000000; decide, fun y H' hy D' k' => ?_⟩⟩
    have kk := (Kp.of (d := d) (g := g) (b14.trans b15)).trans k'
    refine k y H' ?_ (D'.mono (by omega)) ((Kp.of j13).trans kk)
    rw [eL1] at hy
    have hy : y ∈ ([.non, .ref q1, .int 5, .str "", .ref q2, .ref q3, .ref q4, .ref q5, .ref q6, .ref q8, .ref q9, .ref q10, .ref q11] : List V) := hy
    simp only [List.mem_cons, List.not_mem_nil, or_false] at hy
    rcases hy with rfl | rfl | rfl | rfl | rfl | rfl | rfl | rfl | rfl | rfl | rfl | rfl | rfl
    · exact .inl ⟨_, .non⟩
    · exact (S13 _ (by simp)).kp kk
    · exact .inl ⟨_, .int _⟩
    · exact .inl ⟨_, .str _⟩
    all_goals exact (S13 _ (by simp)).kp kk
end
end Lw

set_option Elab.async false
set_option linter.all false
set_option maxRecDepth 100000
set_option maxHeartbeats 4000000
namespace Lw
open L2 hiding Ext
open PySem PySem.Spec PyProof.Rows Gn Gr Gk Go Gt Gf Gu
theorem rows_refs {K : PySem.W.Frag} {H : Hp} : ∀ {xs : List V} {rs : List FRow}, RowsAt H xs rs → ∃ ps : List Addr, xs = ps.map V.ref ∧ Paired (fun p kv => SqT K H p [kV kv.1, kv.2]) ps (kvs rs)
  | [], [], _ => ⟨[], rfl, .nil⟩
  | [], _ :: _, h => by have := h.1; simp at this
  | _ :: _, [], h => by have := h.1; simp at this
  | x :: xs, r :: rs, h => by
    obtain ⟨p, h1, h2⟩ := h.2 0 r rfl
    have h1 : some x = some (V.ref p) := h1
    cases h1
    obtain ⟨ps, e, k⟩ := rows_refs (K := K) (H := H) (xs := xs) (rs := rs) ⟨by have := h.1; simpa using this, fun i r' hr => h.2 (i + 1) r' (by simpa using hr)⟩
    exact ⟨p :: ps, by rw [e]; rfl, .cons (SqT.of h2) k⟩
theorem merge_rows {rs : List FRow} (h : (fNames rs).Nodup) : mergeK [] (kvs rs) = kvs rs := merge_self (by
  unfold kvs
  rw [List.map_map]
  exact nodup_inr (fun r : FRow => r.1) h)
theorem merge_dN {ns : List Str} {t : Str → Int} (h : ns.Nodup) : mergeK [] (dN ns t) = dN ns t := merge_self (by
  unfold dN
  rw [List.map_map]
  exact nodup_inr (fun n : Str => n) (by rw [List.map_id']; exact h))
section
variable {P : Program} {w : World} {K : PySem.W.Frag} {mg : Str → Option Value} {base : Heap}
theorem RowsAt.get {H : Hp} {vs : List V} {rs : List FRow} (h : RowsAt H vs rs) {i : Nat} {x : V} (hx : vs[i]? = some x) : ∃ (r : FRow) (p : Addr), rs[i]? = some r ∧ x = .ref p ∧ H p = some (.tup [.str r.1, parV r.2]) := by
  have hi : i < rs.length := by rw [← h.1]; exact (List.getElem?_eq_some_iff.mp hx).1
  obtain ⟨p, a, b⟩ := h.2 i _ (List.getElem?_eq_getElem hi)
  rw [hx] at a
  cases a
  exact ⟨_, p, List.getElem?_eq_getElem hi, rfl, b⟩
end
end Lw

set_option Elab.async false
set_option linter.all false
set_option maxRecDepth 100000
set_option maxHeartbeats 4000000
namespace Lw
open L2 hiding Ext
open PySem PySem.Spec PyProof.Rows Gn Gr Gk Go Gt Gf Gu
section
variable {P : Program} {w : World} {K : PySem.W.Frag} {mg : Str → Option Value} {base : Heap}
/-! ### _law_order, of names -/
abbrev nOrder : List Str := ["_law_state", "_law_some", "_law_stock", "_law_found"]
def spOrder (ns : List Int) : Sp := fun vs H Q _ => ∃ (d g c l : Addr) (b : Nat) (ws : List Str), vs = [.ref d, .ref l] ∧ Dw ns d g c b H ∧ b ≤ 900000000 ∧ H l = some (.lst (ws.map V.str)) ∧ ws.length ≤ 8 ∧ (∀ x ∈ ws, nameOk x = true) ∧
  ∀ (p : Addr) (ys : List Str) (H' : Hp), H p = none → p ≠ d → p ≠ g → H' p = some (.lst (ys.map V.str)) → ys.Perm ws → Dw ns d g c (b + 8) H' → Kp d g H H' → Q (.ref p) H'
theorem scOrder : FnScope nOrder ["_law_state", "_law_some"] (defScope sLOrder) := ⟨rfl, rfl, rfl, by decide +kernel, rfl, by decide +kernel, by decide +kernel⟩
theorem perm_erase {α : Type} : ∀ {l : List α} {i : Nat} {x : α}, l[i]? = some x → (x :: l.eraseIdx i).Perm l
  | [], _, _, h => by cases h
  | a :: r, 0, x, h => by cases h; exact List.Perm.refl _
  | a :: r, i + 1, x, h => by
    show (x :: a :: r.eraseIdx i).Perm (a :: r)
    exact (List.Perm.swap a x _).trans ((perm_erase (l := r) (i := i) (x := x) (by simpa using h)).cons a)
theorem map_erase {α β : Type} (f : α → β) : ∀ (l : List α) (i : Nat), (l.map f).eraseIdx i = (l.eraseIdx i).map f
  | [], _ => rfl
  | _ :: _, 0 => rfl
  | a :: r, i + 1 => by
    show f a :: (r.map f).eraseIdx i = f a :: (r.eraseIdx i).map f
    rw [map_erase f r i]
theorem ok_order {f fT fP : Addr} {fd fdT fdP : FuncData} (ns : List Int) (F : Fun K "_law_order" "_law_order" sLOrder f fd) (T : Names mg) (R : Draw P w K mg base ns fT fP fdT fdP) : FnOk P w K mg base CX0 3 f fd ["_law_state", "_law_some"] (spOrder ns) := by
  refine F.ok scOrder (fun vs H Q E h => ?_) (fun cdv A outer s H vs Q E hr h => ?_)
  · obtain ⟨d, g, c, l, b, ws, rfl, _⟩ := h
    rfl
  · obtain ⟨d, g, c, l, b, ws, rfl, D, hb, hl, hw8, hwo, k⟩ := h
    have hu := hu_of hr
    have nd := scOrder.nd
    have hr2 := hr
    refine ⟨_, pss_cons (ps_par (i := 2) (j := 3) (by rfl) nd rfl rfl (by decide) rfl rfl (pa_cons (pe_callTy call_list_of rfl T.list (by decide +kernel) (pa_cons (pv 1) pa_nil)) (pa_cons (pe_lst pa_nil) pa_nil)) (by rfl))
(pss_cons (ps_while PassesOwn.never (pt_cmpR (op_neD hr.units) (pv 2) (pe_lst pa_nil) (nomark _))
(pss_one (ps_expr (pe_bm PySem.F.plainAttrs_list PySem.F.slot_list_append PySem.F.type_list_append mt_append (pv 3) (pa_cons (pe_bm PySem.F.plainAttrs_list PySem.F.slot_list_pop PySem.F.type_list_pop mt_popAt (pv 2) (pa_cons (pe_call R.GT hr2 rfl R.mT R.kT R.bT .nil pass0 (pa_cons (pv 0) (pa_cons (pe_callB call_len_seq rfl T.len PySem.boot_len (pa_cons (pv 2) pa_nil)) pa_nil))) pa_nil)) pa_nil)))))
(pss_one (ps_ret (pv 3)))), ?_⟩
    refine ⟨_, rfl, l, _, rfl, .inl (SqL.of hl), fun q hq => ?_⟩
    have Dq := D.new (o := .lst (ws.map V.str)) hq
    refine ⟨Nat.zero_le _, fun L hL => ?_⟩
    refine ⟨_, _, rfl, ?_⟩
    have DL := Dq.new (o := .lst []) hL
    have nqd := D.nd hq
    have nqg := D.ng hq
    have nqc : q ≠ c := fun e => by rw [e, D.cl] at hq; cases hq
    have nLd := Dq.nd hL
    have nLg := Dq.ng hL
    have nLc : L ≠ c := fun e => by rw [e, Dq.cl] at hL; cases hL
    have q1 := new_same (o := .lst []) hL _ _ (upd_same (H := H) (a := q) (o := .lst (ws.map V.str)))
    have L1 : (upd (upd H q (.lst (ws.map V.str))) L (.lst [])) L = some (.lst (([] : List Str).map V.str)) := upd_same
    have nqL : q ≠ L := fun e => by rw [← e] at hL; rw [upd_same] at hL; cases hL
    have hL0 : H L = none := none_of (Ext.new (o := .lst (ws.map V.str)) hq) hL
    have k1 : Kp d g H (upd (upd H q (.lst (ws.map V.str))) L (.lst [])) := (Kp.new hq).trans (Kp.new hL)
    generalize upd (upd H q (.lst (ws.map V.str))) L (.lst []) = H1 at DL q1 L1 k1 ⊢
    refine while_by (fun σ H' => ∃ (st ys : List Str), σ = [some (.ref d), some (.ref l), some (.ref q), some (.ref L)] ∧ H' q = some (.lst (st.map V.str)) ∧ H' L = some (.lst (ys.map V.str)) ∧ (ys ++ st).Perm ws ∧ Dw ns d g c (b + ys.length) H' ∧ Kp d g H H')
      (fun _ H' => match H' q with | some (.lst xs) => xs.length | _ => 0) ⟨ws, [], rfl, q1, L1, List.Perm.refl _, DL, k1⟩ ?_ ?_
    · rintro σ H2 ⟨st, ys, rfl, q2, L2, hp, D2, k2⟩
      have hlen : ys.length + st.length ≤ 8 := by
        have := hp.length_eq
        rw [List.length_append] at this
        omega
      have hsok : ∀ x ∈ st, PyData.strOk x = true := fun x hx => (name_asc19 (hwo x (hp.mem_iff.mp (List.mem_append.mpr (.inr hx))))).ok
      refine ⟨_, rfl, Nat.zero_le _, fun e he => ?_⟩
      have D3 := D2.new (o := .lst []) he
      have q3 := new_same (o := .lst []) he _ _ q2
      have L3 := new_same (o := .lst []) he _ _ L2
      have k3 : Kp d g H (upd H2 e (.lst [])) := k2.trans (Kp.new he)
      refine ⟨_, _, .lst (SqL.of q3) (dp_strs st), .lst (SqL.of upd_same) .nil, shaped_strs hsok, shaped_nil, _, rfl, ?_⟩
      rw [eqv_nil]
      have mq : (match H2 q with | some (.lst xs) => xs.length | _ => 0) = st.length := by rw [q2]; exact List.length_map ..
      generalize upd H2 e (.lst []) = H3 at D3 q3 L3 k3 ⊢
      cases st with
      | nil =>
        refine iteF ?_
        rw [List.append_nil] at hp
        exact ⟨_, rfl, k L ys H3 hL0 nLd nLg L3 hp (D3.mono (by omega)) k3⟩
      | cons s0 sr =>
        refine iteT ?_
        rw [List.length_cons] at hlen
        refine ⟨_, rfl, .inl ⟨rfl, _, SqL.of L3⟩, _, rfl, .inl ⟨rfl, _, SqL.of q3⟩, _, rfl, _, rfl, q, _, rfl, .inl (SqL.of q3), d, g, c, _, _, rfl, D3, by omega, by rw [List.length_map, List.length_cons]; omega, by rw [List.length_map, List.length_cons]; omega, fun r H4 r0 r1 D4 k4 => ?_⟩
        rw [List.length_map, List.length_cons] at r1
        have q4 := k4 _ _ nqd nqg q3
        have L4 := k4 _ _ nLd nLg L3
        have hri : r.toNat < (s0 :: sr).length := by rw [List.length_cons]; omega
        have hx := List.getElem?_eq_getElem hri
        generalize hxv : (s0 :: sr)[r.toNat] = x at hx
        refine ⟨q, _, r, r.toNat, V.str x, rfl, rfl, q4, by omega, by omega, ?_, ?_, ?_⟩
        · rw [List.length_map]
          exact ix_pos r0 (by rw [List.length_cons]; omega)
        · rw [List.getElem?_map, hx]; rfl
        have L5 : (upd H4 q (.lst ((((s0 :: sr).map V.str).eraseIdx r.toNat)))) L = some (.lst (ys.map V.str)) := by rw [upd_ne nqL.symm]; exact L4
        refine ⟨L, _, _, rfl, rfl, L5, small1000 (by rw [List.length_map]; omega), ?_⟩
        have D5 := (D4.put (o := .lst ((((s0 :: sr).map V.str).eraseIdx r.toNat))) q4 nqd nqg nqc)
        have D6 := D5.put (o := .lst (ys.map V.str ++ [V.str x])) L5 nLd nLg nLc
        refine ⟨⟨(s0 :: sr).eraseIdx r.toNat, ys ++ [x], rfl, ?_, by rw [upd_same, List.map_append]; rfl, ?_, ?_, ?_⟩, ?_⟩
        · rw [upd_ne nqL, upd_same, map_erase]
        · refine List.Perm.trans ?_ hp
          rw [List.append_assoc]
          exact (perm_erase hx).append_left ys
        · rw [List.length_append]
          exact D6.mono (by show _ ≤ b + (ys.length + 1); omega)
        · exact fun a o n1 n2 ha => by
            rw [upd_ne (ne_of_none ha hL0), upd_ne (ne_of_none ha hq)]
            exact (k3.trans k4) a o n1 n2 ha
        · show (match (upd (upd H4 q _) L _) q with | some (.lst xs) => xs.length | _ => 0) < _
          rw [mq, upd_ne nqL, upd_same]
          show (((s0 :: sr).map V.str).eraseIdx r.toNat).length < _
          rw [List.length_eraseIdx, List.length_map, if_pos hri, List.length_cons]
          omega
    · exact fun σ H Q Q' hq ⟨v, e1, e2, f⟩ => ⟨v, e1, e2, fun e he => by
        obtain ⟨dd, ee, a1, a2, a3, a4, b, e3, h⟩ := f e he
        exact ⟨dd, ee, a1, a2, a3, a4, b, e3, hq _ _ h⟩⟩
/-! ### _law_claims -/
abbrev nClaims : List Str := ["_law_state", "_law_names", "_law_numbers", "_law_found", "_law_k", "_law_claim"]
def Nm (H : Hp) (a : Addr) (ws : List Str) : Prop := H a = some (.lst (ws.map V.str)) ∧ ws ≠ [] ∧ ws.length ≤ 8 ∧ ∀ x ∈ ws, nameOk x = true
def spClaims (ns : List Int) : Sp := fun vs H Q _ => ∃ (d g c l : Addr) (b : Nat) (m : Int) (ws : List Str), vs = [.ref d, .ref l, .int m] ∧ Dw ns d g c b H ∧ b ≤ 800000000 ∧ l ≠ d ∧ l ≠ g ∧ Nm H l ws ∧ 1 ≤ m ∧ m ≤ 1000000000 ∧
  ∀ (p : Addr) (xs : List V) (cs : List (Str × Int)) (H' : Hp), H p = none → p ≠ d → p ≠ g → H' p = some (.lst xs) → CsAt H' xs cs → cs.length ≤ 20 → (∀ q ∈ cs, q.1 ∈ ws ∧ 0 ≤ q.2 ∧ q.2 ≤ m) → Dw ns d g c (b + 200) H' → Kp d g H H' → Q (.ref p) H'
theorem scClaims : FnScope nClaims ["_law_state", "_law_names", "_law_numbers"] (defScope sLClaims) := ⟨rfl, rfl, rfl, by decide +kernel, rfl, by decide +kernel, by decide +kernel⟩
theorem ok_claims {f fT fP : Addr} {fd fdT fdP : FuncData} (ns : List Int) (F : Fun K "_law_claims" "_law_claims" sLClaims f fd) (T : Names mg) (R : Draw P w K mg base ns fT fP fdT fdP) : FnOk P w K mg base CX0 4 f fd ["_law_state", "_law_names", "_law_numbers"] (spClaims ns) := by
  refine F.ok scClaims (fun vs H Q E h => ?_) (fun cdv A outer s H vs Q E hr h => ?_)
  · obtain ⟨d, g, c, l, b, m, ws, rfl, _⟩ := h
    rfl
  · obtain ⟨d, g, c, l, b, m, ws, rfl, D, hb, nld, nlg, ⟨hl, hw0, hw8, hwo⟩, m1, m9, k⟩ := h
    have hu := hu_of hr
    have nd := scClaims.nd
    have hr3 := hr
    have hr2 : Room 2 (A.deeper (envOfC "_law_claims" (defScope sLClaims) s.heap.objs.size f cdv)) := hr.mono (by decide)
    refine ⟨_, pss_cons (ps_set (i := 3) nd rfl (.inl rfl) (pe_lst pa_nil))
(pss_cons (ps_for PassesOwn.never rfl (pi_range1 rfl T.range (pa_cons (pe_call R.GP hr3 rfl R.mP R.kP R.bP .nil pass0 (pa_cons (pv 0) (pa_cons (pe_lst (pa_cons pe_int (pa_cons pe_int (pa_cons pe_int (pa_cons pe_int (pa_cons pe_int (pa_cons pe_int (pa_cons pe_int pa_nil)))))))) pa_nil))) pa_nil)) (pg_name (i := 4) nd rfl (.inl rfl))
(pss_cons (ps_set (i := 5) nd rfl (.inl rfl) (pe_call R.GP hr3 rfl R.mP R.kP R.bP .nil pass0 (pa_cons (pv 0) (pa_cons (pe_lst (pa_cons pe_int (pa_cons pe_int (pa_cons (pe_call R.GT hr2 rfl R.mT R.kT R.bT .nil pass0 (pa_cons (pv 0) (pa_cons (pv 2) pa_nil))) (pa_cons (pe_call R.GT hr2 rfl R.mT R.kT R.bT .nil pass0 (pa_cons (pv 0) (pa_cons (pv 2) pa_nil))) (pa_cons (pv 2) pa_nil)))))) pa_nil))))
(pss_one (ps_expr (pe_bm PySem.F.plainAttrs_list PySem.F.slot_list_append PySem.F.type_list_append mt_append (pv 3) (pa_cons (pe_tup (pa_cons (pe_call R.GP hr3 rfl R.mP R.kP R.bP .nil pass0 (pa_cons (pv 0) (pa_cons (pv 1) pa_nil))) (pa_cons (pv 5) pa_nil))) pa_nil))))))
(pss_one (ps_ret (pv 3)))), ?_⟩
    have wpos : 0 < (ws.map V.str).length := by rw [List.length_map]; exact List.length_pos_iff.mpr hw0
    have wlen : (ws.map V.str).length ≤ 1000000 := by rw [List.length_map]; omega
    refine ⟨Nat.zero_le _, fun L hL => ?_⟩
    have DL := D.new (o := .lst []) hL
    have nLd := D.nd hL
    have nLg := D.ng hL
    have nLc : L ≠ c := fun e => by rw [e, D.cl] at hL; cases hL
    have L1 : (upd H L (.lst [])) L = some (.lst []) := upd_same
    have k1 : Kp d g H (upd H L (.lst [])) := Kp.new hL
    generalize upd H L (.lst []) = H1 at DL L1 k1 ⊢
    refine ⟨_, rfl, by show 7 ≤ sizeLine; decide, fun q hq => ?_⟩
    refine ⟨d, g, c, _, DL.new hq, by omega, .inl ⟨q, _, rfl, upd_same, DL.nd hq, DL.ng hq, by show 0 < 7; decide, by show 7 ≤ 1000000; decide, fun x H2 hx D2 k2 => ?_⟩⟩
    obtain ⟨n, rfl, n0, n20⟩ : ∃ n : Int, x = .int n ∧ 0 ≤ n ∧ n ≤ 20 := by
      simp only [List.mem_cons, List.not_mem_nil, or_false] at hx
      rcases hx with rfl | rfl | rfl | rfl | rfl | rfl | rfl <;> exact ⟨_, rfl, by decide, by decide⟩
    have k12 : Kp d g H1 H2 := (Kp.new hq).trans k2
    refine ⟨n, rfl, by omega, by omega, for_range (lo := 0) (n := n.toNat) (fun i σ H' => ∃ (v4 v5 : Option V) (xs : List V) (cs : List (Str × Int)), σ = [some (.ref d), some (.ref l), some (.int m), some (.ref L), v4, v5] ∧ H' L = some (.lst xs) ∧ CsAt H' xs cs ∧ cs.length = i ∧ (∀ q ∈ cs, q.1 ∈ ws ∧ 0 ≤ q.2 ∧ q.2 ≤ m) ∧ Dw ns d g c (b + 1 + i * 8) H' ∧ Kp d g H H')
      ⟨none, none, [], [], rfl, k12 _ _ nLd nLg L1, .nil, rfl, fun q hq => (by cases hq), D2.mono (by omega), k1.trans k12⟩ ?_ ?_⟩
    · rintro i σ H3 hi ⟨v4, v5, xs, cs, rfl, L3, c3, cl, co, D3, k3⟩
      have hi20 : i < 20 := by omega
      refine ⟨_, rfl, _, rfl, _, rfl, d, g, c, _, m, rfl, D3, by omega, by omega, by omega, fun r1 H4 a0 a1 D4 k4 => ?_⟩
      refine ⟨_, rfl, _, rfl, d, g, c, _, m, rfl, D4, by omega, by omega, by omega, fun r2 H5 b0 b1 D5 k5 => ?_⟩
      refine ⟨_, rfl, by show 5 ≤ sizeLine; decide, fun q hq => ?_⟩
      refine ⟨d, g, c, _, D5.new hq, by omega, .inl ⟨q, _, rfl, upd_same, D5.nd hq, D5.ng hq, by show 0 < 5; decide, by show 5 ≤ 1000000; decide, fun x H6 hx D6 k6 => ?_⟩⟩
      obtain ⟨z, rfl, z0, z1⟩ : ∃ z : Int, x = .int z ∧ 0 ≤ z ∧ z ≤ m := by
        simp only [List.mem_cons, List.not_mem_nil, or_false] at hx
        rcases hx with rfl | rfl | rfl | rfl | rfl
        · exact ⟨_, rfl, by decide, by omega⟩
        · exact ⟨_, rfl, by decide, by omega⟩
        · exact ⟨_, rfl, a0, by omega⟩
        · exact ⟨_, rfl, b0, by omega⟩
        · exact ⟨_, rfl, by omega, by omega⟩
      have k36 : Kp d g H3 H6 := ((k4.trans k5).trans (Kp.new hq)).trans k6
      have L6 := k36 _ _ nLd nLg L3
      have l6 := k36 _ _ nld nlg (k3 _ _ nld nlg hl)
      refine ⟨_, rfl, .inl ⟨rfl, _, SqL.of L6⟩, _, rfl, _, rfl, d, g, c, _, D6, by omega, .inl ⟨l, _, rfl, l6, nld, nlg, wpos, wlen, fun x H7 hx D7 k7 => ?_⟩⟩
      obtain ⟨nm, hnm, rfl⟩ := List.mem_map.mp hx
      refine ⟨_, rfl, by show 2 ≤ sizeLine; decide, fun t ht => ?_⟩
      have L7 := k7 _ _ nLd nLg L6
      have L8 := new_same (o := .tup [.str nm, .int z]) ht _ _ L7
      have c8 : CsAt (upd H7 t (.tup [.str nm, .int z])) xs cs := ((c3.kp D3 k36).kp D6 k7).ext (Ext.new ht)
      have xl := c3.1
      refine ⟨L, _, _, rfl, rfl, L8, small1000 (by omega), ?_⟩
      have D8 := (D7.new (o := .tup [.str nm, .int z]) ht).put (o := .lst (xs ++ [.ref t])) L8 nLd nLg nLc
      have c9 : CsAt (upd (upd H7 t (.tup [.str nm, .int z])) L (.lst (xs ++ [.ref t]))) (xs ++ [.ref t]) (cs ++ [(nm, z)]) := by
        have c9 := CsAt.snoc (c := (nm, z)) c8 upd_same
        exact ⟨c9.1, fun j q hj => by
          obtain ⟨p, b1, b2⟩ := c9.2 j q hj
          exact ⟨p, b1, by rw [upd_ne (ne_of b2 L8 (by intro z; cases z))]; exact b2⟩⟩
      refine ⟨_, _, xs ++ [.ref t], cs ++ [(nm, z)], rfl, upd_same, c9, by rw [List.length_append, cl]; rfl, fun q hq => ?_, D8.mono (by omega), fun a o n1 n2 ha => ?_⟩
      · rcases List.mem_append.mp hq with hq | hq
        · exact co q hq
        · rw [List.mem_singleton.mp hq]
          exact ⟨hnm, z0, z1⟩
      · rw [upd_ne (ne_of_none ha hL)]
        exact new_same ht _ _ (k7 _ _ n1 n2 (k36 _ _ n1 n2 (k3 _ _ n1 n2 ha)))
    · rintro σ H3 ⟨v4, v5, xs, cs, rfl, L3, c3, cl, co, D3, k3⟩
      exact ⟨_, rfl, k L xs cs H3 hL nLd nLg L3 c3 (by omega) co (D3.mono (by omega)) k3⟩
end
end Lw

set_option Elab.async false
set_option linter.all false
set_option maxRecDepth 100000
set_option maxHeartbeats 4000000
namespace Lw
open L2 hiding Ext
open PySem PySem.Spec PyProof.Rows Gn Gr Gk Go Gt Gf Gu
section
variable {P : Program} {w : World} {K : PySem.W.Frag} {mg : Str → Option Value} {base : Heap}
/-! ### _law_balances -/
abbrev nBal : List Str := ["_law_state", "_law_names", "_law_numbers", "_law_found", "_law_sparse", "_law_name", "_law_amount"]
def spBal (ns : List Int) : Sp := fun vs H Q _ => ∃ (d g c l : Addr) (b : Nat) (m : Int) (ws : List Str), vs = [.ref d, .ref l, .int m] ∧ Dw ns d g c b H ∧ b ≤ 800000000 ∧ l ≠ d ∧ l ≠ g ∧ Nm H l ws ∧ ws.Nodup ∧ 1 ≤ m ∧ m ≤ 1000000000 ∧
  ∀ (p : Addr) (bs : List (Str × Int)) (H' : Hp), H p = none → p ≠ d → p ≠ g → H' p = some (.dK (dB bs)) → (bs.map (·.1)).Nodup → (∀ q ∈ bs, q.1 ∈ ws ∧ 0 ≤ q.2 ∧ q.2 ≤ 2 * m) → Dw ns d g c (b + 100) H' → Kp d g H H' → Q (.ref p) H'
theorem scBal : FnScope nBal ["_law_state", "_law_names", "_law_numbers"] (defScope sLBalances) := ⟨rfl, rfl, rfl, by decide +kernel, rfl, by decide +kernel, by decide +kernel⟩
def BalI (ns : List Int) (d g c l fo p : Addr) (b : Nat) (m sp : Int) (ws ys : List Str) (H : Hp) (i : Nat) (σ : L2.St) (H' : Hp) : Prop :=
  ∃ (v5 v6 : Option V) (bs : List (Str × Int)), σ = [some (.ref d), some (.ref l), some (.int m), some (.ref fo), some (.int sp), v5, v6] ∧ H' fo = some (.dK (dB bs)) ∧ H' p = some (.lst (ys.map V.str)) ∧ (bs.map (·.1)).Sublist (ys.take i) ∧ (∀ q ∈ bs, 0 ≤ q.2 ∧ q.2 ≤ 2 * m) ∧ Dw ns d g c (b + 10 + i * 8) H' ∧ Kp d g H H'
theorem ok_balances {f fT fP fO : Addr} {fd fdT fdP fdO : FuncData} (ns : List Int) (F : Fun K "_law_balances" "_law_balances" sLBalances f fd) (T : Names mg) (R : Draw P w K mg base ns fT fP fdT fdP)
    (GO : FnOk P w K mg base CX0 3 fO fdO ["_law_state", "_law_some"] (spOrder ns)) (bO : Binds K fdO ["_law_state", "_law_some"] []) (kO : PySem.W.keepIn K (.ref fO) = true) (mO : mg "_law_order" = some (.ref fO)) :
    FnOk P w K mg base CX0 4 f fd ["_law_state", "_law_names", "_law_numbers"] (spBal ns) := by
  refine F.ok scBal (fun vs H Q E h => ?_) (fun cdv A outer s H vs Q E hr h => ?_)
  · obtain ⟨d, g, c, l, b, m, ws, rfl, _⟩ := h
    rfl
  · obtain ⟨d, g, c, l, b, m, ws, rfl, D, hb, nld, nlg, ⟨hl, hw0, hw8, hwo⟩, hwn, m1, m9, k⟩ := h
    have hu := hu_of hr
    have nd := scBal.nd
    have hr3 := hr
    have hr2 : Room 2 (A.deeper (envOfC "_law_balances" (defScope sLBalances) s.heap.objs.size f cdv)) := hr.mono (by decide)
    refine ⟨_, pss_cons (ps_par (i := 3) (j := 4) (by rfl) nd rfl rfl (by decide) rfl rfl (pa_cons pe_dnewK (pa_cons (pe_call R.GT hr2 rfl R.mT R.kT R.bT .nil pass0 (pa_cons (pv 0) (pa_cons pe_int pa_nil))) pa_nil)) (by rfl))
(pss_cons (ps_for PassesOwn.never rfl (pi_list (pe_call GO hr3 rfl mO kO bO .nil pass0 (pa_cons (pv 0) (pa_cons (pv 1) pa_nil)))) (pg_name (i := 5) nd rfl (.inl rfl))
(pss_one (ps_if (pt_cmpR op_gt (pe_call R.GT hr2 rfl R.mT R.kT R.bT .nil pass0 (pa_cons (pv 0) (pa_cons pe_int pa_nil))) pe_int (nomark _)) (pss_cons (ps_set (i := 6) nd rfl (.inl rfl) (pe_call R.GP hr3 rfl R.mP R.kP R.bP .nil pass0 (pa_cons (pv 0) (pa_cons (pe_lst (pa_cons pe_int (pa_cons pe_int (pa_cons (pe_call R.GT hr2 rfl R.mT R.kT R.bT .nil pass0 (pa_cons (pv 0) (pa_cons (pv 2) pa_nil))) (pa_cons (pe_call R.GT hr2 rfl R.mT R.kT R.bT .nil pass0 (pa_cons (pv 0) (pa_cons (pe_op op_mul pe_int (pv 2)) pa_nil))) pa_nil))))) pa_nil))))
(pss_one (ps_dput hu (pv 3) (pv 5) (pe_ifExp (PW.pt (pw_and (pt_cmpR op_eq (pv 4) pe_int (nomark _)) (pw_and1 (pt_cmpR op_gt (pe_call R.GT hr2 rfl R.mT R.kT R.bT .nil pass0 (pa_cons (pv 0) (pa_cons pe_int pa_nil))) pe_int (nomark _))))) pe_int (pv 6)) rfl))) pss_nil)))
(pss_one (ps_ret (pv 3)))), ?_⟩
    intro fo hfo
    have D1 := D.new (o := .dK []) hfo
    have nfd := D.nd hfo
    have nfg := D.ng hfo
    have nfc : fo ≠ c := fun e => by rw [e, D.cl] at hfo; cases hfo
    have f1 : (upd H fo (.dK [])) fo = some (.dK (dB [])) := upd_same
    have l1 := new_same (o := .dK []) hfo _ _ hl
    have k1 : Kp d g H (upd H fo (.dK [])) := Kp.new hfo
    refine ⟨_, rfl, d, g, c, _, 3, rfl, D1, by omega, by decide, by decide, fun sp H2 _ _ D2 k2 => ?_⟩
    refine ⟨_, _, rfl, ?_⟩
    have f2 := k2 _ _ nfd nfg f1
    have l2 := k2 _ _ nld nlg l1
    refine ⟨_, rfl, _, rfl, d, g, c, l, _, ws, rfl, D2, by omega, l2, hw8, hwo, fun p ys H3 p0 npd npg hp hperm D3 k3 => ?_⟩
    have f3 := k3 _ _ nfd nfg f2
    have nfp : fo ≠ p := ne_of_none f2 p0
    have hpH : H p = none := by
      cases e : H p with
      | none => rfl
      | some u => rw [k2 _ _ npd npg (k1 _ _ npd npg e)] at p0; cases p0
    have hyn : ys.Nodup := hperm.nodup_iff.mpr hwn
    have yl : ys.length ≤ 8 := by rw [hperm.length_eq]; exact hw8
    refine ⟨p, rfl, ⟨_, SqL.of hp⟩, ?_⟩
    refine for_it walk_list (BalI ns d g c l fo p b m sp ws ys H) ⟨none, none, [], rfl, f3, hp, List.Sublist.refl _, fun q hq => (by cases hq), D3.mono (by omega), (k1.trans k2).trans k3⟩ (fun i σ H' _ ⟨_, _, _, _, _, e, _⟩ => SqL.of e) ?_ ?_
    · rintro i x σ H4 H4' hi ⟨v5, v6, bs, rfl, f4, p4, sb, bo, D4, k4⟩ ⟨rfl, hx⟩
      rw [List.getElem?_map] at hx
      obtain ⟨n, hn, rfl⟩ := Option.map_eq_some_iff.mp hx
      have hi8 : i < 8 := by
        have := (List.getElem?_eq_some_iff.mp hn).1
        omega
      have bl : bs.length ≤ 8 := by
        have := sb.length_le
        rw [List.length_map, List.length_take] at this
        omega
      have hnb : n ∉ bs.map (·.1) := fun hm => nodup_at hyn hn (sb.subset hm)
      have fin : ∀ (z : Int) (H' : Hp) (v6' : Option V), 0 ≤ z → z ≤ 2 * m → H' fo = some (.dK (dB bs)) → H' p = some (.lst (ys.map V.str)) → Dw ns d g c (b + 10 + i * 8 + 8) H' → Kp d g H H' →
          DPut H' fo (.str n) (.int z) (upd H' fo (.dK (dB (bs ++ [(n, z)])))) ∧ BalI ns d g c l fo p b m sp ws ys H (i + 1) [some (.ref d), some (.ref l), some (.int m), some (.ref fo), some (.int sp), some (.str n), v6'] (upd H' fo (.dK (dB (bs ++ [(n, z)])))) := by
        intro z H' v6' z0 z1 f' p' D' k'
        refine ⟨?_, _, _, bs ++ [(n, z)], rfl, upd_same, by rw [upd_ne nfp.symm]; exact p', ?_, fun q hq => ?_, (D'.put f' nfd nfg nfc).mono (by omega), fun a o n1 n2 ha => ?_⟩
        · have e : dB (bs ++ [(n, z)]) = putK (dB bs) (Sum.inr n : Key) (.int z) := by
            rw [putK_new _ (dB_none hnb)]
            unfold dB
            rw [List.map_append]
            rfl
          rw [e]
          exact DPut.k (k := Sum.inr n) f' (by unfold dB; rw [List.length_map, sizeLine_eq]; omega)
        · rw [take_snoc hn, List.map_append]
          exact sb.append (List.Sublist.refl _)
        · rcases List.mem_append.mp hq with hq | hq
          · exact bo q hq
          · rw [List.mem_singleton.mp hq]
            exact ⟨z0, z1⟩
        · rw [upd_ne (ne_of_none ha hfo)]
          exact k' _ _ n1 n2 ha
      refine ⟨_, rfl, d, g, c, _, 4, rfl, D4, by omega, by decide, by decide, fun r H5 _ _ D5 k5 => ?_⟩
      refine ⟨_, _, rfl, rfl, _, rfl, ?_⟩
      have f5 := k5 _ _ nfd nfg f4
      have p5 := k5 _ _ npd npg p4
      refine ite2 (fun _ => ?_) (fun _ => ⟨_, _, bs, rfl, f5, p5, sb.trans (by rw [take_snoc hn]; exact List.sublist_append_left ..), bo, D5.mono (by omega), k4.trans k5⟩)
      refine ⟨_, rfl, _, rfl, _, rfl, d, g, c, _, m, rfl, D5, by omega, by omega, by omega, fun r1 H6 a0 a1 D6 k6 => ?_⟩
      refine ⟨_, rfl, _, rfl, _, _, rfl, rfl, .inl ⟨by decide, by decide⟩, d, g, c, _, 2 * m, rfl, D6, by omega, by omega, by omega, fun r2 H7 b0 b1 D7 k7 => ?_⟩
      refine ⟨by show 4 ≤ sizeLine; decide, fun q hq => ?_⟩
      refine ⟨d, g, c, _, D7.new hq, by omega, .inl ⟨q, _, rfl, upd_same, D7.nd hq, D7.ng hq, by show 0 < 4; decide, by show 4 ≤ 1000000; decide, fun x H8 hx D8 k8 => ?_⟩⟩
      obtain ⟨z, rfl, z0, z1⟩ : ∃ z : Int, x = .int z ∧ 0 ≤ z ∧ z ≤ 2 * m := by
        simp only [List.mem_cons, List.not_mem_nil, or_false] at hx
        rcases hx with rfl | rfl | rfl | rfl
        · exact ⟨_, rfl, by decide, by omega⟩
        · exact ⟨_, rfl, by decide, by omega⟩
        · exact ⟨_, rfl, a0, by omega⟩
        · exact ⟨_, rfl, b0, by omega⟩
      have k58 : Kp d g H5 H8 := ((k6.trans k7).trans (Kp.new hq)).trans k8
      have f8 := k58 _ _ nfd nfg f5
      have p8 := k58 _ _ npd npg p5
      have k08 := (k4.trans k5).trans k58
      refine ⟨_, rfl, rfl, _, rfl, ?_⟩
      refine ite2 (fun _ => ?_) (fun _ => ?_)
      · refine ⟨_, rfl, d, g, c, _, 3, rfl, D8, by omega, by decide, by decide, fun r3 H9 _ _ D9 k9 => ?_⟩
        refine ⟨_, _, rfl, rfl, _, rfl, ?_⟩
        refine ite2 (fun _ => ?_) (fun _ => ?_)
        · obtain ⟨e1, e2⟩ := fin 0 H9 (some (.int z)) (by decide) (by omega) (k9 _ _ nfd nfg f8) (k9 _ _ npd npg p8) (D9.mono (by omega)) (k08.trans k9)
          exact ⟨_, rfl, _, rfl, fo, _, rfl, e1, e2⟩
        · obtain ⟨e1, e2⟩ := fin z H9 (some (.int z)) z0 z1 (k9 _ _ nfd nfg f8) (k9 _ _ npd npg p8) (D9.mono (by omega)) (k08.trans k9)
          exact ⟨_, rfl, _, rfl, _, rfl, fo, _, rfl, e1, e2⟩
      · obtain ⟨e1, e2⟩ := fin z H8 (some (.int z)) z0 z1 f8 p8 (D8.mono (by omega)) k08
        exact ⟨_, rfl, _, rfl, _, rfl, fo, _, rfl, e1, e2⟩
    · rintro σ H4 ⟨v5, v6, bs, rfl, f4, p4, sb, bo, D4, k4⟩
      rw [List.length_map, List.take_length] at sb
      rw [List.length_map] at D4
      refine ⟨_, rfl, k fo bs H4 hfo nfd nfg f4 (sb.nodup hyn) (fun q hq => ⟨?_, bo q hq⟩) (D4.mono (by omega)) k4⟩
      exact hperm.mem_iff.mp (sb.subset (List.mem_map.mpr ⟨q, hq, rfl⟩))
end
end Lw

set_option Elab.async false
set_option linter.all false
set_option maxRecDepth 100000
set_option maxHeartbeats 4000000
namespace Lw
open L2 hiding Ext
open PySem PySem.Spec PyProof.Rows Gn Gr Gk Go Gt Gf Gu
/-! ### what is spent, account by account -/
def cStep (rs : List FRow) (t : Str → Int) (q : (Str × Int) × Int) : Str → Int := addL t (anc rs q.1.1) q.2
def cntF (rs : List FRow) (cs : List (Str × Int)) (ps : List Int) : Str → Int := (cs.zip ps).foldl (cStep rs) (fun _ => 0)
def cntT (rs : List FRow) (cs : List (Str × Int)) (ps : List Int) (i : Nat) : Str → Int := ((cs.zip ps).take i).foldl (cStep rs) (fun _ => 0)
theorem zip_at {cs : List (Str × Int)} {ps : List Int} {i : Nat} {c : Str × Int} {z : Int} (h1 : cs[i]? = some c) (h2 : ps[i]? = some z) : (cs.zip ps)[i]? = some (c, z) := by
  rw [List.getElem?_zip_eq_some]
  exact ⟨h1, h2⟩
theorem cntT_s {rs : List FRow} {cs : List (Str × Int)} {ps : List Int} {i : Nat} {c : Str × Int} {z : Int} (h1 : cs[i]? = some c) (h2 : ps[i]? = some z) : cntT rs cs ps (i + 1) = addL (cntT rs cs ps i) (anc rs c.1) z := by
  unfold cntT
  rw [take_snoc (zip_at h1 h2), List.foldl_append]
  rfl
def overF (rs : List FRow) (bs cs : List (Str × Int)) (ps : List Int) : Option Str := (fNames rs).find? fun n => decide (totF rs bs n < cntF rs cs ps n)
theorem filter_head {α : Type} (p : α → Bool) : ∀ l : List α, l.find? p = (l.filter p).head?
  | [] => rfl
  | a :: r => by
    cases h : p a
    · rw [List.find?_cons_of_neg (by rw [h]; simp), List.filter_cons_of_neg (by rw [h]; simp)]
      exact filter_head p r
    · rw [List.find?_cons_of_pos h, List.filter_cons_of_pos h]
      rfl
section
variable {P : Program} {w : World} {K : PySem.W.Frag} {mg : Str → Option Value} {base : Heap}
end
end Lw

set_option Elab.async false
set_option linter.all false
set_option maxRecDepth 100000
set_option maxHeartbeats 4000000
/-! zip of a list or tuple and a list or tuple -/
namespace Gmm
open L2 hiding Ext
open PySem PySem.Spec PyProof.Rows Gn Gk Gu Gm
def ItN (K : PySem.W.Frag) (a b : Addr) : It where
  go := fun i H => ∃ xs ys x y, SqL K H a xs ∧ SqT K H b ys ∧ xs[i]? = some x ∧ ys[i]? = some y
  yld := fun i H v H' => ∃ T x y, v = V.ref T ∧ H T = none ∧ H' = upd H T (.tup [x, y]) ∧ (∀ xs, SqL K H a xs → xs[i]? = some x) ∧ ∀ ys, SqT K H b ys → ys[i]? = some y
  stop := fun i H => ∃ xs ys, SqL K H a xs ∧ SqT K H b ys ∧ i = min xs.length ys.length
def tnN (a b z TI TO i1 i2 : Addr) (i : Nat) (h : Heap) : Prop :=
  IsZip h z TI TO Value.none ∧ IsTupOf2 h TI (Value.ref i1) (Value.ref i2) ∧ (∃ x y, IsTupOf2 h TO x y) ∧ h.IsListIter i1 a i ∧ h.IsTupleIter i2 b i
theorem turn_zipN {P : Program} {w : World} {K : PySem.W.Frag} {elts : List Expr} {kk : Nat} {tpos : Pos} {a b z TI TO i1 i2 : Addr} (h : ZipApart z TI TO i1 i2 a b) :
    Turn P w K (Expr.Tuple elts kk tpos) (ItN K a b) [z, TI, TO, i1, i2] z (tnN a b z TI TO i1 i2) := by
  have sep : ZipSep2 z TI TO i1 i2 [i1, a] [i2, b] := by
    refine ⟨h.TIz, h.TOz, h.TITO, h.TIi1, by simp, ?_, ?_, h.TIi2, by simp, ?_, ?_, ?_, ?_⟩ <;>
      simp only [List.mem_cons, List.not_mem_nil, or_false, not_or]
    · exact ⟨h.i1z.symm, h.l1z.symm⟩
    · exact ⟨h.TOi1, h.l1TO.symm⟩
    · exact ⟨h.i2z.symm, h.l2z.symm⟩
    · exact ⟨h.TOi2, h.l2TO.symm⟩
    · exact ⟨h.i12, h.l2i1.symm⟩
    · exact ⟨h.i12.symm, h.l1i2.symm⟩
  refine ⟨by simp, ?_, ?_, ?_, ?_, ?_⟩
  · rintro i hp ⟨h1, h2, ⟨x, y, h3⟩, ⟨o4, h4, _, d4⟩, ⟨o5, h5, _, d5⟩⟩ b' hb
    simp only [List.mem_cons, List.not_mem_nil, or_false] at hb
    rcases hb with rfl | rfl | rfl | rfl | rfl
    · exact ⟨_, h1, fun v e => by cases e⟩
    · exact ⟨_, h2, fun v e => by cases e⟩
    · exact ⟨_, h3, fun v e => by cases e⟩
    · exact ⟨_, h4, fun v e => by rw [d4] at e; cases e⟩
    · exact ⟨_, h5, fun v e => by rw [d5] at e; cases e⟩
  · rintro i hp hp' ⟨h1, h2, ⟨x, y, h3⟩, ⟨o4, h4, c4, d4⟩, ⟨o5, h5, c5, d5⟩⟩ k
    exact ⟨k _ (by simp) _ h1, k _ (by simp) _ h2, ⟨x, y, k _ (by simp) _ h3⟩, ⟨o4, k _ (by simp) _ h4, c4, d4⟩, ⟨o5, k _ (by simp) _ h5, c5, d5⟩⟩
  · rintro X rfl rfl rfl hc i pins s σ H E I fp ⟨t1, t2, t3, t4, t5⟩ ⟨xs, ys, x, y, hx, hy, ex, ey⟩
    obtain ⟨its1, v1, p1, _⟩ := I.list hx
    obtain ⟨its2, v2, p2, _⟩ := I.tuple hy
    have hd : X.A.in1.handled = none := I.ok.hd hc
    have G := GoesN.zip2 (elts := elts) (x1 := kk) (pos := tpos) sep (Draws.list (prog := X.prog) (w := X.w) hd i1 a h.l1i1 its1.toArray) (Draws.tuple (prog := X.prog) (w := X.w) hd i2 b h.l2i2 its2.toArray)
    have hi1 := (List.getElem?_eq_some_iff.mp ex).1
    have hi2 := (List.getElem?_eq_some_iff.mp ey).1
    have l1 := v1.length
    have l2 := v2.length
    refine G.goes i s (fun u s2 => ∃ x H', L2.Inv X pins σ H' s2 ∧ L2.RelV x u ∧ (ItN X.K a b).yld i H x H' ∧ tnN a b z TI TO i1 i2 (i + 1) s2.heap ∧ ∀ b ∈ [z, TI, TO, i1, i2], H' b = none) E (by simp; omega) ⟨t1, t2, t3, ⟨t4, p1.isList⟩, ⟨t5, p2⟩⟩ ?_
    rintro v h' tk ⟨T, x', y', rfl, hT, e1, e2, tup⟩ ⟨s1, s2, s3, ⟨s4, _⟩, ⟨s5, _⟩⟩ keep _
    obtain ⟨u1, g1, r1⟩ := v1.get ex
    obtain ⟨u2, g2, r2⟩ := v2.get ey
    have e1 : its1[i]? = some x' := by simpa using e1
    have e2 : its2[i]? = some y' := by simpa using e2
    rw [g1] at e1
    rw [g2] at e2
    cases e1
    cases e2
    have fr := I.hok.fresh hT
    refine ⟨V.ref T, upd H T (.tup [x, y]), ?_, rfl, ⟨T, x, y, rfl, fr, rfl, fun xs' hx' => ?_, fun ys' hy' => ?_⟩, ⟨s1, s2, s3, s4, s5⟩, fun b' hb' => ?_⟩
    · refine I.turnedNew keep (fun b' hb' => fp b' ?_) hT ?_
      · simp only [List.mem_cons, List.not_mem_nil, or_false] at hb' ⊢
        rcases hb' with rfl | rfl | rfl | rfl <;> simp
      · exact ⟨by show 2 ≤ sizeLine; decide, _, .cons r1 (.cons r2 .nil), tup⟩
    · rw [I.list_inj hx' hx]; exact ex
    · rw [I.tuple_inj hy' hy]; exact ey
    · have : b' < s.heap.objs.size := by
        obtain ⟨x, y, t3⟩ := t3
        obtain ⟨o4, t4, _, _⟩ := t4
        obtain ⟨o5, t5, _, _⟩ := t5
        simp only [List.mem_cons, List.not_mem_nil, or_false] at hb'
        rcases hb' with rfl | rfl | rfl | rfl | rfl
        · exact lt_of_get t1
        · exact lt_of_get t2
        · exact lt_of_get t3
        · exact lt_of_get t4
        · exact lt_of_get t5
      rw [upd_ne (Nat.ne_of_lt (Nat.lt_of_lt_of_le this hT))]
      exact (fp b' hb').1
  · rintro X rfl rfl rfl hc i pins s σ H E I fp ⟨t1, t2, t3, t4, t5⟩ ⟨xs, ys, hx, hy, rfl⟩
    obtain ⟨its1, v1, p1, _⟩ := I.list hx
    obtain ⟨its2, v2, p2, _⟩ := I.tuple hy
    have hd : X.A.in1.handled = none := I.ok.hd hc
    have G := GoesN.zip2 (elts := elts) (x1 := kk) (pos := tpos) sep (Draws.list (prog := X.prog) (w := X.w) hd i1 a h.l1i1 its1.toArray) (Draws.tuple (prog := X.prog) (w := X.w) hd i2 b h.l2i2 its2.toArray)
    have l1 := v1.length
    have l2 := v2.length
    have en : min its1.toArray.size its2.toArray.size = min xs.length ys.length := by simp; omega
    rw [en] at G
    refine G.stops s (fun s1 => L2.Inv X pins σ H s1) E ⟨t1, t2, t3, ⟨t4, p1.isList⟩, ⟨t5, p2⟩⟩ fun h' tk keep _ => ?_
    exact I.turnedL keep fun b' hb' => fp b' (by
      simp only [List.mem_cons, List.not_mem_nil, or_false] at hb' ⊢
      rcases hb' with rfl | rfl | rfl | rfl <;> simp)
  · rintro A i s Q E ⟨t1, _⟩ q
    exact wpAny_pyIter_zip t1 q

def iZipA (K : PySem.W.Frag) (ta : TA) : TI := fun σ H R => ta σ H fun vs H1 => ∃ a b xs ys, vs = [V.ref a, V.ref b] ∧
  ((SqL K H1 a xs ∧ SqL K H1 b ys ∧ R (Itz K a b) H1) ∨ (SqT K H1 a xs ∧ SqT K H1 b ys ∧ R (RZ.ItzT K a b) H1) ∨ (SqT K H1 a xs ∧ SqL K H1 b ys ∧ R (ItM K a b) H1) ∨ (SqL K H1 a xs ∧ SqT K H1 b ys ∧ R (ItN K a b) H1))
theorem pi_zipA {X : Cx} {e e2 : Expr} {ta : TA} {p pos tpos : Pos} {elts : List Expr} {kk : Nat} (hg : Gl X "zip") (hm : X.mg "zip" = none) (ha : PA X [e, e2] ta)
    (hs : starEach [e, e2] X.env = (false, eval e X.env) :: starEach [e2] X.env := by rfl) (hpl : ((backTo pos (starEach [e2] X.env)).any fun x => x.1) = false := by rfl) :
    PI X (Expr.Tuple elts kk tpos) ((Expr.Name "zip" p).Call [e, e2] [] pos) (iZipA X.K ta) := by
  refine ⟨fun pins s σ H R I h => Call_ (ld_blt I hg hm boot_zip (PyProof.Rows.callWith_type1 (thn (ha.run pos pins s σ H _ I h) ?_) hs hpl))⟩
  rintro us s1 ⟨vs, H1, I1, r1, a, b, xs, ys, rfl, q1⟩
  cases r1 with
  | cons r1 rr => cases rr with
    | cons r2 rr =>
      cases rr
      cases r1
      cases r2
      rcases q1 with ⟨hx, hy, hR⟩ | ⟨hx, hy, hR⟩ | ⟨hx, hy, hR⟩ | ⟨hx, hy, hR⟩
      · obtain ⟨its1, v1, p1, _⟩ := I1.list hx
        obtain ⟨its2, v2, p2, _⟩ := I1.list hy
        refine zip_begins2 (begins_list a its1.toArray) (begins_list b its2.toArray) p1.isList p2.isList fun h' z1 z2 z3 z4 z5 z6 z7 => wpAny_pyIter_zip z1 ?_
        exact ⟨_, _, _, _, H1, rfl, I1.kept z7, turn_zip (PySem.W.ktu_apart _ a b p1.lt p2.lt), ⟨z1, z2, ⟨_, _, z3⟩, ⟨_, z4, rfl, rfl⟩, ⟨_, z5, rfl, rfl⟩⟩, fp5 I1, hR⟩
      · obtain ⟨its1, v1, p1, _⟩ := I1.tuple hx
        obtain ⟨its2, v2, p2, _⟩ := I1.tuple hy
        refine zip_begins2 (begins_tuple a its1.toArray) (begins_tuple b its2.toArray) p1 p2 fun h' z1 z2 z3 z4 z5 z6 z7 => wpAny_pyIter_zip z1 ?_
        obtain ⟨o1, g1, _⟩ := p1
        obtain ⟨o2, g2, _⟩ := p2
        exact ⟨_, _, _, _, H1, rfl, I1.kept z7, RZ.turn_zipT (PySem.W.ktu_apart _ a b (lt_of_get g1) (lt_of_get g2)), ⟨z1, z2, ⟨_, _, z3⟩, ⟨_, z4, rfl, rfl⟩, ⟨_, z5, rfl, rfl⟩⟩, fp5 I1, hR⟩
      · obtain ⟨its1, v1, p1, _⟩ := I1.tuple hx
        obtain ⟨its2, v2, p2, _⟩ := I1.list hy
        refine zip_begins2 (begins_tuple a its1.toArray) (begins_list b its2.toArray) p1 p2.isList fun h' z1 z2 z3 z4 z5 z6 z7 => wpAny_pyIter_zip z1 ?_
        obtain ⟨o1, g1, _⟩ := p1
        exact ⟨_, _, _, _, H1, rfl, I1.kept z7, turn_zipM (PySem.W.ktu_apart _ a b (lt_of_get g1) p2.lt), ⟨z1, z2, ⟨_, _, z3⟩, ⟨_, z4, rfl, rfl⟩, ⟨_, z5, rfl, rfl⟩⟩, fp5 I1, hR⟩
      · obtain ⟨its1, v1, p1, _⟩ := I1.list hx
        obtain ⟨its2, v2, p2, _⟩ := I1.tuple hy
        refine zip_begins2 (begins_list a its1.toArray) (begins_tuple b its2.toArray) p1.isList p2 fun h' z1 z2 z3 z4 z5 z6 z7 => wpAny_pyIter_zip z1 ?_
        obtain ⟨o2, g2, _⟩ := p2
        exact ⟨_, _, _, _, H1, rfl, I1.kept z7, turn_zipN (PySem.W.ktu_apart _ a b p1.lt (lt_of_get g2)), ⟨z1, z2, ⟨_, _, z3⟩, ⟨_, z4, rfl, rfl⟩, ⟨_, z5, rfl, rfl⟩⟩, fp5 I1, hR⟩
theorem walk_zipN {K : PySem.W.Frag} {a b : Addr} {xs ys : List V} {n : Nat} (h : n = min xs.length ys.length) : Walk (ItN K a b) n (fun H => SqL K H a xs ∧ SqT K H b ys) (YPair (fun i => xs[i]?) fun i => ys[i]?) := by
  refine ⟨fun i H hi g => ?_, fun H g => ?_, fun i H x H' hi g y => ?_⟩
  · exact ⟨xs, ys, _, _, g.1, g.2, List.getElem?_eq_getElem (by omega), List.getElem?_eq_getElem (by omega)⟩
  · exact ⟨xs, ys, g.1, g.2, h⟩
  · obtain ⟨T, x1, x2, e, hT, e2, k1, k2⟩ := y
    exact ⟨T, x1, x2, e, hT, e2, k1 xs g.1, k2 ys g.2⟩

def Pr2 (H : Hp) (a b : Addr) (xs ys : List V) : Prop := ClAt H a xs ∧ ClAt H b ys
theorem Pr2.ext {H H' : Hp} {a b : Addr} {xs ys : List V} (h : Pr2 H a b xs ys) (k : Ext H H') : Pr2 H' a b xs ys := ⟨h.1.ext k, h.2.ext k⟩
theorem Pr2.c1 {H : Hp} {a b : Addr} {xs ys : List V} (h : Pr2 H a b xs ys) : ClAt H a xs := h.1
theorem Pr2.c2 {H : Hp} {a b : Addr} {xs ys : List V} (h : Pr2 H a b xs ys) : ClAt H b ys := h.2
def iZipV (i j : Nat) : TI := fun σ H R => ∃ (a b : Addr) (xs ys : List V), σ[i]? = some (some (.ref a)) ∧ σ[j]? = some (some (.ref b)) ∧ Pr2 H a b xs ys ∧ ∀ J, Walk J (min xs.length ys.length) (fun H' => H' a = H a ∧ H' b = H b) (YPair (fun i => xs[i]?) fun i => ys[i]?) → R J H
theorem iZip_ok {K : PySem.W.Frag} {i j : Nat} : ∀ (σ : L2.St) (H : Hp) (R : It → Hp → Prop), iZipV i j σ H R → iZipA K (tCons (tVar i) (tCons (tVar j) tNil)) σ H R := by
  rintro σ H R ⟨a, b, xs, ys, h1, h2, hc, k⟩
  obtain ⟨h3 | h3, h4 | h4⟩ := hc
  · exact ⟨_, h1, _, h2, a, b, xs, ys, rfl, .inl ⟨SqL.of h3, SqL.of h4, k _ (wW (walk_zip rfl) fun H' e => ⟨SqL.of (e.1.trans h3), SqL.of (e.2.trans h4)⟩)⟩⟩
  · exact ⟨_, h1, _, h2, a, b, xs, ys, rfl, .inr (.inr (.inr ⟨SqL.of h3, SqT.of h4, k _ (wW (walk_zipN rfl) fun H' e => ⟨SqL.of (e.1.trans h3), SqT.of (e.2.trans h4)⟩)⟩))⟩
  · exact ⟨_, h1, _, h2, a, b, xs, ys, rfl, .inr (.inr (.inl ⟨SqT.of h3, SqL.of h4, k _ (wW (walk_zipM rfl) fun H' e => ⟨SqT.of (e.1.trans h3), SqL.of (e.2.trans h4)⟩)⟩))⟩
  · exact ⟨_, h1, _, h2, a, b, xs, ys, rfl, .inr (.inl ⟨SqT.of h3, SqT.of h4, k _ (wW (Gv.walk_zipT rfl) fun H' e => ⟨SqT.of (e.1.trans h3), SqT.of (e.2.trans h4)⟩)⟩)⟩
end Gmm

set_option Elab.async false
set_option linter.all false
set_option maxRecDepth 100000
set_option maxHeartbeats 4000000
namespace Lw
open L2 hiding Ext
open PySem PySem.Spec PyProof.Rows Gn Gr Gk Go Gt Gf Gu
/-! ### the mathematics of what is left -/
theorem addL_is : ∀ (ns : List Str) (t : Str → Int) (z : Int) (m : Str), addL t ns z m = t m + (ns.count m : Nat) * z
  | [], t, z, m => by simp [addL]
  | n :: r, t, z, m => by
    show addL (at_ t n (t n + z)) r z m = _
    rw [addL_is r]
    by_cases e : m = n
    · subst e
      rw [at_same, List.count_cons_self]
      have : ((r.count m + 1 : Nat) : Int) * z = (r.count m : Nat) * z + z := by rw [Int.natCast_add, Int.add_mul]; simp
      omega
    · rw [at_ne e, List.count_cons_of_ne (fun h => e h.symm)]
def uStep (rs : List FRow) (t : Str → Int) (q : (Str × Int) × Int) : Str → Int := addL t (anc rs q.1.1) (-q.2)
def unsF (rs : List FRow) (bs cs : List (Str × Int)) (ps : List Int) : Str → Int := (cs.zip ps).foldl (uStep rs) (totF rs bs)
def unsT (rs : List FRow) (bs cs : List (Str × Int)) (ps : List Int) (i : Nat) : Str → Int := ((cs.zip ps).take i).foldl (uStep rs) (totF rs bs)
theorem unsT_s {rs : List FRow} {bs cs : List (Str × Int)} {ps : List Int} {i : Nat} {c : Str × Int} {z : Int} (h1 : cs[i]? = some c) (h2 : ps[i]? = some z) : unsT rs bs cs ps (i + 1) = addL (unsT rs bs cs ps i) (anc rs c.1) (-z) := by
  unfold unsT
  rw [take_snoc (zip_at h1 h2), List.foldl_append]
  rfl
theorem uns_gen (rs : List FRow) (m : Str) : ∀ (L : List ((Str × Int) × Int)) (t1 t2 : Str → Int), (L.foldl (uStep rs) t1) m = t1 m - ((L.foldl (cStep rs) t2) m - t2 m)
  | [], t1, t2 => by show t1 m = t1 m - (t2 m - t2 m); omega
  | q :: r, t1, t2 => by
    show (r.foldl (uStep rs) (uStep rs t1 q)) m = t1 m - ((r.foldl (cStep rs) (cStep rs t2 q)) m - t2 m)
    rw [uns_gen rs m r (uStep rs t1 q) (cStep rs t2 q)]
    have a := addL_is (anc rs q.1.1) t1 (-q.2) m
    have b := addL_is (anc rs q.1.1) t2 q.2 m
    rw [Int.mul_neg] at a
    unfold uStep cStep
    omega
theorem uns_is (rs : List FRow) (bs cs : List (Str × Int)) (ps : List Int) (m : Str) : unsF rs bs cs ps m = totF rs bs m - cntF rs cs ps m := by
  have := uns_gen rs m (cs.zip ps) (totF rs bs) (fun _ => 0)
  unfold unsF cntF
  rw [this]
  show _ - (_ - (0 : Int)) = _
  omega
theorem over_is (rs : List FRow) (bs cs : List (Str × Int)) (ps : List Int) : ((fNames rs).find? fun n => decide (unsF rs bs cs ps n < 0)) = overF rs bs cs ps := by
  unfold overF
  congr 1
  funext n
  rw [uns_is]
  exact decide_eq_decide.mpr ⟨fun h => by omega, fun h => by omega⟩
def SpOk (cs : List (Str × Int)) (ps : List Int) : Prop := ps.length = cs.length ∧ ∀ z ∈ ps, 0 ≤ z
section
variable {P : Program} {w : World} {K : PySem.W.Frag} {mg : Str → Option Value} {base : Heap} {C fI pN fN fA : Addr} {mc : Value} {fdN fdA : FuncData}
/-! ### check_spent -/
abbrev nCkSp : List Str := ["claims", "spent", "number"]
def spCkSp : Sp := fun vs H Q _ => ∃ (cl sl : Addr) (xs : List V) (ps : List Int), vs = [.ref cl, .ref sl] ∧ ClAt H cl xs ∧ ClAt H sl (ps.map V.int) ∧ ps.length = xs.length ∧ (∀ z ∈ ps, 0 ≤ z) ∧ ps.length ≤ 900 ∧ ∀ H', Ext H H' → Q .non H'
theorem scCkSp : FnScope nCkSp ["claims", "spent"] (defScope sCheckSpent) := ⟨rfl, rfl, rfl, by decide +kernel, rfl, by decide +kernel, by decide +kernel⟩
theorem ok_ckSp {f fJ : Addr} {fd fdJ : FuncData} (F : Fun K "check_spent" "check_spent" sCheckSpent f fd) (T : Names mg)
    (GI : FnOk P w K mg base CX0 1 fJ fdJ ["value"] spInt) (bI : Binds K fdJ ["value"] []) (kI : PySem.W.keepIn K (.ref fJ) = true) (mI : mg "is_int" = some (.ref fJ)) : FnOk P w K mg base CX0 2 f fd ["claims", "spent"] spCkSp := by
  refine F.ok scCkSp (fun vs H Q E h => ?_) (fun cdv A outer s H vs Q E hr h => ?_)
  · obtain ⟨cl, sl, xs, ps, rfl, _⟩ := h
    rfl
  · obtain ⟨cl, sl, xs, ps, rfl, hcl, hsl, hl, h0, h9, k⟩ := h
    have hu := hu_of hr
    have nd := scCkSp.nd
    refine ⟨_, pss_cons (ps_if (pt_not (pt_val (pe_callB call_isiT rfl T.isi (by decide +kernel) (pa_cons (pv 1) (pa_cons (pe_tup (pa_cons (pe_bltn (v := .ty "list") rfl T.list (by decide +kernel) rfl) (pa_cons (pe_bltn (v := .ty "tuple") rfl T.tuple (by decide +kernel) rfl) pa_nil))) pa_nil))))) (pss_never) pss_nil)
(pss_cons (ps_if (pt_cmpR op_ne (pe_callB call_len_seq rfl T.len PySem.boot_len (pa_cons (pv 1) pa_nil)) (pe_callB call_len_seq rfl T.len PySem.boot_len (pa_cons (pv 0) pa_nil)) (nomark _)) (pss_never) pss_nil)
(pss_one (ps_if (pt_not (pt_val (pe_callB (cr_all rfl) rfl T.all (by decide +kernel) (pa_cons (pe_lc (own := [("number", 2)]) (g := gName 2) (tt := tYes) rfl nd (pi_seqV (pv 1)) (blkOk_by (N := nCkSp) (sc := defScope sCheckSpent) (by decide +kernel))
(fun _ _ _ _ _ => pg_name (i := 2) nd rfl (.inl rfl)) (fun _ _ _ _ _ => pts_nil) (fun _ _ _ _ _ => (pe_and (pe_call GI hr rfl mI kI bI .nil pass0 (pa_cons (pv 2) pa_nil)) (pe_one (pe_cmpR op_ge (pv 2) pe_int (nomark _)))))) pa_nil)))) (pss_never) pss_nil))), ?_⟩
    refine ⟨_, rfl, by show 2 ≤ sizeLine; decide, fun tp htp => ?_⟩
    have k1 : Ext H (upd H tp (.tup [.ty "list", .ty "tuple"])) := Ext.new htp
    have t1 : (upd H tp (.tup [.ty "list", .ty "tuple"])) tp = some (.tup [.ty "list", .ty "tuple"]) := upd_same
    generalize upd H tp (.tup [.ty "list", .ty "tuple"]) = H1 at k1 t1 ⊢
    have c1 := hsl.ext k1
    obtain ⟨ty, hty, hkit⟩ := ty_seq (K := K) c1
    refine ⟨_, tp, _, _, [.type "list", .type "tuple"], true, rfl, t1, .cons (.ty _) (.cons (.ty _) .nil), hty, hkit, true, rfl, iteF ?_⟩
    refine ⟨_, rfl, sl, _, rfl, c1.sq, _, rfl, cl, _, rfl, (hcl.ext k1).sq, rfl, _, rfl, ?_⟩
    refine iteNS (by rw [List.length_map, hl]) ?_
    refine ⟨sl, _, rfl, c1, fun J hJ D hD => ?_⟩
    refine lc_it hJ (fun i H' => H' D = some (.lst ((List.replicate i true).map V.bl)) ∧ Ext H1 H') ⟨upd_same, Ext.new hD⟩ (fun i H' _ ⟨_, e⟩ => ?_) ?_ ?_
    · rcases c1 with h | h
      · exact (e _ _ h).trans h.symm
      · exact (e _ _ h).trans h.symm
    · rintro i y H2 H2' hi ⟨d2, k2⟩ ⟨rfl, hy⟩
      rw [List.length_map] at hi
      rw [List.getElem?_map] at hy
      obtain ⟨z, hz, rfl⟩ := Option.map_eq_some_iff.mp hy
      have z0 := h0 z (List.mem_of_getElem? hz)
      refine ⟨rfl, yes_of ?_⟩
      refine ⟨_, rfl, _, _, rfl, .inl ⟨z, rfl, rfl⟩, true, rfl, iteT ?_⟩
      refine ⟨_, rfl, _, _, rfl, rfl, ?_⟩
      have e1 : V.bl (decide ((0 : Int) ≤ z)) = V.bl true := by rw [decide_eq_true z0]
      refine ⟨_, d2, ?_, ?_, fun x o e => ?_⟩
      · rw [List.length_map, List.length_replicate]
        exact small1000 (by omega)
      · rw [upd_same, List.replicate_succ', List.map_append]
        show some (HO.lst (_ ++ [V.bl (decide ((0 : Int) ≤ z))])) = _
        rw [e1]
        rfl
      · rw [upd_ne (ne_of_none e hD)]
        exact k2 _ _ e
    rintro H2 ⟨d2, k2⟩
    refine ⟨D, _, rfl, SqL.of d2, ?_⟩
    rw [all_true]
    exact ⟨true, rfl, iteF (k H2 (k1.trans k2))⟩
/-! ### unspent, first_overdrawn -/
abbrev nUnsp : List Str := ["forest", "claims", "spent", "balances", "left", "account", "_", "amount", "name"]
def spUnsp (C : Addr) : Sp := fun vs H Q _ => ∃ (a cl sl b : Addr) (rs : List FRow) (bs cs : List (Str × Int)) (xs : List V) (ps : List Int), vs = [.ref a, .ref cl, .ref sl, .ref b] ∧ FoAt C H a rs ∧ Good rs ∧ Gmm.Pr2 H cl sl xs (ps.map V.int) ∧ CsAt H xs cs ∧ (∀ c ∈ cs, c.1 ∈ fNames rs) ∧ H b = some (.dK (dB bs)) ∧ BsN rs bs ∧
  ∀ H' q, Ext H H' → H q = none → H' q = some (.dK (dN (fNames rs) (unsF rs bs cs ps))) → Q (.ref q) H'
theorem scUnsp : FnScope nUnsp ["forest", "claims", "spent", "balances"] (defScope sUnspent) := ⟨rfl, rfl, rfl, by decide +kernel, rfl, by decide +kernel, by decide +kernel⟩
theorem ok_unsp {f fT : Addr} {fd fdT : FuncData} (F : Fun K "unspent" "unspent" sUnspent f fd) (T : Names mg) (Z : Fo P w K mg base C fI pN fN fA mc fdN fdA)
    (GT : FnOk P w K mg base CX0 4 fT fdT ["forest", "balances"] (spTotOf C)) (bT : Binds K fdT ["forest", "balances"] []) (kT : PySem.W.keepIn K (.ref fT) = true) (mT : mg "totals_of" = some (.ref fT)) :
    FnOk P w K mg base CX0 5 f fd ["forest", "claims", "spent", "balances"] (spUnsp C) := by
  refine F.ok scUnsp (fun vs H Q E h => ?_) (fun cdv A outer s H vs Q E hr h => ?_)
  · obtain ⟨a, cl, sl, b, rs, bs, cs, xs, ps, rfl, _⟩ := h
    rfl
  · obtain ⟨a, cl, sl, b, rs, bs, cs, xs, ps, rfl, hF, hG, hsk, hcs, hcn, hb, hB, k⟩ := h
    have hu := hu_of hr
    have nd := scUnsp.nd
    have hrA : Room 3 (A.deeper (envOfC "unspent" (defScope sUnspent) s.heap.objs.size f cdv)) := hr.mono (by decide)
    refine ⟨_, pss_cons (ps_set (i := 4) nd rfl (.inl rfl) (pe_call GT hr rfl mT kT bT .nil pass0 (pa_cons (pv 0) (pa_cons (pv 3) pa_nil))))
(pss_cons (ps_for PassesOwn.never rfl (wI (t' := Gmm.iZipV 1 2) (Gmm.pi_zipA rfl T.zip (pa_cons (pv 1) (pa_cons (pv 2) pa_nil))) Gmm.iZip_ok) (by exact (pg_tup rfl (pgs_cons (by exact (pg_tup rfl (pgs_cons (pg_name (i := 5) nd rfl (.inl rfl)) (pgs_cons (pg_name (i := 6) nd rfl (.inl rfl)) pgs_nil)))) (pgs_cons (pg_name (i := 7) nd rfl (.inl rfl)) pgs_nil))))
(pss_one (ps_for PassesOwn.never rfl (pi_list (pe_meth (pv 0) Z.Z.cl Z.mA Z.GA hrA Z.bA .nil pass0 (pa_cons (pv 5) pa_nil))) (pg_name (i := 8) nd rfl (.inl rfl))
(pss_one (ps_daug hu (pv 4) (pv 8) (pv 7) in_sub (fun _ _ _ => rfl))))))
(pss_one (ps_ret (pv 4)))), ?_⟩
    have hlen : (fNames rs).length ≤ 8 := by rw [fNames, List.length_map]; exact hG.2.1
    refine ⟨_, rfl, _, rfl, a, b, rs, bs, rfl, hF, hG, hb, hB, fun H1 q k1 hq0 hq => ?_⟩
    have q1 : H1 q = some (.dK (dN (fNames rs) (unsT rs bs cs ps 0))) := hq
    have keep : ∀ {H' : Hp}, ExtD q H1 H' → ∀ x o, H x = some o → H' x = some o := fun e x o hx => e x o (ne_of_none hx hq0) (k1 _ _ hx)
    refine ⟨cl, sl, xs, _, rfl, rfl, hsk.ext k1, fun J hJ => ?_⟩
    refine for_it hJ (fun i σ H' => ∃ (v5 v6 v7 v8 : Option V), σ = [some (.ref a), some (.ref cl), some (.ref sl), some (.ref b), some (.ref q), v5, v6, v7, v8] ∧ H' q = some (.dK (dN (fNames rs) (unsT rs bs cs ps i))) ∧ ExtD q H1 H')
      ⟨none, none, none, none, rfl, q1, ExtD.refl⟩ (fun i σ H' _ ⟨_, _, _, _, _, _, e⟩ => ?_) ?_ ?_
    · obtain ⟨h1 | h1, h2 | h2⟩ := hsk
      all_goals exact ⟨(keep e _ _ h1).trans (k1 _ _ h1).symm, (keep e _ _ h2).trans (k1 _ _ h2).symm⟩
    · rintro i x σ H5 H6 hi ⟨v5, v6, v7, v8, rfl, d5, k5⟩ ⟨t, x1, x2, rfl, ht, rfl, e1, e2⟩
      have e1 : xs[i]? = some x1 := e1
      have e2 : (ps.map V.int)[i]? = some x2 := e2
      obtain ⟨cc, p, hc, rfl, hp⟩ := hcs.get e1
      rw [List.getElem?_map] at e2
      obtain ⟨z, hz, rfl⟩ := Option.map_eq_some_iff.mp e2
      have hcm := hcn cc (List.mem_of_getElem? hc)
      have k6 : ExtD q H1 (upd H5 t (.tup [.ref p, .int z])) := k5.trans (ExtD.of (Ext.new ht))
      have d6 := new_same (o := .tup [.ref p, .int z]) ht _ _ d5
      have p6 := keep k6 _ _ hp
      refine ⟨t, _, rfl, SqT.of upd_same, rfl, _, _, rfl, p, _, rfl, SqT.of p6, rfl, _, _, rfl, _, _, rfl, rfl, _, _, rfl, rfl, ?_⟩
      generalize upd H5 t (.tup [.ref p, .int z]) = H6 at k6 d6 p6 ⊢
      obtain ⟨dx, q6, g1, g2⟩ := id hF
      obtain ⟨j, r, hj, hr1, hanc⟩ := anc_call hG hcm
      refine ⟨_, rfl, a, dx, _, rfl, keep k6 _ _ g1, rfl, _, rfl, a, rs, j, r, by rw [hr1]; rfl, ⟨dx, q6, keep k6 _ _ g1, keep k6 _ _ g2⟩, hG, hj, fun H7 l k7 hl0 hl => ?_⟩
      rw [hanc] at hl
      have d7 := k7 _ _ d6
      have hlq : l ≠ q := fun e => by rw [e, d6] at hl0; cases hl0
      refine ⟨l, rfl, ⟨_, SqL.of hl⟩, ?_⟩
      refine for_it walk_list (fun i' σ H' => ∃ (v8 : Option V), σ = [some (.ref a), some (.ref cl), some (.ref sl), some (.ref b), some (.ref q), some (.str cc.1), some (.int cc.2), some (.int z), v8] ∧ H' q = some (.dK (dN (fNames rs) (addL (unsT rs bs cs ps i) ((anc rs cc.1).take i') (-z)))) ∧ ExtD q H7 H')
        ⟨v8, rfl, d7, ExtD.refl⟩ (fun i' σ H' _ ⟨_, _, _, e⟩ => SqL.of (e _ _ hlq hl)) ?_ ?_
      · rintro i' y σ H8 H9 hi' ⟨v8, rfl, d8, k8⟩ ⟨rfl, hy⟩
        rw [List.getElem?_map] at hy
        obtain ⟨m, hm, rfl⟩ := Option.map_eq_some_iff.mp hy
        have hmn := anc_mem hG hcm (List.mem_of_getElem? hm)
        refine ⟨_, rfl, _, rfl, q, _, rfl, get_dN (.inl d8) hmn, _, rfl, _, _, rfl, rfl, _, put_dN d8 hmn hlen, ?_⟩
        refine ⟨_, rfl, ?_, k8.trans ExtD.at⟩
        rw [upd_same, addL_take hm, ← Int.sub_eq_add_neg]
      · rintro σ H8 ⟨v8, rfl, d8, k8⟩
        rw [List.length_map, List.take_length] at d8
        refine ⟨_, _, _, _, rfl, ?_, (k6.trans (ExtD.of k7)).trans k8⟩
        rw [unsT_s hc hz]
        exact d8
    · rintro σ H5 ⟨v5, v6, v7, v8, rfl, d5, k5⟩
      refine ⟨_, rfl, k _ q (fun x o hx => keep k5 x o hx) hq0 ?_⟩
      have e : unsT rs bs cs ps (min xs.length (ps.map V.int).length) = unsF rs bs cs ps := by
        unfold unsT unsF
        rw [List.length_map, hcs.1, ← List.length_zip, List.take_length]
      rw [← e]
      exact d5
abbrev nFirst : List Str := ["forest", "claims", "spent", "balances", "left", "name"]
def spFirst (C : Addr) : Sp := fun vs H Q _ => ∃ (a cl sl b : Addr) (rs : List FRow) (bs cs : List (Str × Int)) (xs : List V) (ps : List Int), vs = [.ref a, .ref cl, .ref sl, .ref b] ∧ FoAt C H a rs ∧ Good rs ∧ Gmm.Pr2 H cl sl xs (ps.map V.int) ∧ CsAt H xs cs ∧ (∀ c ∈ cs, c.1 ∈ fNames rs) ∧ H b = some (.dK (dB bs)) ∧ BsN rs bs ∧
  ∀ H', Ext H H' → Q (parV (overF rs bs cs ps)) H'
theorem scFirst : FnScope nFirst ["forest", "claims", "spent", "balances"] (defScope sFirstOverdrawn) := ⟨rfl, rfl, rfl, by decide +kernel, rfl, by decide +kernel, by decide +kernel⟩
theorem ok_first {f fU : Addr} {fd fdU : FuncData} (F : Fun K "first_overdrawn" "first_overdrawn" sFirstOverdrawn f fd) (T : Names mg) (Z : Fo P w K mg base C fI pN fN fA mc fdN fdA)
    (GU : FnOk P w K mg base CX0 5 fU fdU ["forest", "claims", "spent", "balances"] (spUnsp C)) (bU : Binds K fdU ["forest", "claims", "spent", "balances"] []) (kU : PySem.W.keepIn K (.ref fU) = true) (mU : mg "unspent" = some (.ref fU)) :
    FnOk P w K mg base CX0 6 f fd ["forest", "claims", "spent", "balances"] (spFirst C) := by
  refine F.ok scFirst (fun vs H Q E h => ?_) (fun cdv A outer s H vs Q E hr h => ?_)
  · obtain ⟨a, cl, sl, b, rs, bs, cs, xs, ps, rfl, _⟩ := h
    rfl
  · obtain ⟨a, cl, sl, b, rs, bs, cs, xs, ps, rfl, hF, hG, hsk, hcs, hcn, hb, hB, k⟩ := h
    have hu := hu_of hr
    have nd := scFirst.nd
    have hrN : Room 2 (A.deeper (envOfC "first_overdrawn" (defScope sFirstOverdrawn) s.heap.objs.size f cdv)) := hr.mono (by decide)
    refine ⟨_, pss_cons (ps_set (i := 4) nd rfl (.inl rfl) (pe_call GU hr rfl mU kU bU .nil pass0 (pa_cons (pv 0) (pa_cons (pv 1) (pa_cons (pv 2) (pa_cons (pv 3) pa_nil))))))
(pss_cons (ps_for PassesOwn.never rfl (pi_tup (pe_prop (pv 0) Z.Z.cl Z.hpN Z.GN hrN Z.bN .nil pass0 rfl)) (pg_name (i := 5) nd rfl (.inl rfl))
(pss_one (ps_if (pt_cmpR op_lt (pe_dget hu (pv 4) (pv 5) (fun _ _ => rfl)) pe_int (nomark _)) (pss_one (ps_ret (pv 5))) pss_nil)))
(pss_one (ps_ret pe_non))), ?_⟩
    rw [← over_is] at k
    generalize hpr : (fun n => decide (unsF rs bs cs ps n < 0)) = pr at k
    refine ⟨_, rfl, _, rfl, _, rfl, _, rfl, a, cl, sl, b, rs, bs, cs, xs, ps, rfl, hF, hG, hsk, hcs, hcn, hb, hB, fun H1 q k1 hq0 hq => ?_⟩
    obtain ⟨dx, q6, g1, g2⟩ := id (hF.ext k1)
    refine ⟨_, rfl, a, dx, _, rfl, g1, a, rs, rfl, hF.ext k1, fun H2 t k2 _ ht => ?_⟩
    refine ⟨t, rfl, ⟨_, SqT.of ht⟩, ?_⟩
    have q2 := k2 _ _ hq
    refine for_it walk_tup (fun i σ H' => ∃ (v5 : Option V), σ = [some (.ref a), some (.ref cl), some (.ref sl), some (.ref b), some (.ref q), v5] ∧ H' = H2 ∧ ((fNames rs).take i).find? pr = none)
      ⟨none, rfl, rfl, rfl⟩ (fun i σ H' _ ⟨_, _, e, _⟩ => by rw [e]; exact SqT.of ht) ?_ ?_
    · rintro i y σ H3 H3' hi ⟨v5, rfl, rfl, hno⟩ ⟨rfl, hy⟩
      rw [List.getElem?_map] at hy
      obtain ⟨n, hn, rfl⟩ := Option.map_eq_some_iff.mp hy
      have hnm := List.mem_of_getElem? hn
      refine ⟨_, rfl, _, rfl, q, _, rfl, get_dN (.inl q2) hnm, _, _, rfl, rfl, _, rfl, ?_⟩
      have ef : ((fNames rs).take (i + 1)).find? pr = if pr n = true then some n else none := by
        rw [take_snoc hn, List.find?_append, hno]
        cases h : pr n <;> simp [h]
      have en : pr n = decide (unsF rs bs cs ps n < 0) := by rw [← hpr]
      rw [← en]
      refine ite2 (fun e => ?_) (fun e => ?_)
      · refine ⟨_, rfl, ?_⟩
        have : (fNames rs).find? pr = some n := by
          rw [if_pos e] at ef
          rw [← List.take_append_drop (i + 1) (fNames rs), List.find?_append, ef]
          rfl
        rw [this] at k
        exact k _ (k1.trans k2)
      · rw [if_neg e] at ef
        exact ⟨_, rfl, rfl, ef⟩
    · rintro σ H3 ⟨v5, rfl, rfl, hno⟩
      rw [List.length_map, List.take_length] at hno
      rw [hno] at k
      exact k _ (k1.trans k2)
abbrev nTotals : List Str := ["forest", "balances"]
def spTotals (C : Addr) : Sp := fun vs H Q _ => ∃ (a b : Addr) (rs : List FRow) (bs : List (Str × Int)), vs = [.ref a, .ref b] ∧ FoAt C H a rs ∧ Good rs ∧ H b = some (.dK (dB bs)) ∧ BsOk rs bs ∧
  ∀ H' q, Ext H H' → H q = none → H' q = some (.dK (dN (fNames rs) (totF rs bs))) → Q (.ref q) H'
theorem scTotals : FnScope nTotals ["forest", "balances"] (defScope sTotals) := ⟨rfl, rfl, rfl, by decide +kernel, rfl, by decide +kernel, by decide +kernel⟩
theorem ok_totals {f fB fT : Addr} {fd fdB fdT : FuncData} (F : Fun K "totals" "totals" sTotals f fd)
    (GB : FnOk P w K mg base CX0 3 fB fdB ["forest", "balances"] (spCkBal C)) (bB : Binds K fdB ["forest", "balances"] []) (kB : PySem.W.keepIn K (.ref fB) = true) (mB : mg "check_balances" = some (.ref fB))
    (GT : FnOk P w K mg base CX0 4 fT fdT ["forest", "balances"] (spTotOf C)) (bT : Binds K fdT ["forest", "balances"] []) (kT : PySem.W.keepIn K (.ref fT) = true) (mT : mg "totals_of" = some (.ref fT)) :
    FnOk P w K mg base CX0 5 f fd ["forest", "balances"] (spTotals C) := by
  refine F.ok scTotals (fun vs H Q E h => ?_) (fun cdv A outer s H vs Q E hr h => ?_)
  · obtain ⟨a, b, rs, bs, rfl, _⟩ := h
    rfl
  · obtain ⟨a, b, rs, bs, rfl, hF, hG, hb, hB, k⟩ := h
    have nd := scTotals.nd
    have hr3 : Room 3 (A.deeper (envOfC "totals" (defScope sTotals) s.heap.objs.size f cdv)) := hr.mono (by decide)
    refine ⟨_, pss_cons (ps_expr (pe_call GB hr3 rfl mB kB bB .nil pass0 (pa_cons (pv 0) (pa_cons (pv 1) pa_nil))))
(pss_one (ps_ret (pe_call GT hr rfl mT kT bT .nil pass0 (pa_cons (pv 0) (pa_cons (pv 1) pa_nil))))), ?_⟩
    refine ⟨_, rfl, _, rfl, a, b, rs, bs, rfl, hF, hG, hb, hB, fun H1 k1 => ?_⟩
    refine ⟨_, rfl, _, rfl, a, b, rs, bs, rfl, hF.ext k1, hG, k1 _ _ hb, hB.1, fun H2 q k2 hq0 hq => ?_⟩
    exact k H2 q (k1.trans k2) (none_of k1 hq0) hq
abbrev nOver : List Str := ["forest", "claims", "spent", "balances"]
def spOver (C : Addr) : Sp := fun vs H Q _ => ∃ (a cl sl b : Addr) (rs : List FRow) (bs cs : List (Str × Int)) (xs : List V) (ps : List Int), vs = [.ref a, .ref cl, .ref sl, .ref b] ∧ FoAt C H a rs ∧ Good rs ∧ Gmm.Pr2 H cl sl xs (ps.map V.int) ∧ CsAt H xs cs ∧ CsOk rs cs ∧ SpOk cs ps ∧ H b = some (.dK (dB bs)) ∧ BsOk rs bs ∧
  ∀ H', Ext H H' → Q (parV (overF rs bs cs ps)) H'
theorem scOver : FnScope nOver ["forest", "claims", "spent", "balances"] (defScope sOverdrawn) := ⟨rfl, rfl, rfl, by decide +kernel, rfl, by decide +kernel, by decide +kernel⟩
theorem ok_over {f f2 f3 f4 f5 : Addr} {fd fd2 fd3 fd4 fd5 : FuncData} (F : Fun K "overdrawn" "overdrawn" sOverdrawn f fd)
    (GC : FnOk P w K mg base CX0 4 f2 fd2 ["forest", "claims"] (spCkClaims C)) (bC : Binds K fd2 ["forest", "claims"] []) (kC : PySem.W.keepIn K (.ref f2) = true) (mC : mg "check_claims" = some (.ref f2))
    (GS : FnOk P w K mg base CX0 2 f3 fd3 ["claims", "spent"] spCkSp) (bS : Binds K fd3 ["claims", "spent"] []) (kS : PySem.W.keepIn K (.ref f3) = true) (mS : mg "check_spent" = some (.ref f3))
    (GB : FnOk P w K mg base CX0 3 f4 fd4 ["forest", "balances"] (spCkBal C)) (bB : Binds K fd4 ["forest", "balances"] []) (kB : PySem.W.keepIn K (.ref f4) = true) (mB : mg "check_balances" = some (.ref f4))
    (GF : FnOk P w K mg base CX0 6 f5 fd5 ["forest", "claims", "spent", "balances"] (spFirst C)) (bF : Binds K fd5 ["forest", "claims", "spent", "balances"] []) (kF : PySem.W.keepIn K (.ref f5) = true) (mF : mg "first_overdrawn" = some (.ref f5)) :
    FnOk P w K mg base CX0 7 f fd ["forest", "claims", "spent", "balances"] (spOver C) := by
  refine F.ok scOver (fun vs H Q E h => ?_) (fun cdv A outer s H vs Q E hr h => ?_)
  · obtain ⟨a, cl, sl, b, rs, bs, cs, xs, ps, rfl, _⟩ := h
    rfl
  · obtain ⟨a, cl, sl, b, rs, bs, cs, xs, ps, rfl, hF, hG, hsk, hcs, hco, ⟨hpl, hp0⟩, hb, hB, k⟩ := h
    have nd := scOver.nd
    have hr2 : Room 2 (A.deeper (envOfC "overdrawn" (defScope sOverdrawn) s.heap.objs.size f cdv)) := hr.mono (by decide)
    have hr3 : Room 3 (A.deeper (envOfC "overdrawn" (defScope sOverdrawn) s.heap.objs.size f cdv)) := hr.mono (by decide)
    have hr4 : Room 4 (A.deeper (envOfC "overdrawn" (defScope sOverdrawn) s.heap.objs.size f cdv)) := hr.mono (by decide)
    refine ⟨_, pss_cons (ps_expr (pe_call GC hr4 rfl mC kC bC .nil pass0 (pa_cons (pv 0) (pa_cons (pv 1) pa_nil))))
(pss_cons (ps_expr (pe_call GS hr2 rfl mS kS bS .nil pass0 (pa_cons (pv 1) (pa_cons (pv 2) pa_nil))))
(pss_cons (ps_expr (pe_call GB hr3 rfl mB kB bB .nil pass0 (pa_cons (pv 0) (pa_cons (pv 3) pa_nil))))
(pss_one (ps_ret (pe_call GF hr rfl mF kF bF .nil pass0 (pa_cons (pv 0) (pa_cons (pv 1) (pa_cons (pv 2) (pa_cons (pv 3) pa_nil))))))))), ?_⟩
    have c20 := hco.1
    refine ⟨_, rfl, _, rfl, a, cl, rs, cs, xs, rfl, hF, hG, hsk.c1, hcs, hco, fun H1 k1 => ?_⟩
    refine ⟨_, rfl, _, rfl, cl, sl, xs, ps, rfl, hsk.c1.ext k1, hsk.c2.ext k1, by rw [hpl, hcs.1], hp0, by omega, fun H2 k2 => ?_⟩
    have k2 := k1.trans k2
    refine ⟨_, rfl, _, rfl, a, b, rs, bs, rfl, hF.ext k2, hG, k2 _ _ hb, hB, fun H3 k3 => ?_⟩
    have k3 := k2.trans k3
    exact ⟨_, rfl, _, rfl, _, rfl, _, rfl, a, cl, sl, b, rs, bs, cs, xs, ps, rfl, hF.ext k3, hG, hsk.ext k3, hcs.ext k3, fun q hq => (hco.2 q hq).1, k3 _ _ hb, hB.1, fun H4 k4 => k _ (k3.trans k4)⟩
end
end Lw

set_option Elab.async false
set_option linter.all false
set_option maxRecDepth 100000
set_option maxHeartbeats 4000000
namespace Lw
open L2 hiding Ext
open PySem PySem.Spec PyProof.Rows Gn Gr Gk Go Gt Gf Gu
/-! ### what repr says of claims and balances -/
def cD (c : Str × Int) : PyData := .tuple [.str c.1, .int c.2]
def bD (bs : List (Str × Int)) : PyData := .dict (bs.map fun p => (.str p.1, .int p.2))
theorem dr_claims {H : Hp} : ∀ {xs : List V} {cs : List (Str × Int)}, CsAt H xs cs → DrAll H xs (cs.map cD)
  | [], [], _ => .nil
  | [], _ :: _, h => by have := h.1; simp at this
  | _ :: _, [], h => by have := h.1; simp at this
  | x :: xs, c :: cs, h => by
    obtain ⟨p, h1, h2⟩ := h.2 0 c rfl
    have h1 : some x = some (V.ref p) := h1
    cases h1
    exact .cons (.tup h2 (.cons (.str _) (.cons (.int _) .nil))) (dr_claims ⟨by have := h.1; simpa using this, fun i c' hc => h.2 (i + 1) c' (by simpa using hc)⟩)
theorem dr_bal {H : Hp} : ∀ (bs : List (Str × Int)), DrKv H (dB bs) (bs.map fun p => (.str p.1, .int p.2))
  | [] => .nil
  | p :: r => .cons (k := Sum.inr p.1) (.int _) (dr_bal r)
def Small (d : PyData) : Prop := d.showable = true ∧ d.depth ≤ 60 ∧ d.shown.length ≤ sizeLine
theorem ok_cD {c : Str × Int} (h1 : nameOk c.1 = true) (h2 : c.2.natAbs < 10 ^ 20) : Ok 1 (cD c) := ok_tuple (fun x hx => by
  rcases List.mem_cons.mp hx with rfl | hx
  · exact ok_str (name_asc19 h1)
  · rw [List.mem_singleton.mp hx]
    exact Gk.ok_int h2) (by show 2 ≤ 2; omega)
theorem small_claims {cs : List (Str × Int)} (hl : cs.length ≤ 100) (h : ∀ c ∈ cs, nameOk c.1 = true ∧ c.2.natAbs < 10 ^ 20) : Small (.list (cs.map cD)) := by
  obtain ⟨b1, b2, b3, b4⟩ := ok_all (n := 1) (ds := cs.map cD) fun x hx => by
    obtain ⟨c, hc, rfl⟩ := List.mem_map.mp hx
    exact ok_cD (h c hc).1 (h c hc).2
  have t := listText_len_le (PyData.shownAll (cs.map cD))
  rw [List.length_map] at b3 b4
  refine ⟨by simp only [PyData.showable, b1], by simp only [PyData.depth]; omega, ?_⟩
  simp only [PyData.shown]
  rw [sizeLine_eq]
  have e : cs.length * (200 * 4 ^ 1) ≤ 100 * (200 * 4 ^ 1) := Nat.mul_le_mul_right _ hl
  omega
theorem small_bal {bs : List (Str × Int)} (hl : bs.length ≤ 100) (h : ∀ c ∈ bs, nameOk c.1 = true ∧ c.2.natAbs < 10 ^ 20) : Small (bD bs) := by
  obtain ⟨b1, b2, b3, b4⟩ := ok_kvs (n := 0) (ds := bs.map fun p => (PyData.str p.1, PyData.int p.2)) fun x hx => by
    obtain ⟨c, hc, rfl⟩ := List.mem_map.mp hx
    exact ⟨⟨_, rfl, name_asc19 (h c hc).1⟩, Gk.ok_int (h c hc).2⟩
  have t := dictText_len_le (PyData.shownKv (bs.map fun p => (PyData.str p.1, PyData.int p.2)))
  rw [List.length_map] at b3 b4
  refine ⟨by simp only [bD, PyData.showable, b1], by simp only [bD, PyData.depth]; omega, ?_⟩
  simp only [bD, PyData.shown]
  rw [sizeLine_eq]
  have e : bs.length * (194 + 200 * 4 ^ 0) ≤ 100 * (194 + 200 * 4 ^ 0) := Nat.mul_le_mul_right _ hl
  omega
/-! ### what stands while draws go on -/
theorem FoAt.kp {C a d g c : Addr} {ns : List Int} {b : Nat} {H H' : Hp} {rs : List FRow} (h : FoAt C H a rs) (G : Good rs) (D : Dw ns d g c b H) (k : Kp d g H H') : FoAt C H' a rs := by
  obtain ⟨⟨gs, l, t, hd, hg, _, _⟩, _⟩ := D
  obtain ⟨dx, q, h1, h2⟩ := h
  refine ⟨dx, q, k _ _ (ne_of h1 hd (by intro z; cases z)) (ne_of h1 hg (by intro z; cases z)) h1, k _ _ (fun e => ?_) (ne_of h2 hg (by intro z; cases z)) h2⟩
  rw [e, hd] at h2
  injection h2 with h2
  injection h2 with h2
  cases rs with
  | nil => have := G.1; simp at this
  | cons r rs =>
    have h3 : (kG, V.ref g) = ((Sum.inr r.1 : Key), parV r.2) := (List.cons.inj h2).1
    have h4 : V.ref g = parV r.2 := (Prod.mk.inj h3).2
    cases e2 : r.2 with
    | none => rw [e2] at h4; cases h4
    | some m => rw [e2] at h4; cases h4
structure Gd3 (C : Addr) (H : Hp) (lr y ln : Addr) (rx : List V) (rs : List FRow) : Prop where
  r : H lr = some (.lst rx)
  R : RowsAt H rx rs
  F : FoAt C H y rs
  n : H ln = some (.lst ((fNames rs).map V.str))
theorem Gd3.ext {C : Addr} {H H' : Hp} {lr y ln : Addr} {rx : List V} {rs : List FRow} (h : Gd3 C H lr y ln rx rs) (k : Ext H H') : Gd3 C H' lr y ln rx rs := ⟨k _ _ h.r, h.R.ext k, h.F.ext k, k _ _ h.n⟩
theorem Gd3.kp {C : Addr} {ns : List Int} {d g c : Addr} {b : Nat} {H H' : Hp} {lr y ln : Addr} {rx : List V} {rs : List FRow} (h : Gd3 C H lr y ln rx rs) (G : Good rs) (D : Dw ns d g c b H) (k : Kp d g H H') (h1 : lr ≠ d) (h2 : lr ≠ g) (h3 : ln ≠ d) (h4 : ln ≠ g) : Gd3 C H' lr y ln rx rs :=
  ⟨k _ _ h1 h2 h.r, h.R.kp D k, h.F.kp G D k, k _ _ h3 h4 h.n⟩
theorem good_names {rs : List FRow} (G : Good rs) : fNames rs ≠ [] ∧ (fNames rs).length ≤ 8 ∧ (∀ x ∈ fNames rs, nameOk x = true) ∧ (fNames rs).Nodup := by
  have l : (fNames rs).length = rs.length := by unfold fNames; rw [List.length_map]
  refine ⟨fun e => ?_, by rw [l]; exact G.2.1, fun x hx => ?_, (good_nodup G.2.2).1⟩
  · rw [e] at l
    have := G.1
    simp at l
    omega
  · obtain ⟨r, hr, rfl⟩ := List.mem_map.mp hx
    exact (good_mem G.2.2 hr).1
theorem dp_intl {K : PySem.W.Frag} {H : Hp} {a : Addr} {ns : List Int} (h : H a = some (.lst (ns.map V.int))) : Dp K H (.ref a) (.list (ns.map PyData.int)) := .lst (SqL.of h) (dp_ints ns)
theorem eqv_same {d : PyData} (h : SeqAt.shaped d = true) : PyData.eqv d d = true := by
  rw [SeqAt.eqv_refl]
  exact SeqAt.canLay_of_shaped h
/-- five keywords in the other order -/
def gR5 : List Value → List Value → List Value
  | [], [a, b, c, d, e] => [e, d, c, b, a]
  | _, _ => []
def gR5V : List V → List V → List V
  | [], [a, b, c, d, e] => [e, d, c, b, a]
  | _, _ => []
theorem kb_rev5 {K : PySem.W.Frag} {fd : FuncData} {y1 y2 y3 y4 y5 : Str} (b : ∀ (s : Shared) (u1 u2 u3 u4 u5 : Value), BindsTo s fd ⟨[], [(y1, u1), (y2, u2), (y3, u3), (y4, u4), (y5, u5)]⟩ [(y5, u5), (y4, u4), (y3, u3), (y2, u2), (y1, u1)]) :
    KBinds K fd [y5, y4, y3, y2, y1] [y1, y2, y3, y4, y5] gR5 gR5V := by
  refine ⟨fun s us ws _ hl => ?_, fun r q => ?_⟩
  · match us, ws, hl with
    | [], [u1, u2, u3, u4, u5], _ => exact b s u1 u2 u3 u4 u5
    | [], [], hl => cases hl
    | [], [_], hl => cases hl
    | [], [_, _], hl => cases hl
    | [], [_, _, _], hl => cases hl
    | [], [_, _, _, _], hl => cases hl
    | [], _ :: _ :: _ :: _ :: _ :: _ :: _, hl => cases hl
    | _ :: _, _, hl => cases hl
  · cases r with
    | cons _ _ => exact .nil
    | nil =>
      cases q with
      | nil => exact .nil
      | cons q1 q => cases q with
        | nil => exact .nil
        | cons q2 q => cases q with
          | nil => exact .nil
          | cons q3 q => cases q with
            | nil => exact .nil
            | cons q4 q => cases q with
              | nil => exact .nil
              | cons q5 q => cases q with
                | nil => exact .cons q5 (.cons q4 (.cons q3 (.cons q2 (.cons q1 .nil))))
                | cons _ _ => exact .nil
theorem nm_last {ws : List Str} (h1 : ws ≠ []) : ∃ w9, atI (ws.map V.str) (-1) = some (.str w9) ∧ w9 ∈ ws := by
  rcases List.eq_nil_or_concat ws with e | ⟨r', w', e⟩
  · exact absurd e h1
  · refine ⟨w', ?_, by rw [e, List.concat_eq_append]; exact List.mem_append.mpr (.inr (List.mem_singleton.mpr rfl))⟩
    rw [e, List.concat_eq_append, List.map_append]
    exact atI_last _ _
/-- two keywords in the other order -/
def gSw : List Value → List Value → List Value
  | [], [x, y] => [y, x]
  | _, _ => []
def gSwV : List V → List V → List V
  | [], [x, y] => [y, x]
  | _, _ => []
theorem kb_swap {K : PySem.W.Frag} {fd : FuncData} {y z : Str} (b : ∀ (s : Shared) (u v : Value), BindsTo s fd ⟨[], [(y, u), (z, v)]⟩ [(z, v), (y, u)]) : KBinds K fd [z, y] [y, z] gSw gSwV := by
  refine ⟨fun s us ws _ hl => ?_, fun r q => ?_⟩
  · match us, ws, hl with
    | [], [u, v], _ => exact b s u v
    | [], [], hl => cases hl
    | [], [_], hl => cases hl
    | [], _ :: _ :: _ :: _, hl => cases hl
    | _ :: _, _, hl => cases hl
  · cases r with
    | nil =>
      cases q with
      | nil => exact .nil
      | cons q1 q2 =>
        cases q2 with
        | nil => exact .nil
        | cons q2 q3 =>
          cases q3 with
          | nil => exact .cons q2 (.cons q1 .nil)
          | cons _ _ => exact .nil
    | cons _ _ => exact .nil
/-- three keywords in the other order -/
def gR3 : List Value → List Value → List Value
  | [], [a, b, c] => [c, b, a]
  | _, _ => []
def gR3V : List V → List V → List V
  | [], [a, b, c] => [c, b, a]
  | _, _ => []
theorem kb_rev3 {K : PySem.W.Frag} {fd : FuncData} {y1 y2 y3 : Str} (b : ∀ (s : Shared) (u1 u2 u3 : Value), BindsTo s fd ⟨[], [(y1, u1), (y2, u2), (y3, u3)]⟩ [(y3, u3), (y2, u2), (y1, u1)]) :
    KBinds K fd [y3, y2, y1] [y1, y2, y3] gR3 gR3V := by
  refine ⟨fun s us ws _ hl => ?_, fun r q => ?_⟩
  · match us, ws, hl with
    | [], [u1, u2, u3], _ => exact b s u1 u2 u3
    | [], [], hl => cases hl
    | [], [_], hl => cases hl
    | [], [_, _], hl => cases hl
    | [], _ :: _ :: _ :: _ :: _, hl => cases hl
    | _ :: _, _, hl => cases hl
  · cases r with
    | cons _ _ => exact .nil
    | nil =>
      cases q with
      | nil => exact .nil
      | cons q1 q => cases q with
        | nil => exact .nil
        | cons q2 q => cases q with
          | nil => exact .nil
          | cons q3 q => cases q with
            | nil => exact .cons q3 (.cons q2 (.cons q1 .nil))
            | cons _ _ => exact .nil
/-- the words (c, d, b, a) for the parameters (a, b, c, d) -/
def gP4 : List Value → List Value → List Value
  | [], [c, d, b, a] => [a, b, c, d]
  | _, _ => []
def gP4V : List V → List V → List V
  | [], [c, d, b, a] => [a, b, c, d]
  | _, _ => []
theorem kb_p4 {K : PySem.W.Frag} {fd : FuncData} {ya yb yc yd : Str} (b : ∀ (s : Shared) (uc ud ub ua : Value), BindsTo s fd ⟨[], [(yc, uc), (yd, ud), (yb, ub), (ya, ua)]⟩ [(ya, ua), (yb, ub), (yc, uc), (yd, ud)]) :
    KBinds K fd [ya, yb, yc, yd] [yc, yd, yb, ya] gP4 gP4V := by
  refine ⟨fun s us ws _ hl => ?_, fun r q => ?_⟩
  · match us, ws, hl with
    | [], [u1, u2, u3, u4], _ => exact b s u1 u2 u3 u4
    | [], [], hl => cases hl
    | [], [_], hl => cases hl
    | [], [_, _], hl => cases hl
    | [], [_, _, _], hl => cases hl
    | [], _ :: _ :: _ :: _ :: _ :: _, hl => cases hl
    | _ :: _, _, hl => cases hl
  · cases r with
    | cons _ _ => exact .nil
    | nil =>
      cases q with
      | nil => exact .nil
      | cons q1 q => cases q with
        | nil => exact .nil
        | cons q2 q => cases q with
          | nil => exact .nil
          | cons q3 q => cases q with
            | nil => exact .nil
            | cons q4 q => cases q with
              | nil => exact .cons q4 (.cons q3 (.cons q1 (.cons q2 .nil)))
              | cons _ _ => exact .nil
/-! ### one balance put into the dict -/
def putB (bs : List (Str × Int)) (n : Str) (z : Int) : List (Str × Int) := if n ∈ bs.map (·.1) then bs.map (fun p => if p.1 = n then (p.1, z) else p) else bs ++ [(n, z)]
theorem dB_put (bs : List (Str × Int)) (n : Str) (z : Int) : putK (dB bs) (Sum.inr n : Key) (.int z) = dB (putB bs n z) := by
  unfold putB
  by_cases h : n ∈ bs.map (·.1)
  · rw [if_pos h]
    have e : ((dB bs).any fun kv => decide (kv.1 = (Sum.inr n : Key))) = true := by
      obtain ⟨p, hp, rfl⟩ := List.mem_map.mp h
      unfold dB
      rw [List.any_map, List.any_eq_true]
      exact ⟨p, hp, by simp⟩
    unfold putK
    rw [if_pos e]
    unfold dB
    rw [List.map_map, List.map_map]
    refine List.map_congr_left fun p hp => ?_
    show (if (Sum.inr p.1 : Key) = Sum.inr n then ((Sum.inr p.1 : Key), V.int z) else ((Sum.inr p.1 : Key), V.int p.2)) = _
    by_cases em : p.1 = n
    · rw [if_pos (by rw [em])]
      show _ = ((Sum.inr (if p.1 = n then (p.1, z) else p).1 : Key), V.int (if p.1 = n then (p.1, z) else p).2)
      rw [if_pos em]
    · rw [if_neg (fun q => em (Sum.inr.inj q))]
      show _ = ((Sum.inr (if p.1 = n then (p.1, z) else p).1 : Key), V.int (if p.1 = n then (p.1, z) else p).2)
      rw [if_neg em]
  · rw [if_neg h, putK_new _ (dB_none h)]
    unfold dB
    rw [List.map_append]
    rfl
theorem putB_keys (bs : List (Str × Int)) (n : Str) (z : Int) : (putB bs n z).map (·.1) = if n ∈ bs.map (·.1) then bs.map (·.1) else bs.map (·.1) ++ [n] := by
  unfold putB
  by_cases h : n ∈ bs.map (·.1)
  · rw [if_pos h, if_pos h, List.map_map]
    refine List.map_congr_left fun p hp => ?_
    show (if p.1 = n then (p.1, z) else p).1 = p.1
    by_cases e : p.1 = n
    · rw [if_pos e]
    · rw [if_neg e]
  · rw [if_neg h, if_neg h, List.map_append]
    rfl
theorem putB_mem {bs : List (Str × Int)} {n : Str} {z : Int} {q : Str × Int} (h : q ∈ putB bs n z) : q = (n, z) ∨ q ∈ bs := by
  unfold putB at h
  by_cases hn : n ∈ bs.map (·.1)
  · rw [if_pos hn] at h
    obtain ⟨p, hp, rfl⟩ := List.mem_map.mp h
    by_cases e : p.1 = n
    · rw [if_pos e, e]; exact .inl rfl
    · rw [if_neg e]; exact .inr hp
  · rw [if_neg hn] at h
    rcases List.mem_append.mp h with h | h
    · exact .inr h
    · exact .inl (List.mem_singleton.mp h)
theorem putB_ok {rs : List FRow} {bs : List (Str × Int)} {n : Str} {z : Int} (h : BsOk rs bs) (hn : n ∈ fNames rs) (z0 : 0 ≤ z) (z1 : z ≤ 1000000000000) : BsOk rs (putB bs n z) := by
  obtain ⟨⟨h1, h2⟩, h3⟩ := h
  refine ⟨⟨?_, fun q hq => ?_⟩, fun q hq => ?_⟩
  · rw [putB_keys]
    by_cases e : n ∈ bs.map (·.1)
    · rw [if_pos e]; exact h1
    · rw [if_neg e]
      refine List.nodup_append.mpr ⟨h1, by simp, fun a ha a' ha' => ?_⟩
      rw [List.mem_singleton] at ha'
      subst ha'
      exact fun q => e (q ▸ ha)
  · rcases putB_mem hq with rfl | hq
    · exact hn
    · exact h2 q hq
  · rcases putB_mem hq with rfl | hq
    · exact ⟨z0, z1⟩
    · exact h3 q hq
theorem bs_len {rs : List FRow} {bs : List (Str × Int)} (G : Good rs) (h : BsN rs bs) : bs.length ≤ 8 := by
  have l8 := (good_names G).2.1
  have := List.Nodup.length_le_of_subset h.1 (fun x hx => by
    obtain ⟨q, hq, rfl⟩ := List.mem_map.mp hx
    exact h.2 q hq : ∀ x ∈ bs.map (·.1), x ∈ fNames rs)
  rw [List.length_map] at this
  omega
theorem CsAt.take {H : Hp} {vs : List V} {cs : List (Str × Int)} (h : CsAt H vs cs) (k : Nat) : CsAt H (vs.take k) (cs.take k) := by
  refine ⟨by rw [List.length_take, List.length_take, h.1], fun i c hc => ?_⟩
  by_cases hik : i < k
  · rw [List.getElem?_take_of_lt hik] at hc ⊢
    exact h.2 i c hc
  · rw [List.getElem?_eq_none (by rw [List.length_take]; omega)] at hc
    cases hc
theorem take_set {α : Type} : ∀ (l : List α) (i : Nat) (x : α), i < l.length → l.take i ++ [x] ++ l.drop (i + 1) = l.set i x
  | [], i, x, h => by simp at h
  | a :: r, 0, x, _ => rfl
  | a :: r, i + 1, x, h => by
    show a :: (r.take i ++ [x] ++ r.drop (i + 1)) = a :: r.set i x
    rw [take_set r i x (by simpa using h)]
theorem cut_take (xs : List V) (i : Nat) (h : i ≤ xs.length) : cutV xs none (some (i : Nat)) = xs.take i := by
  unfold cutV
  have e : HT.sIx xs.length xs.length (some ((i : Nat) : Int)) = min i xs.length := HT.sIx_nat _ _ _
  rw [e]
  have e0 : HT.sIx xs.length 0 none = 0 := rfl
  rw [e0, Nat.min_eq_left h]
  rfl
/-- a dict's items, as data -/
def iD (q : Str × Int) : PyData := .tuple [.str q.1, .int q.2]
theorem dp_items {K : PySem.W.Frag} {H : Hp} {t : Str → Int} : ∀ {ts : List Addr} {ns : List Str}, Paired (fun a q => H a = some (.tup [kV q.1, q.2])) ts (dN ns t) → DpAll K H (ts.map V.ref) (ns.map fun n => iD (n, t n))
  | [], [], _ => .nil
  | [], _ :: _, h => by cases h
  | _ :: _, [], h => by cases h
  | a :: ts, n :: ns, h => by
    cases h with
    | cons h1 h2 => exact .cons (.tup (SqT.of h1) (.cons (.str _) (.cons (.int _) .nil))) (dp_items h2)
theorem iD_lay {q : Str × Int} (h : PyData.strOk q.1 = true) : (iD q).canLay0 = true ∧ (iD q).depth ≤ 2 := by
  constructor
  · simp [iD, PyData.canLay0, PyData.canLayAll0, h]
  · simp only [iD, PyData.depth, PyData.depthAll]; omega
theorem lay_items {t : Str → Int} : ∀ {ns : List Str}, (∀ n ∈ ns, PyData.strOk n = true) → PyData.canLayAll0 (ns.map fun n => iD (n, t n)) = true ∧ PyData.depthAll (ns.map fun n => iD (n, t n)) ≤ 2
  | [], _ => by constructor <;> simp [PyData.canLayAll0, PyData.depthAll]
  | n :: r, h => by
    obtain ⟨a1, a2⟩ := iD_lay (q := (n, t n)) (h n (List.mem_cons_self ..))
    obtain ⟨b1, b2⟩ := lay_items (t := t) (ns := r) fun y hy => h y (List.mem_cons_of_mem _ hy)
    constructor
    · simp [PyData.canLayAll0, a1, b1]
    · simp only [List.map_cons, PyData.depthAll]; omega
theorem shaped_items {t : Str → Int} {ns : List Str} (h : ∀ n ∈ ns, PyData.strOk n = true) : SeqAt.shaped (.list (ns.map fun n => iD (n, t n))) = true := by
  obtain ⟨b1, b2⟩ := lay_items (t := t) h
  have e : PyData.depth (.list (ns.map fun n => iD (n, t n))) = PyData.depthAll (ns.map fun n => iD (n, t n)) + 1 := by simp only [PyData.depth]
  unfold SeqAt.shaped
  rw [e]
  simp only [PyData.canLay0, b1, Bool.true_and, decide_eq_true_eq]
  omega
theorem dN_same {ns : List Str} {t : Str → Int} : ∀ p ∈ dN ns t, valV (dN ns t) p.1 = some p.2 ∧ flatB p.2 = true := fun p hp => by
  unfold dN at hp
  obtain ⟨n, hn, rfl⟩ := List.mem_map.mp hp
  exact ⟨dN_get hn, rfl⟩
end Lw

set_option Elab.async false
set_option linter.all false
set_option maxRecDepth 100000
set_option maxHeartbeats 4000000
namespace Lw
open L2 hiding Ext
open PySem PySem.Spec PyProof.Rows Gn Gr Gk Go Gt Gf Gu
/-! ### the mathematics of the greatest entitlements -/
theorem gadd_is : ∀ (ns : List Str) (t : Str → Int) (z : Int) (m : Str), addL t ns z m = t m + (ns.count m : Nat) * z
  | [], t, z, m => by simp [addL]
  | n :: r, t, z, m => by
    show addL (at_ t n (t n + z)) r z m = _
    rw [gadd_is r]
    by_cases e : m = n
    · subst e
      rw [at_same, List.count_cons_self]
      have : ((r.count m + 1 : Nat) : Int) * z = (r.count m : Nat) * z + z := by rw [Int.natCast_add, Int.add_mul]; simp
      omega
    · rw [at_ne e, List.count_cons_of_ne (fun h => e h.symm)]
theorem count_one {m : Str} : ∀ {l : List Str}, l.Nodup → m ∈ l → l.count m = 1
  | [], _, h => by cases h
  | n :: r, hn, h => by
    obtain ⟨h1, h2⟩ := List.nodup_cons.mp hn
    by_cases e : m = n
    · subst e
      rw [List.count_cons_self, List.count_eq_zero_of_not_mem h1]
    · rw [List.count_cons_of_ne (fun h => e h.symm)]
      exact count_one h2 ((List.mem_cons.mp h).resolve_left e)
theorem ancF_idx {rs : List FRow} (g : GoodF [] rs) : ∀ (k j : Nat) (r : FRow), rs[j]? = some r → ∀ m ∈ ancF rs k r.1, ∃ (j' : Nat) (r' : FRow), j' ≤ j ∧ rs[j']? = some r' ∧ r'.1 = m
  | 0, _, _, _, m, hm => by cases hm
  | k + 1, j, r, hj, m, hm => by
    rw [ancF_s, parOf_at (good_nodup g).1 (List.mem_of_getElem? hj)] at hm
    rcases List.mem_cons.mp hm with rfl | hm
    · exact ⟨j, r, Nat.le_refl _, hj, rfl⟩
    · cases e : r.2 with
      | none => rw [e] at hm; cases hm
      | some p =>
        rw [e] at hm
        obtain ⟨j1, r1, h1, h2, rfl⟩ := par_idx g hj e
        obtain ⟨j2, r2, h3, h4, h5⟩ := ancF_idx g k j1 r1 h2 m hm
        exact ⟨j2, r2, by omega, h4, h5⟩
theorem row_idx {rs : List FRow} (h : (fNames rs).Nodup) {i j : Nat} {r r' : FRow} (hi : rs[i]? = some r) (hj : rs[j]? = some r') (e : r.1 = r'.1) : i = j := by
  have a : (fNames rs)[i]? = some r.1 := by unfold fNames; rw [List.getElem?_map, hi]; rfl
  have b : (fNames rs)[j]? = some r.1 := by unfold fNames; rw [List.getElem?_map, hj]; rw [e]; rfl
  have il := (List.getElem?_eq_some_iff.mp a).1
  exact (List.getElem?_inj il h).mp (a.trans b.symm)
theorem ancF_nodup {rs : List FRow} (g : GoodF [] rs) : ∀ (k j : Nat) (r : FRow), rs[j]? = some r → (ancF rs k r.1).Nodup
  | 0, _, _, _ => List.nodup_nil
  | k + 1, j, r, hj => by
    rw [ancF_s, parOf_at (good_nodup g).1 (List.mem_of_getElem? hj)]
    cases e : r.2 with
    | none => exact List.nodup_cons.mpr ⟨(by intro h; cases h), List.nodup_nil⟩
    | some p =>
      obtain ⟨j1, r1, h1, h2, rfl⟩ := par_idx g hj e
      refine List.nodup_cons.mpr ⟨fun h => ?_, ancF_nodup g k j1 r1 h2⟩
      obtain ⟨j2, r2, h3, h4, h5⟩ := ancF_idx g k j1 r1 h2 _ h
      have := row_idx (good_nodup g).1 h4 hj h5
      omega
theorem anc_nodup {rs : List FRow} (g : Good rs) {n : Str} (h : n ∈ fNames rs) : (anc rs n).Nodup := by
  obtain ⟨r, hr, rfl⟩ := List.mem_map.mp h
  obtain ⟨i, hi⟩ := List.mem_iff_getElem?.mp hr
  exact ancF_nodup g.2.2 8 i r hi
theorem anc_count {rs : List FRow} (g : Good rs) {n m : Str} (h : n ∈ fNames rs) : ((m ∈ anc rs n) ∧ (anc rs n).count m = 1) ∨ ((m ∉ anc rs n) ∧ (anc rs n).count m = 0) := by
  by_cases hm : m ∈ anc rs n
  · exact .inl ⟨hm, count_one (anc_nodup g h) hm⟩
  · exact .inr ⟨hm, List.count_eq_zero_of_not_mem hm⟩
theorem totF_pos {rs : List FRow} {bs : List (Str × Int)} (h : ∀ p ∈ bs, 0 ≤ p.2) (m : Str) : 0 ≤ totF rs bs m := by
  unfold totF
  suffices k : ∀ (l : List (Str × Int)) (t : Str → Int), (∀ p ∈ l, 0 ≤ p.2) → 0 ≤ t m → 0 ≤ (l.foldl (fun t p => addL t (anc rs p.1) p.2) t) m from k bs _ h (Int.le_refl _)
  intro l
  induction l with
  | nil => intro t _ ht; exact ht
  | cons p r ih =>
    intro t hp ht
    refine ih _ (fun q hq => hp q (List.mem_cons_of_mem _ hq)) ?_
    show 0 ≤ addL t (anc rs p.1) p.2 m
    rw [gadd_is]
    have := Int.mul_nonneg (Int.natCast_nonneg ((anc rs p.1).count m)) (hp p (List.mem_cons_self ..))
    omega
theorem cntF_snoc {rs : List FRow} {cs : List (Str × Int)} {ps : List Int} {c : Str × Int} {z : Int} (h : cs.length = ps.length) : cntF rs (cs ++ [c]) (ps ++ [z]) = addL (cntF rs cs ps) (anc rs c.1) z := by
  unfold cntF
  rw [List.zip_append h, List.foldl_append]
  rfl
abbrev eAt_ (rs : List FRow) (bs cs : List (Str × Int)) (i : Nat) := eRun rs (totF rs bs) (cs.take i)
theorem eAt_len {rs : List FRow} {bs cs : List (Str × Int)} {i : Nat} (h : i ≤ cs.length) : (eAt_ rs bs cs i).2.length = i := by
  unfold eAt_ eRun
  rw [eRun_len, List.length_take]
  simp
  omega
theorem run_cnt {rs : List FRow} {bs cs : List (Str × Int)} (m : Str) : ∀ i, i ≤ cs.length → (eAt_ rs bs cs i).1 m = totF rs bs m - cntF rs (cs.take i) (eAt_ rs bs cs i).2 m
  | 0, _ => by
    show totF rs bs m = totF rs bs m - 0
    omega
  | i + 1, h => by
    have hc := List.getElem?_eq_getElem (l := cs) (i := i) (by omega)
    have ih := run_cnt (rs := rs) (bs := bs) (cs := cs) m i (by omega)
    have e := eRun_take (rs := rs) (t := totF rs bs) hc
    have l := eAt_len (rs := rs) (bs := bs) (cs := cs) (i := i) (by omega)
    unfold eAt_ at ih l ⊢
    rw [e, take_snoc hc]
    show addL _ _ (-_) m = _ - cntF rs (cs.take i ++ [cs[i]]) (_ ++ [_]) m
    rw [cntF_snoc (by rw [List.length_take, l]; omega), gadd_is, gadd_is, Int.mul_neg]
    omega
theorem run_pos {rs : List FRow} {bs cs : List (Str × Int)} (G : Good rs) (hb : ∀ p ∈ bs, 0 ≤ p.2) (hc : ∀ c ∈ cs, c.1 ∈ fNames rs) (m : Str) : ∀ i, i ≤ cs.length → 0 ≤ (eAt_ rs bs cs i).1 m
  | 0, _ => totF_pos hb m
  | i + 1, h => by
    have hg := List.getElem?_eq_getElem (l := cs) (i := i) (by omega)
    have ih := run_pos (rs := rs) (bs := bs) (cs := cs) G hb hc m i (by omega)
    have e := eRun_take (rs := rs) (t := totF rs bs) hg
    have cm := hc _ (List.mem_of_getElem? hg)
    unfold eAt_ at ih ⊢
    rw [e]
    show 0 ≤ addL _ _ (-_) m
    rw [gadd_is, Int.mul_neg]
    rcases anc_count G (m := m) cm with ⟨h1, h2⟩ | ⟨h1, h2⟩
    · rw [h2]
      have := (minL_le ((anc rs cs[i].1).map (eRun rs (totF rs bs) (cs.take i)).1) cs[i].2).2 _ (List.mem_map.mpr ⟨m, h1, rfl⟩)
      omega
    · rw [h2]
      omega
/-- what one claim is granted, beside what the ones before it leave -/
def eGr (rs : List FRow) (bs cs : List (Str × Int)) (i : Nat) (c : Str × Int) : Int := minL c.2 ((anc rs c.1).map (eAt_ rs bs cs i).1)
theorem ent_pre {rs : List FRow} : ∀ (cs : List (Str × Int)) (t : Str → Int) (o : List Int), ∃ r, (cs.foldl (eStep rs) (t, o)).2 = o ++ r
  | [], t, o => ⟨[], by simp⟩
  | c :: cs, t, o => by
    obtain ⟨r, h⟩ := ent_pre (rs := rs) cs (eStep rs (t, o) c).1 (eStep rs (t, o) c).2
    refine ⟨minL c.2 ((anc rs c.1).map t) :: r, ?_⟩
    show (cs.foldl (eStep rs) (eStep rs (t, o) c)).2 = _
    rw [show eStep rs (t, o) c = ((eStep rs (t, o) c).1, (eStep rs (t, o) c).2) from rfl, h]
    show (o ++ [_]) ++ r = _
    rw [List.append_assoc]
    rfl
theorem ent_take {rs : List FRow} {bs cs : List (Str × Int)} {i : Nat} (h : i ≤ cs.length) : (entF rs bs cs).take i = (eAt_ rs bs cs i).2 := by
  have l := eAt_len (rs := rs) (bs := bs) (cs := cs) h
  obtain ⟨r, e⟩ := ent_pre (rs := rs) (cs.drop i) (eAt_ rs bs cs i).1 (eAt_ rs bs cs i).2
  have e2 : (entF rs bs cs) = (eAt_ rs bs cs i).2 ++ r := by
    rw [← e]
    unfold entF eAt_ eRun
    rw [show (List.foldl (eStep rs) (totF rs bs, []) (cs.take i)).fst = (List.foldl (eStep rs) (totF rs bs, []) (cs.take i)).1 from rfl]
    conv => lhs; rw [← List.take_append_drop i cs, List.foldl_append]
  rw [e2, List.take_append_of_le_length (by omega), List.take_of_length_le (by omega)]
theorem eAt_s {rs : List FRow} {bs cs : List (Str × Int)} {i : Nat} {c : Str × Int} (h : cs[i]? = some c) : (eAt_ rs bs cs (i + 1)).2 = (eAt_ rs bs cs i).2 ++ [eGr rs bs cs i c] := by
  unfold eAt_
  rw [eRun_take h]
  rfl
theorem ent_at {rs : List FRow} {bs cs : List (Str × Int)} {i : Nat} {c : Str × Int} (h : cs[i]? = some c) : (entF rs bs cs)[i]? = some (eGr rs bs cs i c) := by
  have hl := (List.getElem?_eq_some_iff.mp h).1
  have e := ent_take (rs := rs) (bs := bs) (cs := cs) (i := i + 1) (by omega)
  have l := eAt_len (rs := rs) (bs := bs) (cs := cs) (i := i) (by omega)
  rw [eAt_s h] at e
  have : ((entF rs bs cs).take (i + 1))[i]? = some (eGr rs bs cs i c) := by
    rw [e, List.getElem?_append_right (by omega), l]
    simp
  rwa [List.getElem?_take_of_lt (by omega)] at this
theorem eGr_pos {rs : List FRow} {bs cs : List (Str × Int)} (G : Good rs) (hb : ∀ p ∈ bs, 0 ≤ p.2) (hc : ∀ c ∈ cs, c.1 ∈ fNames rs) {i : Nat} {c : Str × Int} (h : cs[i]? = some c) (c0 : 0 ≤ c.2) : 0 ≤ eGr rs bs cs i c ∧ eGr rs bs cs i c ≤ c.2 := by
  have hl := (List.getElem?_eq_some_iff.mp h).1
  refine ⟨?_, (minL_le _ _).1⟩
  unfold eGr
  rcases minL_mem ((anc rs c.1).map (eAt_ rs bs cs i).1) c.2 with e | e
  · omega
  · obtain ⟨n, hn, e⟩ := List.mem_map.mp e
    have := run_pos G hb hc n i (by omega)
    omega
/-- the next amount is spent to its brink, and not over it -/
theorem over_none {rs : List FRow} {bs cs : List (Str × Int)} (G : Good rs) (hb : ∀ p ∈ bs, 0 ≤ p.2) (hc : ∀ c ∈ cs, c.1 ∈ fNames rs) {i : Nat} {c : Str × Int} (h : cs[i]? = some c) {z : Int} (z1 : eGr rs bs cs i c ≤ z) (z2 : z ≤ c.2) :
    overF rs bs (cs.take (i + 1)) ((eAt_ rs bs cs i).2 ++ [z]) = none ↔ z = eGr rs bs cs i c := by
  have hl := (List.getElem?_eq_some_iff.mp h).1
  have cm := hc _ (List.mem_of_getElem? h)
  have l := eAt_len (rs := rs) (bs := bs) (cs := cs) (i := i) (by omega)
  have cn : ∀ n, cntF rs (cs.take (i + 1)) ((eAt_ rs bs cs i).2 ++ [z]) n = totF rs bs n - (eAt_ rs bs cs i).1 n + ((anc rs c.1).count n : Nat) * z := fun n => by
    rw [take_snoc h, cntF_snoc (by rw [List.length_take, l]; omega), gadd_is, run_cnt n i (by omega)]
    omega
  unfold overF
  rw [List.find?_eq_none]
  constructor
  · intro hn
    by_cases e : z = eGr rs bs cs i c
    · exact e
    · rcases minL_mem ((anc rs c.1).map (eAt_ rs bs cs i).1) c.2 with e2 | e2
      · unfold eGr at z1 e ⊢
        omega
      · obtain ⟨n, hn1, e3⟩ := List.mem_map.mp e2
        have := hn n (anc_mem G cm hn1)
        rw [cn n, count_one (anc_nodup G cm) hn1] at this
        simp only [decide_eq_true_eq, Int.not_lt] at this
        unfold eGr at z1 e ⊢
        omega
  · rintro rfl n hn
    rw [cn n]
    have p := run_pos G hb hc n i (by omega)
    simp only [decide_eq_true_eq, Int.not_lt]
    rcases anc_count G (m := n) cm with ⟨h1, h2⟩ | ⟨h1, h2⟩
    · rw [h2]
      have : eGr rs bs cs i c ≤ _ := (minL_le ((anc rs c.1).map (eAt_ rs bs cs i).1) c.2).2 _ (List.mem_map.mpr ⟨n, h1, rfl⟩)
      omega
    · rw [h2]
      omega
end Lw

set_option Elab.async false
set_option linter.all false
set_option maxRecDepth 100000
set_option maxHeartbeats 8000000
namespace Lw
open L2 hiding Ext
open PySem PySem.Spec PyProof.Rows Gn Gr Gk Go Gt Gf Gu Ge
section
variable {P : Program} {w : World} {K : PySem.W.Frag} {mg : Str → Option Value} {base : Heap} {C fI pN fN fA : Addr} {mc : Value} {fdN fdA : FuncData}
/-! ### entitlements -/
abbrev nEnt : List Str := ["forest", "claims", "balances"]
def spEnt (C : Addr) : Sp := fun vs H Q _ => ∃ (a cl b : Addr) (rs : List FRow) (bs cs : List (Str × Int)) (xs : List V), vs = [.ref a, .ref cl, .ref b] ∧ FoAt C H a rs ∧ Good rs ∧ ClAt H cl xs ∧ CsAt H xs cs ∧ CsOk rs cs ∧ H b = some (.dK (dB bs)) ∧ BsOk rs bs ∧
  ∀ H' p, Ext H H' → H p = none → H' p = some (.lst ((entF rs bs cs).map V.int)) → Q (.ref p) H'
theorem scEnt : FnScope nEnt ["forest", "claims", "balances"] (defScope sEntitlements) := ⟨rfl, rfl, rfl, by decide +kernel, rfl, by decide +kernel, by decide +kernel⟩
theorem ok_ent {f f2 f3 f5 : Addr} {fd fd2 fd3 fd5 : FuncData} (F : Fun K "entitlements" "entitlements" sEntitlements f fd)
    (GC : FnOk P w K mg base CX0 4 f2 fd2 ["forest", "claims"] (spCkClaims C)) (bC : Binds K fd2 ["forest", "claims"] []) (kC : PySem.W.keepIn K (.ref f2) = true) (mC : mg "check_claims" = some (.ref f2))
    (GB : FnOk P w K mg base CX0 3 f3 fd3 ["forest", "balances"] (spCkBal C)) (bB : Binds K fd3 ["forest", "balances"] []) (kB : PySem.W.keepIn K (.ref f3) = true) (mB : mg "check_balances" = some (.ref f3))
    (GG : FnOk P w K mg base CX0 5 f5 fd5 ["forest", "claims", "balances"] (spGrants C)) (bG : Binds K fd5 ["forest", "claims", "balances"] []) (kG : PySem.W.keepIn K (.ref f5) = true) (mG : mg "grants" = some (.ref f5)) :
    FnOk P w K mg base CX0 6 f fd ["forest", "claims", "balances"] (spEnt C) := by
  refine F.ok scEnt (fun vs H Q E h => ?_) (fun cdv A outer s H vs Q E hr h => ?_)
  · obtain ⟨a, cl, b, rs, bs, cs, xs, rfl, _⟩ := h
    rfl
  · obtain ⟨a, cl, b, rs, bs, cs, xs, rfl, hF, hG, hcl, hcs, hco, hb, hB, k⟩ := h
    have nd := scEnt.nd
    have hr3 : Room 3 (A.deeper (envOfC "entitlements" (defScope sEntitlements) s.heap.objs.size f cdv)) := hr.mono (by decide)
    have hr4 : Room 4 (A.deeper (envOfC "entitlements" (defScope sEntitlements) s.heap.objs.size f cdv)) := hr.mono (by decide)
    refine ⟨_, pss_cons (ps_expr (pe_call GC hr4 rfl mC kC bC .nil pass0 (pa_cons (pv 0) (pa_cons (pv 1) pa_nil))))
(pss_cons (ps_expr (pe_call GB hr3 rfl mB kB bB .nil pass0 (pa_cons (pv 0) (pa_cons (pv 2) pa_nil))))
(pss_one (ps_ret (pe_call GG hr rfl mG kG bG .nil pass0 (pa_cons (pv 0) (pa_cons (pv 1) (pa_cons (pv 2) pa_nil))))))), ?_⟩
    refine ⟨_, rfl, _, rfl, a, cl, rs, cs, xs, rfl, hF, hG, hcl, hcs, hco, fun H1 k1 => ?_⟩
    refine ⟨_, rfl, _, rfl, a, b, rs, bs, rfl, hF.ext k1, hG, k1 _ _ hb, hB, fun H2 k2 => ?_⟩
    have k2 := k1.trans k2
    refine ⟨_, rfl, _, rfl, _, rfl, a, cl, b, rs, bs, cs, xs, rfl, hF.ext k2, hG, hcl.ext k2, hcs.ext k2, fun c hc => (hco.2 c hc).1, by have := hco.1; omega, k2 _ _ hb, hB.1, fun H3 p k3 hp0 hp => ?_⟩
    exact k _ p (k2.trans k3) (none_of k2 hp0) hp
end
end Lw

set_option Elab.async false
set_option linter.all false
set_option maxRecDepth 100000
set_option maxHeartbeats 4000000
namespace Lw
open L2 hiding Ext
open PySem PySem.Spec PyProof.Rows Gn Gr Gk Go Gt Gf Gu
/-- the accounts above the i-th claim that are spent up to their totals -/
def tgF (rs : List FRow) (bs cs : List (Str × Int)) (ps : List Int) (i : Nat) : List Str := match cs[i]? with
  | some c => (anc rs c.1).filter fun n => decide (unsT rs bs cs ps (i + 1) n = 0)
  | none => []
def tgL (rs : List FRow) (bs cs : List (Str × Int)) (ps : List Int) (k : Nat) : List (List Str) := (List.range k).map (tgF rs bs cs ps)
theorem tgL_s {rs : List FRow} {bs cs : List (Str × Int)} {ps : List Int} {k : Nat} : tgL rs bs cs ps (k + 1) = tgL rs bs cs ps k ++ [tgF rs bs cs ps k] := by
  unfold tgL
  rw [List.range_succ, List.map_append]
  rfl
def TgAt (H : Hp) (p : Addr) (gs : List (List Str)) : Prop := ∃ ts : List Addr, H p = some (.lst (ts.map V.ref)) ∧ Paired (fun t g => H t = some (.lst (g.map V.str))) ts gs
theorem pair_get {α β : Type} {F : α → β → Prop} : ∀ {xs : List α} {ys : List β} {i : Nat} {y : β}, Paired F xs ys → ys[i]? = some y → ∃ x, xs[i]? = some x ∧ F x y
  | _, _, _, _, .nil, h => by simp at h
  | _, _, 0, _, .cons (a := x) h1 h2, h => by
    cases h
    exact ⟨x, rfl, h1⟩
  | _, _, i + 1, _, .cons h1 h2, h => pair_get (i := i) h2 (by simpa using h)
theorem TgAt.ext {H H' : Hp} {p : Addr} {gs : List (List Str)} (h : TgAt H p gs) (k : Ext H H') : TgAt H' p gs := by
  obtain ⟨ts, h1, h2⟩ := h
  exact ⟨ts, k _ _ h1, Paired.mono (fun t g e => k _ _ e) h2⟩
section
variable {P : Program} {w : World} {K : PySem.W.Frag} {mg : Str → Option Value} {base : Heap} {C fI pN fN fA : Addr} {mc : Value} {fdN fdA : FuncData}
/-! ### tight_above -/
abbrev nTight : List Str := ["forest", "claims", "spent", "balances", "left", "found", "account", "_", "amount", "above", "name"]
def spTight (C : Addr) : Sp := fun vs H Q _ => ∃ (a cl sl b : Addr) (rs : List FRow) (bs cs : List (Str × Int)) (xs : List V) (ps : List Int), vs = [.ref a, .ref cl, .ref sl, .ref b] ∧ FoAt C H a rs ∧ Good rs ∧ Gm.Mix H cl sl xs (ps.map V.int) ∧ CsAt H xs cs ∧ (∀ c ∈ cs, c.1 ∈ fNames rs) ∧ cs.length ≤ 20 ∧ ps.length = cs.length ∧ H b = some (.dK (dB bs)) ∧ BsN rs bs ∧
  ∀ H' q, Ext H H' → H q = none → TgAt H' q (tgL rs bs cs ps cs.length) → Q (.ref q) H'
theorem scTight : FnScope nTight ["forest", "claims", "spent", "balances"] (defScope sTightAbove) := ⟨rfl, rfl, rfl, by decide +kernel, rfl, by decide +kernel, by decide +kernel⟩
theorem ok_tight {f fT : Addr} {fd fdT : FuncData} (F : Fun K "tight_above" "tight_above" sTightAbove f fd) (T : Names mg) (Z : Fo P w K mg base C fI pN fN fA mc fdN fdA)
    (GT : FnOk P w K mg base CX0 4 fT fdT ["forest", "balances"] (spTotOf C)) (bT : Binds K fdT ["forest", "balances"] []) (kT : PySem.W.keepIn K (.ref fT) = true) (mT : mg "totals_of" = some (.ref fT)) :
    FnOk P w K mg base CX0 5 f fd ["forest", "claims", "spent", "balances"] (spTight C) := by
  refine F.ok scTight (fun vs H Q E h => ?_) (fun cdv A outer s H vs Q E hr h => ?_)
  · obtain ⟨a, cl, sl, b, rs, bs, cs, xs, ps, rfl, _⟩ := h
    rfl
  · obtain ⟨a, cl, sl, b, rs, bs, cs, xs, ps, rfl, hF, hG, hsk, hcs, hcn, c20, pl, hb, hB, k⟩ := h
    have hu := hu_of hr
    have nd := scTight.nd
    have hrA : Room 3 (A.deeper (envOfC "tight_above" (defScope sTightAbove) s.heap.objs.size f cdv)) := hr.mono (by decide)
    refine ⟨_, pss_cons (ps_set (i := 4) nd rfl (.inr rfl) (pe_call GT hr rfl mT kT bT .nil pass0 (pa_cons (pv 0) (pa_cons (pv 3) pa_nil))))
(pss_cons (ps_set (i := 5) nd rfl (.inl rfl) (pe_lst pa_nil))
(pss_cons (ps_for PassesOwn.never rfl (Gu.wI (t' := Gm.iZipV 1 2) (Gm.pi_zipM rfl T.zip (pa_cons (pv 1) (pa_cons (pv 2) pa_nil))) Gm.iZip_ok) (by exact (pg_tup rfl (pgs_cons (by exact (pg_tup rfl (pgs_cons (pg_name (i := 6) nd rfl (.inl rfl)) (pgs_cons (pg_name (i := 7) nd rfl (.inl rfl)) pgs_nil)))) (pgs_cons (pg_name (i := 8) nd rfl (.inl rfl)) pgs_nil))))
(pss_cons (ps_set (i := 9) nd rfl (.inl rfl) (pe_meth (pv 0) Z.Z.cl Z.mA Z.GA hrA Z.bA .nil pass0 (pa_cons (pv 6) pa_nil)))
(pss_cons (ps_for PassesOwn.never rfl (pi_list (pv 9)) (pg_name (i := 10) nd rfl (.inl rfl))
(pss_one (ps_daug hu (pv 4) (pv 10) (pv 8) in_sub (fun _ _ _ => rfl))))
(pss_one (ps_expr (pe_bm PySem.F.plainAttrs_list PySem.F.slot_list_append PySem.F.type_list_append mt_append (pv 5) (pa_cons (pe_lc (own := [("name", 10)]) (g := gName 10) rfl nd (pi_list (pv 9)) (blkOk_by (N := nTight) (sc := defScope sTightAbove) (by decide +kernel))
(fun _ _ _ _ _ => pg_name (i := 10) nd rfl (.inl rfl)) (fun _ _ _ _ _ => pts_one (pt_cmpR op_eq (pe_dget hu (pv 4) (pv 10) (fun _ _ => rfl)) pe_int (nomark _))) (fun _ _ _ _ _ => pv 10)) pa_nil)))))))
(pss_one (ps_ret (pv 5))))), ?_⟩
    have hlen : (fNames rs).length ≤ 8 := by rw [fNames, List.length_map]; exact hG.2.1
    have xl := hcs.1
    refine ⟨_, rfl, _, rfl, a, b, rs, bs, rfl, hF, hG, hb, hB, fun H1 q k1 hq0 hq => ?_⟩
    refine ⟨Nat.zero_le _, fun L hL => ?_⟩
    have hqL : q ≠ L := fun e => by rw [← e, hq] at hL; cases hL
    have hL0 : H L = none := none_of k1 hL
    have k2 : Ext H (upd H1 L (.lst [])) := k1.trans (Ext.new hL)
    have q2 : (upd H1 L (.lst [])) q = some (.dK (dN (fNames rs) (unsT rs bs cs ps 0))) := new_same hL _ _ hq
    have L2' : (upd H1 L (.lst [])) L = some (.lst (([] : List Addr).map V.ref)) := upd_same
    generalize upd H1 L (.lst []) = H2 at k2 q2 L2' ⊢
    have keep : ∀ {H' : Hp}, Ext2 q L H2 H' → Ext H H' := fun {H'} e x o hx => e x o (ne_of_none hx hq0) (ne_of_none hx hL0) (k2 _ _ hx)
    have hs2 := hsk.ext k2
    refine ⟨cl, sl, xs, _, rfl, rfl, hs2, fun J hJ => ?_⟩
    refine for_it hJ (fun i σ H' => ∃ (v6 v7 v8 v9 v10 : Option V) (ts : List Addr), σ = [some (.ref a), some (.ref cl), some (.ref sl), some (.ref b), some (.ref q), some (.ref L), v6, v7, v8, v9, v10] ∧ H' q = some (.dK (dN (fNames rs) (unsT rs bs cs ps i))) ∧ H' L = some (.lst (ts.map V.ref)) ∧ Paired (fun t g => t ≠ L ∧ H' t = some (.lst (g.map V.str))) ts (tgL rs bs cs ps i) ∧ Ext2 q L H2 H')
      ⟨none, none, none, none, none, [], rfl, q2, L2', .nil, Ext2.refl⟩ (fun i σ H' _ ⟨_, _, _, _, _, _, _, _, _, _, e⟩ => ?_) ?_ ?_
    · have := keep e
      rcases hsk with (⟨h1, h2⟩ | ⟨h1, h2⟩) | ⟨h1, h2⟩ <;> exact ⟨(this _ _ h1).trans (k2 _ _ h1).symm, (this _ _ h2).trans (k2 _ _ h2).symm⟩
    · rintro i x σ H5 H6 hi ⟨v6, v7, v8, v9, v10, ts, rfl, d5, L5, P5, k5⟩ ⟨t, x1, x2, rfl, ht, rfl, e1, e2⟩
      have e1 : xs[i]? = some x1 := e1
      have e2 : (ps.map V.int)[i]? = some x2 := e2
      obtain ⟨cc, p, hc, rfl, hp⟩ := hcs.get e1
      have hil := (List.getElem?_eq_some_iff.mp hc).1
      rw [List.getElem?_map] at e2
      obtain ⟨z, hz, rfl⟩ := Option.map_eq_some_iff.mp e2
      have hcm := hcn cc (List.mem_of_getElem? hc)
      have k6 : Ext2 q L H2 (upd H5 t (.tup [.ref p, .int z])) := k5.trans (Ext2.of (Ext.new ht))
      have d6 := new_same (o := .tup [.ref p, .int z]) ht _ _ d5
      have L6 := new_same (o := .tup [.ref p, .int z]) ht _ _ L5
      have P6 := Paired.mono (F' := fun t' g => t' ≠ L ∧ (upd H5 t (.tup [.ref p, .int z])) t' = some (.lst (g.map V.str))) (fun t' g e => ⟨e.1, new_same ht _ _ e.2⟩) P5
      have p6 := keep k6 _ _ hp
      refine ⟨t, _, rfl, SqT.of upd_same, rfl, _, _, rfl, p, _, rfl, SqT.of p6, rfl, _, _, rfl, _, _, rfl, rfl, _, _, rfl, rfl, ?_⟩
      generalize upd H5 t (.tup [.ref p, .int z]) = H6 at k6 d6 L6 P6 p6 ⊢
      obtain ⟨dx, q6, g1, g2⟩ := id hF
      obtain ⟨j, r, hj, hr1, hanc⟩ := anc_call hG hcm
      refine ⟨_, rfl, a, dx, _, rfl, keep k6 _ _ g1, rfl, _, rfl, a, rs, j, r, by rw [hr1]; rfl, ⟨dx, q6, keep k6 _ _ g1, keep k6 _ _ g2⟩, hG, hj, fun H7 l k7 hl0 hl => ?_⟩
      rw [hanc] at hl
      have d7 := k7 _ _ d6
      have L7 := k7 _ _ L6
      have hlq : l ≠ q := fun e => by rw [e, d6] at hl0; cases hl0
      have hlL : l ≠ L := fun e => by rw [e, L6] at hl0; cases hl0
      have P7 := Paired.mono (F' := fun t' g => t' ≠ L ∧ H7 t' = some (.lst (g.map V.str))) (fun t' g e => ⟨e.1, k7 _ _ e.2⟩) P6
      refine ⟨_, rfl, l, rfl, ⟨_, SqL.of hl⟩, ?_⟩
      refine for_it walk_list (fun i' σ H' => ∃ (v10 : Option V), σ = [some (.ref a), some (.ref cl), some (.ref sl), some (.ref b), some (.ref q), some (.ref L), some (.str cc.1), some (.int cc.2), some (.int z), some (.ref l), v10] ∧ H' q = some (.dK (dN (fNames rs) (addL (unsT rs bs cs ps i) ((anc rs cc.1).take i') (-z)))) ∧ ExtD q H7 H')
        ⟨v10, rfl, d7, ExtD.refl⟩ (fun i' σ H' _ ⟨_, _, _, e⟩ => SqL.of (e _ _ hlq hl)) ?_ ?_
      · rintro i' y σ H8 H9 hi' ⟨v10, rfl, d8, k8⟩ ⟨rfl, hy⟩
        rw [List.getElem?_map] at hy
        obtain ⟨m, hm, rfl⟩ := Option.map_eq_some_iff.mp hy
        have hmn := anc_mem hG hcm (List.mem_of_getElem? hm)
        refine ⟨_, rfl, _, rfl, q, _, rfl, get_dN (.inl d8) hmn, _, rfl, _, _, rfl, rfl, _, put_dN d8 hmn hlen, ?_⟩
        refine ⟨_, rfl, ?_, k8.trans ExtD.at⟩
        rw [upd_same, addL_take hm, ← Int.sub_eq_add_neg]
      · rintro σ H8 ⟨v10, rfl, d8, k8⟩
        rw [List.length_map, List.take_length, ← unsT_s hc hz] at d8
        have L8 := k8 _ _ hqL.symm L7
        have l8 := k8 _ _ hlq hl
        have P8 := Paired.mono (F' := fun t' g => t' ≠ L ∧ H8 t' = some (.lst (g.map V.str))) (fun t' g e => ⟨e.1, k8 _ _ (ne_of e.2 d7 (by intro z; cases z)) e.2⟩) P7
        have k78 : Ext2 q L H2 H8 := (k6.trans (Ext2.of k7)).trans fun x o n1 n2 e => k8 x o n1 e
        have al := anc_len rs cc.1
        let pr : Str → Bool := fun n => decide (unsT rs bs cs ps (i + 1) n = 0)
        refine ⟨_, rfl, .inl ⟨rfl, _, SqL.of L8⟩, _, rfl, l, rfl, ⟨_, SqL.of l8⟩, fun D hD => ?_⟩
        refine lc_it walk_list (fun i' H' => H' D = some (.lst ((((anc rs cc.1).take i').filter pr).map V.str)) ∧ Ext H8 H') ⟨upd_same, Ext.new hD⟩ (fun i' H' _ ⟨_, e⟩ => SqL.of (e _ _ l8)) ?_ ?_
        · rintro i' y H9 H9' hi' ⟨d9, k9⟩ ⟨rfl, hy⟩
          rw [List.getElem?_map] at hy
          obtain ⟨m, hm, rfl⟩ := Option.map_eq_some_iff.mp hy
          have hmn := anc_mem hG hcm (List.mem_of_getElem? hm)
          have ef := filter_take pr hm
          refine ⟨rfl, ?_⟩
          refine ⟨_, rfl, _, rfl, q, _, rfl, get_dN (.inl (k9 _ _ d8)) hmn, rfl, _, rfl, ?_⟩
          refine ite2 (fun e => ?_) (fun e => ?_)
          · have e' : pr m = true := by simpa [pr] using e
            rw [if_pos e'] at ef
            refine ⟨_, rfl, _, d9, ?_, ?_, fun x o hx => ?_⟩
            · have h1 := List.length_filter_le pr ((anc rs cc.1).take i')
              rw [List.length_take] at h1
              rw [List.length_map]
              exact small1000 (by omega)
            · rw [upd_same, ef, List.map_append]
              rfl
            · rw [upd_ne (ne_of_none hx hD)]
              exact k9 _ _ hx
          · have e' : ¬ pr m = true := by simpa [pr] using e
            rw [if_neg e', List.append_nil] at ef
            exact ⟨by rw [ef]; exact d9, k9⟩
        rintro H9 ⟨d9, k9⟩
        rw [List.length_map, List.take_length] at d9
        have etg : tgF rs bs cs ps i = (anc rs cc.1).filter pr := by unfold tgF; rw [hc]
        rw [← etg] at d9
        have L9 := k9 _ _ L8
        have hDL : D ≠ L := fun e => by rw [e, L8] at hD; cases hD
        have tl := P5.length
        have tl2 : (tgL rs bs cs ps i).length = i := by unfold tgL; rw [List.length_map, List.length_range]
        refine ⟨L, _, _, rfl, rfl, L9, small1000 (by rw [List.length_map]; omega), ?_⟩
        refine ⟨_, _, _, _, _, ts ++ [D], rfl, ?_, ?_, ?_, (k78.trans (Ext2.of k9)).trans Ext2.at2⟩
        · rw [upd_ne hqL]
          exact k9 _ _ d8
        · rw [upd_same, List.map_append]
          rfl
        · rw [tgL_s]
          refine Paired.snoc (Paired.mono (fun t' g e => ⟨e.1, by rw [upd_ne e.1]; exact k9 _ _ e.2⟩) P8) ⟨hDL, by rw [upd_ne hDL]; exact d9⟩
    · rintro σ H5 ⟨v6, v7, v8, v9, v10, ts, rfl, d5, L5, P5, k5⟩
      have e : min xs.length (ps.map V.int).length = cs.length := by rw [List.length_map]; omega
      rw [e] at P5
      exact ⟨_, rfl, k _ L (keep k5) hL0 ⟨ts, L5, Paired.mono (fun t g e => e.2) P5⟩⟩
end
end Lw

set_option Elab.async false
set_option linter.all false
set_option maxRecDepth 100000
set_option maxHeartbeats 4000000
namespace Lw
open L2 hiding Ext
open PySem PySem.Spec PyProof.Rows Gn Gr Gk Go Gt Gf Gu
/-! ### the mathematics of witnesses -/
theorem uns_run {rs : List FRow} {bs cs : List (Str × Int)} (m : Str) : ∀ k, k ≤ cs.length → unsT rs bs cs (entF rs bs cs) k m = (eAt_ rs bs cs k).1 m
  | 0, _ => rfl
  | k + 1, h => by
    have hc := List.getElem?_eq_getElem (l := cs) (i := k) (by omega)
    have ih := uns_run (rs := rs) (bs := bs) (cs := cs) m k (by omega)
    rw [unsT_s hc (ent_at hc), gadd_is, ih]
    unfold eAt_
    rw [eRun_take hc]
    show _ = addL _ _ (-_) m
    rw [gadd_is]
    rfl
theorem tg_ne {rs : List FRow} {bs cs : List (Str × Int)} (G : Good rs) (hc : ∀ c ∈ cs, c.1 ∈ fNames rs) {i : Nat} {c : Str × Int} (h : cs[i]? = some c) (ne : eGr rs bs cs i c ≠ c.2) : ∃ n r, tgF rs bs cs (entF rs bs cs) i = n :: r := by
  have hl := (List.getElem?_eq_some_iff.mp h).1
  have cm := hc _ (List.mem_of_getElem? h)
  rcases minL_mem ((anc rs c.1).map (eAt_ rs bs cs i).1) c.2 with e | e
  · exact absurd e ne
  · obtain ⟨n, hn, e2⟩ := List.mem_map.mp e
    have z : unsT rs bs cs (entF rs bs cs) (i + 1) n = 0 := by
      rw [unsT_s h (ent_at h), gadd_is, uns_run n i (by omega), count_one (anc_nodup G cm) hn]
      unfold eGr
      omega
    have : n ∈ tgF rs bs cs (entF rs bs cs) i := by
      unfold tgF
      rw [h]
      exact List.mem_filter.mpr ⟨hn, by simp [z]⟩
    cases ht : tgF rs bs cs (entF rs bs cs) i with
    | nil => rw [ht] at this; cases this
    | cons a r => exact ⟨a, r, rfl⟩
def wtF (rs : List FRow) (bs cs : List (Str × Int)) (i : Nat) : Option Str := match cs[i]? with
  | some c => if eGr rs bs cs i c = c.2 then none else (tgF rs bs cs (entF rs bs cs) i).head?
  | none => none
def wtL (rs : List FRow) (bs cs : List (Str × Int)) (k : Nat) : List (Option Str) := (List.range k).map (wtF rs bs cs)
theorem wtL_s {rs : List FRow} {bs cs : List (Str × Int)} {k : Nat} : wtL rs bs cs (k + 1) = wtL rs bs cs k ++ [wtF rs bs cs k] := by
  unfold wtL
  rw [List.range_succ, List.map_append]
  rfl
theorem wtL_len {rs : List FRow} {bs cs : List (Str × Int)} {k : Nat} : (wtL rs bs cs k).length = k := by
  unfold wtL
  rw [List.length_map, List.length_range]
theorem wtL_at {rs : List FRow} {bs cs : List (Str × Int)} {k i : Nat} (h : i < k) : (wtL rs bs cs k)[i]? = some (wtF rs bs cs i) := by
  unfold wtL
  rw [List.getElem?_map, List.getElem?_range h]
  rfl
theorem tgL_at {rs : List FRow} {bs cs : List (Str × Int)} {ps : List Int} {k i : Nat} (h : i < k) : (tgL rs bs cs ps k)[i]? = some (tgF rs bs cs ps i) := by
  unfold tgL
  rw [List.getElem?_map, List.getElem?_range h]
  rfl
theorem over_all {rs : List FRow} {bs cs : List (Str × Int)} (G : Good rs) (hb : ∀ p ∈ bs, 0 ≤ p.2) (hc : ∀ c ∈ cs, c.1 ∈ fNames rs) (h0 : ∀ c ∈ cs, 0 ≤ c.2) : overF rs bs cs (entF rs bs cs) = none := by
  by_cases e : cs.length = 0
  · have e : cs = [] := List.length_eq_zero_iff.mp e
    subst e
    unfold overF
    rw [List.find?_eq_none]
    intro n _
    have := totF_pos (rs := rs) hb n
    simp only [decide_eq_true_eq, Int.not_lt]
    exact this
  · have hi : cs.length - 1 < cs.length := by omega
    have hg := List.getElem?_eq_getElem hi
    obtain ⟨g0, g1⟩ := eGr_pos (bs := bs) G hb hc hg (h0 _ (List.mem_of_getElem? hg))
    have := (over_none G hb hc hg (Int.le_refl _) g1).mpr rfl
    rw [← eAt_s hg, show cs.length - 1 + 1 = cs.length by omega, List.take_of_length_le (Nat.le_refl _), ← ent_take (Nat.le_refl _), List.take_of_length_le (by rw [ent_len]; exact Nat.le_refl _)] at this
    exact this
section
variable {P : Program} {w : World} {K : PySem.W.Frag} {mg : Str → Option Value} {base : Heap} {C fI pN fN fA : Addr} {mc : Value} {fdN fdA : FuncData}
/-! ### is_result -/
abbrev nIsRes : List Str := ["claims", "value", "_", "claim", "number"]
def spIsRes : Sp := fun vs H Q _ => ∃ (cl rl : Addr) (xs : List V) (cs : List (Str × Int)) (ps : List Int), vs = [.ref cl, .ref rl] ∧ H cl = some (.lst xs) ∧ CsAt H xs cs ∧ H rl = some (.lst (ps.map V.int)) ∧ ps.length = cs.length ∧ cs.length ≤ 20 ∧ (∀ (i : Nat) (c : Str × Int) (z : Int), cs[i]? = some c → ps[i]? = some z → 0 ≤ z ∧ z ≤ c.2) ∧
  ∀ H', Ext H H' → Q (.bl true) H'
theorem scIsRes : FnScope nIsRes ["claims", "value"] (defScope sIsResult) := ⟨rfl, rfl, rfl, by decide +kernel, rfl, by decide +kernel, by decide +kernel⟩
theorem ok_isRes {f fJ : Addr} {fd fdJ : FuncData} (F : Fun K "is_result" "is_result" sIsResult f fd) (T : Names mg)
    (GI : FnOk P w K mg base CX0 1 fJ fdJ ["value"] spInt) (bI : Binds K fdJ ["value"] []) (kI : PySem.W.keepIn K (.ref fJ) = true) (mI : mg "is_int" = some (.ref fJ)) : FnOk P w K mg base CX0 2 f fd ["claims", "value"] spIsRes := by
  refine F.ok scIsRes (fun vs H Q E h => ?_) (fun cdv A outer s H vs Q E hr h => ?_)
  · obtain ⟨cl, rl, xs, cs, ps, rfl, _⟩ := h
    rfl
  · obtain ⟨cl, rl, xs, cs, ps, rfl, hcl, hcs, hrl, pl, c20, hz, k⟩ := h
    have hu := hu_of hr
    have nd := scIsRes.nd
    have xl := hcs.1
    refine ⟨_, pss_cons (ps_if (PW.pt (pw_or (pt_not (pt_val (pe_callB call_isi rfl T.isi (by decide +kernel) (pa_cons (pv 1) (pa_cons (pe_bltn (v := .ty "list") rfl T.list (by decide +kernel) rfl) pa_nil))))) (pw_or1 (pt_cmpR op_ne (pe_callB call_len_seq rfl T.len PySem.boot_len (pa_cons (pv 1) pa_nil)) (pe_callB call_len_seq rfl T.len PySem.boot_len (pa_cons (pv 0) pa_nil)) (nomark _))))) (pss_one (ps_ret pe_bl)) pss_nil)
(pss_one (ps_ret (pe_callB (cr_all rfl) rfl T.all (by decide +kernel) (pa_cons (pe_lc (own := [("_", 2), ("claim", 3), ("number", 4)]) (g := gTup K 2 (gCons (gTup K 2 (gCons (gName 2) (gCons (gName 3) gNil))) (gCons (gName 4) gNil))) (tt := tYes) rfl nd (pi_zip rfl T.zip (pa_cons (pv 0) (pa_cons (pv 1) pa_nil))) (blkOk_by (N := nIsRes) (sc := defScope sIsResult) (by decide +kernel))
(fun _ _ _ _ _ => (by exact (pg_tup rfl (pgs_cons (by exact (pg_tup rfl (pgs_cons (pg_name (i := 2) nd rfl (.inl rfl)) (pgs_cons (pg_name (i := 3) nd rfl (.inl rfl)) pgs_nil)))) (pgs_cons (pg_name (i := 4) nd rfl (.inl rfl)) pgs_nil))))) (fun _ _ _ _ _ => pts_nil) (fun _ _ _ _ _ => (pe_and (pe_call GI hr rfl mI kI bI .nil pass0 (pa_cons (pv 4) pa_nil)) (pe_one (pe_chain op_le op_le pe_int (pv 4) (pv 3)))))) pa_nil)))), ?_⟩
    refine ⟨_, rfl, _, _, _, _, true, rfl, .ty _, (TyT.lst hrl).x, kit_ty (by decide +kernel), true, rfl, iteF ?_⟩
    refine ⟨_, rfl, rl, _, rfl, .inl (SqL.of hrl), _, rfl, cl, _, rfl, .inl (SqL.of hcl), rfl, _, rfl, iteNS (by rw [List.length_map, pl, xl]) ?_⟩
    refine ⟨_, rfl, _, rfl, cl, rl, _, _, rfl, SqL.of hcl, SqL.of hrl, fun D hD => ?_⟩
    refine lc_it (walk_zip rfl) (fun i H' => H' D = some (.lst ((List.replicate i true).map V.bl)) ∧ Ext H H') ⟨upd_same, Ext.new hD⟩ (fun i H' _ ⟨_, e⟩ => ⟨SqL.of (e _ _ hcl), SqL.of (e _ _ hrl)⟩) ?_ ?_
    · rintro i x H2 H2' hi ⟨d2, k2⟩ ⟨t, x1, x2, rfl, ht, rfl, e1, e2⟩
      have e1 : xs[i]? = some x1 := e1
      have e2 : (ps.map V.int)[i]? = some x2 := e2
      obtain ⟨cc, p, hc, rfl, hp⟩ := hcs.get e1
      have hil := (List.getElem?_eq_some_iff.mp hc).1
      rw [List.getElem?_map] at e2
      obtain ⟨z, hz1, rfl⟩ := Option.map_eq_some_iff.mp e2
      obtain ⟨z0, z1⟩ := hz i cc z hc hz1
      have k6 := k2.trans (Ext.new (o := .tup [.ref p, .int z]) ht)
      have d6 := new_same (o := .tup [.ref p, .int z]) ht _ _ d2
      refine ⟨t, _, rfl, SqT.of upd_same, rfl, _, _, rfl, p, _, rfl, SqT.of (k6 _ _ hp), rfl, _, _, rfl, _, _, rfl, rfl, _, _, rfl, rfl, rfl, yes_of ?_⟩
      generalize upd H2 t (.tup [.ref p, .int z]) = H6 at k6 d6 ⊢
      refine ⟨_, rfl, _, _, rfl, .inl ⟨z, rfl, rfl⟩, true, rfl, iteT ?_⟩
      refine ⟨_, rfl, _, _, rfl, rfl, _, rfl, iteS z0 ?_⟩
      refine ⟨_, rfl, _, _, rfl, rfl, _, d6, ?_, ?_, fun x o e => ?_⟩
      · rw [List.length_map, List.length_replicate]
        exact small1000 (by omega)
      · rw [upd_same]
        show some (HO.lst (_ ++ [V.bl (decide (z ≤ cc.2))])) = _
        rw [decide_eq_true z1, List.replicate_succ', List.map_append]
        rfl
      · rw [upd_ne (ne_of_none e hD)]
        exact k6 _ _ e
    rintro H2 ⟨d2, k2⟩
    refine ⟨D, _, rfl, SqL.of d2, ?_⟩
    rw [all_true]
    exact k H2 k2
/-! ### is_witness -/
abbrev nIsWit : List Str := ["claims", "result", "tight", "value", "rank", "_", "claim"]
def spIsWit : Sp := fun vs H Q _ => ∃ (cl rl tl vl : Addr) (xs : List V) (cs : List (Str × Int)) (ps : List Int) (gs : List (List Str)) (ws : List (Option Str)), vs = [.ref cl, .ref rl, .ref tl, .ref vl] ∧ H cl = some (.lst xs) ∧ CsAt H xs cs ∧ H rl = some (.lst (ps.map V.int)) ∧ TgAt H tl gs ∧ H vl = some (.lst (ws.map parV)) ∧ ws.length = cs.length ∧
  (∀ (i : Nat) (c : Str × Int), cs[i]? = some c → ∃ z, ps[i]? = some z ∧ ((z = c.2 ∧ ws[i]? = some none) ∨ (z ≠ c.2 ∧ ∃ g n, gs[i]? = some g ∧ ws[i]? = some (some n) ∧ n ∈ g))) ∧
  ∀ H', Ext H H' → Q (.bl true) H'
theorem scIsWit : FnScope nIsWit ["claims", "result", "tight", "value"] (defScope sIsWitness) := ⟨rfl, rfl, rfl, by decide +kernel, rfl, by decide +kernel, by decide +kernel⟩
theorem ok_isWit {f : Addr} {fd : FuncData} (F : Fun K "is_witness" "is_witness" sIsWitness f fd) (T : Names mg) : FnOk P w K mg base CX0 1 f fd ["claims", "result", "tight", "value"] spIsWit := by
  refine F.ok scIsWit (fun vs H Q E h => ?_) (fun cdv A outer s H vs Q E hr h => ?_)
  · obtain ⟨cl, rl, tl, vl, xs, cs, ps, gs, ws, rfl, _⟩ := h
    rfl
  · obtain ⟨cl, rl, tl, vl, xs, cs, ps, gs, ws, rfl, hcl, hcs, hrl, ⟨ts, htl, hts⟩, hvl, wl, hz, k⟩ := h
    have hu := hu_of hr
    have nd := scIsWit.nd
    have xl := hcs.1
    refine ⟨_, pss_cons (ps_if (PW.pt (pw_or (pt_not (pt_val (pe_callB call_isi rfl T.isi (by decide +kernel) (pa_cons (pv 3) (pa_cons (pe_bltn (v := .ty "list") rfl T.list (by decide +kernel) rfl) pa_nil))))) (pw_or1 (pt_cmpR op_ne (pe_callB call_len_seq rfl T.len PySem.boot_len (pa_cons (pv 3) pa_nil)) (pe_callB call_len_seq rfl T.len PySem.boot_len (pa_cons (pv 0) pa_nil)) (nomark _))))) (pss_one (ps_ret pe_bl)) pss_nil)
(pss_cons (ps_for PassesOwn.never rfl (pi_enum rfl T.enum (pa_cons (pv 0) pa_nil)) (by exact (pg_tup rfl (pgs_cons (pg_name (i := 4) nd rfl (.inl rfl)) (pgs_cons (by exact (pg_tup rfl (pgs_cons (pg_name (i := 5) nd rfl (.inl rfl)) (pgs_cons (pg_name (i := 6) nd rfl (.inl rfl)) pgs_nil)))) pgs_nil))))
(pss_one (ps_if (pt_cmpR op_eq (pe_ix ix_list (pv 1) (pv 4) (fun _ _ => rfl)) (pv 6) (nomark _)) (pss_one (ps_if (pt_cmpR op_notN (pe_ix ix_list (pv 3) (pv 4) (fun _ _ => rfl)) pe_non (nomark _)) (pss_one (ps_ret pe_bl)) pss_nil)) (pss_one (ps_if (pt_cmpR op_notIn_seq (pe_ix ix_list (pv 3) (pv 4) (fun _ _ => rfl)) (pe_ix ix_list (pv 2) (pv 4) (fun _ _ => rfl)) rfl) (pss_one (ps_ret pe_bl)) pss_nil)))))
(pss_one (ps_ret pe_bl))), ?_⟩
    refine ⟨_, rfl, _, _, _, _, true, rfl, .ty _, (TyT.lst hvl).x, kit_ty (by decide +kernel), true, rfl, iteF ?_⟩
    refine ⟨_, rfl, vl, _, rfl, .inl (SqL.of hvl), _, rfl, cl, _, rfl, .inl (SqL.of hcl), rfl, _, rfl, iteNS (by rw [List.length_map, wl, xl]) ?_⟩
    refine ⟨_, rfl, cl, xs, rfl, SqL.of hcl, ?_⟩
    refine for_it walk_enum (fun i σ H' => ∃ (v4 v5 v6 : Option V), σ = [some (.ref cl), some (.ref rl), some (.ref tl), some (.ref vl), v4, v5, v6] ∧ Ext H H')
      ⟨none, none, none, rfl, Ext.refl⟩ (fun i σ H' _ ⟨_, _, _, _, e⟩ => SqL.of (e _ _ hcl)) ?_ ?_
    · rintro i x σ H2 H3 hi ⟨v4, v5, v6, rfl, k2⟩ ⟨t, x1, x2, rfl, ht, rfl, e1, e2⟩
      cases e1
      have e2 : xs[i]? = some x2 := e2
      obtain ⟨cc, p, hc, rfl, hp⟩ := hcs.get e2
      have k3 := k2.trans (Ext.new (o := .tup [.int (i : Nat), .ref p]) ht)
      refine ⟨t, _, rfl, SqT.of upd_same, rfl, _, _, rfl, _, _, rfl, p, _, rfl, SqT.of (k3 _ _ hp), rfl, _, _, rfl, _, _, rfl, rfl, rfl, ?_⟩
      generalize upd H2 t (.tup [.int (i : Nat), .ref p]) = H3 at k3 ⊢
      obtain ⟨z, hz1, hw⟩ := hz i cc hc
      have hz2 : atI (ps.map V.int) ((i : Nat) : Int) = some (.int z) := atI_nat (by rw [List.getElem?_map, hz1]; rfl)
      refine ⟨_, rfl, _, rfl, rl, _, _, _, rfl, rfl, SqL.of (k3 _ _ hrl), hz2, _, rfl, rfl, _, rfl, ?_⟩
      rcases hw with ⟨rfl, hw⟩ | ⟨ne, g, n, hg, hw, hn⟩
      · have hw2 : atI (ws.map parV) ((i : Nat) : Int) = some .non := atI_nat (by rw [List.getElem?_map, hw]; rfl)
        rw [decide_eq_true rfl]
        refine iteT ?_
        exact ⟨_, rfl, _, rfl, vl, _, _, _, rfl, rfl, SqL.of (k3 _ _ hvl), hw2, rfl, _, rfl, iteNS rfl ⟨_, _, _, rfl, k3⟩⟩
      · have hw2 : atI (ws.map parV) ((i : Nat) : Int) = some (.str n) := atI_nat (by rw [List.getElem?_map, hw]; rfl)
        obtain ⟨tg, ht1, ht2⟩ := pair_get hts hg
        have ht3 : atI (ts.map V.ref) ((i : Nat) : Int) = some (.ref tg) := atI_nat (by rw [List.getElem?_map, ht1]; rfl)
        rw [decide_eq_false (by intro h; injection h with h; exact ne h)]
        refine iteF ?_
        refine ⟨_, rfl, _, rfl, vl, _, _, _, rfl, rfl, SqL.of (k3 _ _ hvl), hw2, _, rfl, _, rfl, tl, _, _, _, rfl, rfl, SqL.of (k3 _ _ htl), ht3, tg, _, rfl, .inl (SqL.of (k3 _ _ ht2)), rfl, strs_flat _, ?_⟩
        show ∃ b, V.bl (!inV (.str n) (g.map V.str)) = V.bl b ∧ _
        rw [inV_strs, decide_eq_true hn]
        exact ⟨false, rfl, iteF ⟨_, _, _, rfl, k3⟩⟩
    · rintro σ H2 ⟨v4, v5, v6, rfl, k2⟩
      exact k _ k2
/-! ### certificate -/
abbrev nCert : List Str := ["forest", "claims", "balances", "granted", "tight", "rank", "_", "claim"]
def spCert (C : Addr) : Sp := fun vs H Q _ => ∃ (a cl b : Addr) (rs : List FRow) (bs cs : List (Str × Int)) (xs : List V), vs = [.ref a, .ref cl, .ref b] ∧ FoAt C H a rs ∧ Good rs ∧ ClAt H cl xs ∧ CsAt H xs cs ∧ CsOk rs cs ∧ H b = some (.dK (dB bs)) ∧ BsOk rs bs ∧
  ∀ H' p, Ext H H' → H p = none → H' p = some (.lst ((wtL rs bs cs cs.length).map parV)) → Q (.ref p) H'
theorem scCert : FnScope nCert ["forest", "claims", "balances"] (defScope sCertificate) := ⟨rfl, rfl, rfl, by decide +kernel, rfl, by decide +kernel, by decide +kernel⟩
theorem ok_cert {f f2 f3 f5 f6 : Addr} {fd fd2 fd3 fd5 fd6 : FuncData} (F : Fun K "certificate" "certificate" sCertificate f fd) (T : Names mg)
    (GC : FnOk P w K mg base CX0 4 f2 fd2 ["forest", "claims"] (spCkClaims C)) (bC : Binds K fd2 ["forest", "claims"] []) (kC : PySem.W.keepIn K (.ref f2) = true) (mC : mg "check_claims" = some (.ref f2))
    (GB : FnOk P w K mg base CX0 3 f3 fd3 ["forest", "balances"] (spCkBal C)) (bB : Binds K fd3 ["forest", "balances"] []) (kB : PySem.W.keepIn K (.ref f3) = true) (mB : mg "check_balances" = some (.ref f3))
    (GG : FnOk P w K mg base CX0 5 f5 fd5 ["forest", "claims", "balances"] (spGrants C)) (bG : Binds K fd5 ["forest", "claims", "balances"] []) (kG : PySem.W.keepIn K (.ref f5) = true) (mG : mg "grants" = some (.ref f5))
    (GW : FnOk P w K mg base CX0 5 f6 fd6 ["forest", "claims", "spent", "balances"] (spTight C)) (bW : Binds K fd6 ["forest", "claims", "spent", "balances"] []) (kW : PySem.W.keepIn K (.ref f6) = true) (mW : mg "tight_above" = some (.ref f6)) :
    FnOk P w K mg base CX0 6 f fd ["forest", "claims", "balances"] (spCert C) := by
  refine F.ok scCert (fun vs H Q E h => ?_) (fun cdv A outer s H vs Q E hr h => ?_)
  · obtain ⟨a, cl, b, rs, bs, cs, xs, rfl, _⟩ := h
    rfl
  · obtain ⟨a, cl, b, rs, bs, cs, xs, rfl, hF, hG, hcl, hcs, hco, hb, hB, k⟩ := h
    have hu := hu_of hr
    have nd := scCert.nd
    have hr3 : Room 3 (A.deeper (envOfC "certificate" (defScope sCertificate) s.heap.objs.size f cdv)) := hr.mono (by decide)
    have hr4 : Room 4 (A.deeper (envOfC "certificate" (defScope sCertificate) s.heap.objs.size f cdv)) := hr.mono (by decide)
    refine ⟨_, pss_cons (ps_expr (pe_call GC hr4 rfl mC kC bC .nil pass0 (pa_cons (pv 0) (pa_cons (pv 1) pa_nil))))
(pss_cons (ps_expr (pe_call GB hr3 rfl mB kB bB .nil pass0 (pa_cons (pv 0) (pa_cons (pv 2) pa_nil))))
(pss_cons (ps_set (i := 3) nd rfl (.inr rfl) (pe_call GG hr rfl mG kG bG .nil pass0 (pa_cons (pv 0) (pa_cons (pv 1) (pa_cons (pv 2) pa_nil)))))
(pss_cons (ps_set (i := 4) nd rfl (.inr rfl) (pe_call GW hr rfl mW kW bW .nil pass0 (pa_cons (pv 0) (pa_cons (pv 1) (pa_cons (pv 3) (pa_cons (pv 2) pa_nil))))))
(pss_one (ps_ret (pe_lc (own := [("rank", 5), ("_", 6), ("claim", 7)]) (g := gTup K 2 (gCons (gName 5) (gCons (gTup K 2 (gCons (gName 6) (gCons (gName 7) gNil))) gNil))) (tt := tYes) rfl nd (Gu.wI (t' := Gq.iEnumV 1) (Gq.pi_enumM rfl T.enum (pa_cons (pv 1) pa_nil)) Gq.iEnum_ok) (blkOk_by (N := nCert) (sc := defScope sCertificate) (by decide +kernel))
(fun _ _ _ _ _ => (by exact (pg_tup rfl (pgs_cons (pg_name (i := 5) nd rfl (.inl rfl)) (pgs_cons (by exact (pg_tup rfl (pgs_cons (pg_name (i := 6) nd rfl (.inl rfl)) (pgs_cons (pg_name (i := 7) nd rfl (.inl rfl)) pgs_nil)))) pgs_nil))))) (fun _ _ _ _ _ => pts_nil) (fun _ _ _ _ _ => pe_ifExp (pt_cmpR op_eq (pe_ix (r := rIxL K) ix_list (pv 3) (pv 5) (fun _ _ => rfl)) (pv 7) (nomark _)) pe_non (pe_ix (r := rIxL K) ix_list (pe_ix (r := rIxL K) ix_list (pv 4) (pv 5) (fun _ _ => rfl)) pe_int (fun _ _ => rfl))))))))), ?_⟩
    have c20 := hco.1
    have xl := hcs.1
    have hcn : ∀ c ∈ cs, c.1 ∈ fNames rs := fun c hc => (hco.2 c hc).1
    refine ⟨_, rfl, _, rfl, a, cl, rs, cs, xs, rfl, hF, hG, hcl, hcs, hco, fun H1 k1 => ?_⟩
    refine ⟨_, rfl, _, rfl, a, b, rs, bs, rfl, hF.ext k1, hG, k1 _ _ hb, hB, fun H2 k2 => ?_⟩
    have k2 := k1.trans k2
    refine ⟨_, rfl, _, rfl, _, rfl, a, cl, b, rs, bs, cs, xs, rfl, hF.ext k2, hG, hcl.ext k2, hcs.ext k2, hcn, by omega, k2 _ _ hb, hB.1, fun H3 p k3 hp0 hp => ?_⟩
    have k3 := k2.trans k3
    have mix : Gm.Mix H3 cl p xs ((entF rs bs cs).map V.int) := (hcl.ext k3).elim (fun e => .inl (.inl ⟨e, hp⟩)) (fun e => .inr ⟨e, hp⟩)
    refine ⟨_, rfl, _, rfl, _, rfl, _, rfl, a, cl, p, b, rs, bs, cs, xs, _, rfl, hF.ext k3, hG, mix, hcs.ext k3, hcn, c20, ent_len, k3 _ _ hb, hB.1, fun H4 q k4 hq0 htg => ?_⟩
    have hp4 := k4 _ _ hp
    have k4 := k3.trans k4
    obtain ⟨ts, htl, hts⟩ := htg
    have hcl4 := hcl.ext k4
    refine ⟨cl, xs, rfl, hcl4, fun J hJ D hD => ?_⟩
    have hD0 : H D = none := none_of k4 hD
    refine lc_it hJ (fun i H' => H' D = some (.lst ((wtL rs bs cs i).map parV)) ∧ Ext H4 H') ⟨upd_same, Ext.new hD⟩ (fun i H' _ ⟨_, e⟩ => ?_) ?_ ?_
    · rcases hcl4 with h | h
      · exact (e _ _ h).trans h.symm
      · exact (e _ _ h).trans h.symm
    · rintro i x H5 H5' hi ⟨d5, k5⟩ ⟨t, x1, x2, rfl, ht, rfl, e1, e2⟩
      cases e1
      have e2 : xs[i]? = some x2 := e2
      obtain ⟨cc, pc, hc, rfl, hpc⟩ := hcs.get e2
      have hil := (List.getElem?_eq_some_iff.mp hc).1
      have k6 := k5.trans (Ext.new (o := .tup [.int (i : Nat), .ref pc]) ht)
      have d6 := new_same (o := .tup [.int (i : Nat), .ref pc]) ht _ _ d5
      refine ⟨t, _, rfl, SqT.of upd_same, rfl, _, _, rfl, _, _, rfl, pc, _, rfl, SqT.of (k6 _ _ (k4 _ _ hpc)), rfl, _, _, rfl, _, _, rfl, rfl, rfl, rfl, yes_of ?_⟩
      generalize upd H5 t (.tup [.int (i : Nat), .ref pc]) = H6 at k6 d6 ⊢
      have at_ : atI ((entF rs bs cs).map V.int) ((i : Nat) : Int) = some (.int (eGr rs bs cs i cc)) := atI_nat (by rw [List.getElem?_map, ent_at hc]; rfl)
      have fin : ∀ v : V, v = parV (wtF rs bs cs i) → ∃ acc, H6 D = some (.lst acc) ∧ acc.length < sizeLine ∧ upd H6 D (.lst (acc ++ [v])) D = some (.lst ((wtL rs bs cs (i + 1)).map parV)) ∧ Ext H4 (upd H6 D (.lst (acc ++ [v]))) := by
        rintro v rfl
        refine ⟨_, d6, ?_, ?_, fun x o e => ?_⟩
        · rw [List.length_map, wtL_len]
          exact small1000 (by omega)
        · rw [upd_same, wtL_s, List.map_append]
          rfl
        · rw [upd_ne (ne_of_none e hD)]
          exact k6 _ _ e
      refine ⟨_, rfl, _, rfl, p, _, _, _, rfl, rfl, SqL.of (k6 _ _ hp4), at_, _, rfl, rfl, _, rfl, ?_⟩
      by_cases e : eGr rs bs cs i cc = cc.2
      · rw [e, decide_eq_true rfl]
        refine iteT (fin _ ?_)
        unfold wtF
        rw [hc]
        simp only [e, if_true]
        rfl
      · rw [decide_eq_false (by intro h; injection h with h; exact e h)]
        refine iteF ?_
        obtain ⟨n, r, hn⟩ := tg_ne (bs := bs) hG hcn hc e
        obtain ⟨tg, ht1, ht2⟩ := pair_get hts (tgL_at hil)
        have ht3 : atI (ts.map V.ref) ((i : Nat) : Int) = some (.ref tg) := atI_nat (by rw [List.getElem?_map, ht1]; rfl)
        rw [hn] at ht2
        refine ⟨_, rfl, _, rfl, q, _, _, _, rfl, rfl, SqL.of (k6 _ _ htl), ht3, tg, _, _, _, rfl, rfl, SqL.of (k6 _ _ ht2), (show atI (V.str n :: r.map V.str) ((0 : Nat) : Int) = _ from atI_nat rfl), fin _ ?_⟩
        unfold wtF
        rw [hc]
        simp only [if_neg e, hn]
        rfl
    rintro H5 ⟨d5, k5⟩
    rw [xl] at d5
    exact k _ D (k4.trans k5) hD0 d5
end
end Lw

set_option Elab.async false
set_option linter.all false
set_option maxRecDepth 100000
set_option maxHeartbeats 4000000
namespace Lw
open L2 hiding Ext
open PySem PySem.Spec PyProof.Rows Gn Gr Gk Go Gt Gf Gu Gx Gdo
/-! ### balances that are none -/
/-- what is raised while a dict is locked -/
theorem takes_un {X : Cx} {W : WX} (tk : Takes X W) : Takes X (fun cls d σ H => ∃ dd od u, H dd = some (.frz od u) ∧ (∀ o' u', X.H_0 dd ≠ some (.frz o' u')) ∧ W cls d σ (upd H dd u)) :=
  fun u s' ⟨a, B, sI, pins, σ, H, cls, d, e, I, nb, up, sky, na, os, ag, dd, od, u', h1, h2, w⟩ =>
    tk u s' ⟨a, B, sI, pins, σ, upd H dd u', cls, d, e, I.unlock h1 h2, nb, up, sky, by rw [upd_ne (fun z => by rw [z, h1] at na; cases na)]; exact na, os, ag, w⟩
def keyB (ns : List Str) : OK → Bool
  | .sc (.inr s) => decide (s ∈ ns)
  | _ => false
def entB (ns : List Str) (z : EnV × PyData) : Bool := keyB ns z.1.1 && btwD 0 1000000000000 z.2
inductive Nd (d g : Addr) (H : Hp) : V → Prop
  | non : Nd d g H .non
  | bl (b : Bool) : Nd d g H (.bl b)
  | int (i : Int) : Nd d g H (.int i)
  | str (x : Str) : Nd d g H (.str x)
  | lst {a : Addr} {xs : List V} (h : H a = some (.lst xs)) (n1 : a ≠ d) (n2 : a ≠ g) : Nd d g H (.ref a)
  | tup {a : Addr} {xs : List V} (h : H a = some (.tup xs)) (n1 : a ≠ d) (n2 : a ≠ g) : Nd d g H (.ref a)
theorem Nd.kp {d g : Addr} {H H' : Hp} {v : V} (h : Nd d g H v) (k : Kp d g H H') : Nd d g H' v := by
  cases h with
  | non => exact .non
  | bl b => exact .bl b
  | int i => exact .int i
  | str x => exact .str x
  | lst h n1 n2 => exact .lst (k _ _ n1 n2 h) n1 n2
  | tup h n1 n2 => exact .tup (k _ _ n1 n2 h) n1 n2
theorem Nd.ty {d g : Addr} {H : Hp} {v : V} (h : Nd d g H v) : ∃ T, TyT H v T ∧ kitB T "dict" = some false := by
  cases h with
  | non => exact ⟨_, .non, by decide +kernel⟩
  | bl b => exact ⟨_, .bl b, by decide +kernel⟩
  | int i => exact ⟨_, .int i, by decide +kernel⟩
  | str x => exact ⟨_, .str x, by decide +kernel⟩
  | lst h => exact ⟨_, .lst h, by decide +kernel⟩
  | tup h => exact ⟨_, .tup h, by decide +kernel⟩
/-- no balances of these accounts -/
inductive Bx (P : Program) (w : World) (d g : Addr) (ns : List Str) (H : Hp) : V → Prop
  | nd {v : V} (h : Nd d g H v) : Bx P w d g ns H v
  | raw {a : Addr} {zs : List (EnV × PyData)} (h : H a = some (RawV P w a (zs.map (·.1)))) (n1 : a ≠ d) (n2 : a ≠ g) (hk : EnK H (zs.map (·.1))) (hd : ∀ z ∈ zs, Dk d g H z.1.2.2 z.2) (hb : ∃ z ∈ zs, entB ns z = false) (hl : zs.length ≤ 100) : Bx P w d g ns H (.ref a)
theorem Bx.kp {P : Program} {w : World} {d g c : Addr} {n : List Int} {b : Nat} {ns : List Str} {H H' : Hp} {v : V} (h : Bx P w d g ns H v) (D : Dw n d g c b H) (k : Kp d g H H') : Bx P w d g ns H' v := by
  obtain ⟨⟨gs, l, t, hd0, hg0, _, _⟩, _⟩ := D
  cases h with
  | nd h => exact .nd (h.kp k)
  | raw h n1 n2 hk hd hb hl => exact .raw (k _ _ n1 n2 h) n1 n2 (hk.ext fun a xs e => k _ _ (ne_of e hd0 (by intro z; cases z)) (ne_of e hg0 (by intro z; cases z)) e) (fun z hz => (hd z hz).kp k) hb hl
theorem Bx.ext {P : Program} {w : World} {d g : Addr} {ns : List Str} {H H' : Hp} {v : V} (h : Bx P w d g ns H v) (k : Ext H H') : Bx P w d g ns H' v := by
  cases h with
  | nd h => exact .nd (h.kp (Kp.of k))
  | raw h n1 n2 hk hd hb hl => exact .raw (k _ _ h) n1 n2 (hk.ext fun a xs e => k _ _ e) (fun z hz => (hd z hz).kp (Kp.of k)) hb hl
theorem key_in {ns : List Str} {H : Hp} {k : OK} {v : V} (h : KyV H k v) : (flatV v = true ∧ inV v (ns.map V.str) = keyB ns k) ∨ ∃ a, v = .ref a ∧ Gj.Cont H a ∧ keyB ns k = false := by
  cases k with
  | non =>
    cases (show v = .non from h)
    exact .inl ⟨rfl, inV_not fun s e => by cases e⟩
  | bo b =>
    cases (show v = .bl b from h)
    exact .inl ⟨rfl, inV_not fun s e => by cases e⟩
  | sc k =>
    cases (show v = kV k from h)
    cases k with
    | inl i => exact .inl ⟨rfl, inV_not fun s e => by cases e⟩
    | inr s => exact .inl ⟨rfl, inV_strs s ns⟩
  | tp ks =>
    obtain ⟨a, rfl, e⟩ := h
    exact .inr ⟨a, rfl, .inr (.inl ⟨_, e⟩), rfl⟩
theorem all_take {α : Type} {f : α → Bool} {l : List α} {i : Nat} {x : α} (h : l[i]? = some x) : (l.take (i + 1)).all f = ((l.take i).all f && f x) := by
  rw [List.take_add_one, h, List.all_append]
  simp
section
variable {P : Program} {w : World} {K : PySem.W.Frag} {mg : Str → Option Value} {base : Heap} {C fI pN fN fA CF : Addr} {mc : Value} {fdN fdA : FuncData}
def spCkBalX (P : Program) (w : World) (C CF : Addr) : Sp := fun vs H Q E => ∃ (a d g : Addr) (v : V) (rs : List FRow), vs = [.ref a, v] ∧ FoAt C H a rs ∧ Bx P w d g (fNames rs) H v ∧ ∀ H', Ext H H' → E (.ref CF) none H'
theorem ok_ckBalX {f fJ : Addr} {fd fdJ : FuncData} (F : Fun K "check_balances" "check_balances" sCheckBalances f fd) (T : Names mg) (Y : XE1 K mg "InvalidBalances" CF) (Z : Fo P w K mg base C fI pN fN fA mc fdN fdA) (hM : ∃ t, mg "MOST_BALANCE" = some (.int 1000000000000 t))
    (GI : FnOk P w K mg base CX0 1 fJ fdJ ["value"] spInt) (bI : Binds K fdJ ["value"] []) (kI : PySem.W.keepIn K (.ref fJ) = true) (mI : mg "is_int" = some (.ref fJ)) :
    FnOk P w K mg base (L2.CX P w) 3 f fd ["forest", "balances"] (spCkBalX P w C CF) := by
  refine F.okX scCkBal (fun vs H Q E h => ?_) (fun cdv A outer s H vs Q E hr h => ?_)
  · obtain ⟨a, d, g, v, rs, rfl, _⟩ := h
    rfl
  · obtain ⟨a, d, g, v, rs, rfl, hF, hv, kf⟩ := h
    have hu := hu_of hr
    have nd := scCkBal.nd
    have hrN := hr
    have hr1 : Room 1 (A.deeper (envOfC "check_balances" (defScope sCheckBalances) s.heap.objs.size f cdv)) := hr.mono (by decide)
    obtain ⟨tM, hM⟩ := hM
    refine ⟨_, pss_cons (ps_if (pt_not (pt_val (pe_callB (id := "isinstance") (r := Gdo.rIsE P w K) (Gdo.call_isE rfl rfl) rfl T.isi (by decide +kernel) (pa_cons (pv 1) (pa_cons (pe_bltn (v := .ty "dict") rfl T.dict (by decide +kernel) rfl) pa_nil))))) (pss_one (ps_raise rfl (takes_of rfl rfl rfl rfl) (pmk_own PySem.F.excBase_ValueError Y.xF Y.gF Y.kF (raises_own Y.bF Y.tF) rfl))) pss_nil)
(pss_one (ps_lock (ps_for (passes_of rfl) rfl (Gdo.pi_itemsR (P := P) (w := w) rfl rfl (pv 1)) (by exact (pg_tup rfl (pgs_cons (pg_name (i := 2) nd rfl (.inl rfl)) (pgs_cons (pg_name (i := 3) nd rfl (.inl rfl)) pgs_nil))))
(pss_cons (ps_if (pt_cmpR (Gj.op_notInO hr.units) (pv 2) (pe_prop (pv 0) Z.Z.cl Z.hpN Z.GN hrN Z.bN .nil pass0 rfl) rfl) (pss_one (ps_raise rfl (takes_un (takes_of rfl rfl rfl rfl)) (pmk_own PySem.F.excBase_ValueError Y.xF Y.gF Y.kF (raises_own Y.bF Y.tF) rfl))) pss_nil)
(pss_one (ps_if (PW.pt (pw_or (pt_not (pt_val (pe_call GI hr1 rfl mI kI bI .nil pass0 (pa_cons (pv 3) pa_nil)))) (pw_or1 (pt_not (pt_chain op_le op_le pe_int (pv 3) (pe_glob (v := .int 1000000000000) rfl hM ⟨_, rfl⟩)))))) (pss_one (ps_raise rfl (takes_un (takes_of rfl rfl rfl rfl)) (pmk_own PySem.F.excBase_ValueError Y.xF Y.gF Y.kF (raises_own Y.bF Y.tF) rfl))) pss_nil)))))), ?_⟩
    cases hv with
    | nd h =>
      obtain ⟨T', ht, hk⟩ := h.ty
      exact ⟨_, rfl, _, _, _, _, false, rfl, .ty _, .x ht.x, kit_ty hk, false, rfl, iteT (kf _ Ext.refl)⟩
    | @raw b zs hb n1 n2 hk hd hbad hl =>
      refine ⟨_, rfl, _, _, _, _, true, rfl, .ty _, .raw hb, kit_ty (by decide +kernel), true, rfl, iteF ?_⟩
      refine ⟨b, _, hb, trivial, fun od => ?_⟩
      refine ⟨_, rfl, b, od, rfl, .inr ⟨_, upd_same, ?_⟩⟩
      obtain ⟨dx, q0, h1, h2⟩ := id hF
      have hn : ∀ o' u', H b ≠ some (.frz o' u') := fun o' u' e => by rw [hb] at e; cases e
      have ql : b ≠ q0 := ne_of hb h2 (by intro z; cases z)
      have al : b ≠ a := ne_of hb h1 (by intro z; cases z)
      have fo : ∀ {H' : Hp}, Ext (upd H b (.frz od (RawV P w b (zs.map (·.1))))) H' → H' a = some (.ins C dx [("_parents", .ref q0)]) ∧ H' q0 = some (.dK (kvs rs)) := fun {H'} e =>
        ⟨e _ _ (lock_in al.symm h1), e _ _ (lock_in ql.symm h2)⟩
      have fin : ∀ {H' : Hp}, Ext (upd H b (.frz od (RawV P w b (zs.map (·.1))))) H' → ∃ dd od' u, H' dd = some (.frz od' u) ∧ (∀ o' u', H dd ≠ some (.frz o' u')) ∧ E (.ref CF) none (upd H' dd u) := fun {H'} e =>
        ⟨b, od, _, e _ _ upd_same, hn, kf _ (lock_ext hb e)⟩
      refine for_it walk_itemsR (fun i σ H' => ∃ (v2 v3 : Option V), σ = [some (.ref a), some (.ref b), v2, v3] ∧ Ext (upd H b (.frz od (RawV P w b (zs.map (·.1))))) H' ∧ (zs.take i).all (entB (fNames rs)) = true) ⟨none, none, rfl, Ext.refl, rfl⟩ (fun i σ H' _ ⟨_, _, _, e, _⟩ => e b _ upd_same) ?_ ?_
      · rintro i x σ H5 H6 hi ⟨v2, v3, rfl, k5, ha⟩ ⟨T', x1, x2, rfl, hT, rfl, e1, e2⟩
        have e1 : ((zs.map (·.1))[i]?.map fun e => e.2.1) = some x1 := e1
        have e2 : ((zs.map (·.1))[i]?.map fun e => e.2.2) = some x2 := e2
        rw [List.getElem?_map] at e1 e2
        obtain ⟨z, hz⟩ : ∃ z, zs[i]? = some z := by
          rw [List.length_map] at hi
          exact ⟨_, List.getElem?_eq_getElem hi⟩
        rw [hz] at e1 e2
        obtain rfl : z.1.2.1 = x1 := Option.some.inj e1
        obtain rfl : z.1.2.2 = x2 := Option.some.inj e2
        have hzm := List.mem_of_getElem? hz
        have ka := all_take (f := entB (fNames rs)) hz
        rw [ha, Bool.true_and] at ka
        have k6 := k5.trans (Ext.new (o := .tup [z.1.2.1, z.1.2.2]) hT)
        refine ⟨T', _, rfl, SqT.of upd_same, rfl, _, _, rfl, _, _, rfl, rfl, ?_⟩
        generalize upd H5 T' (.tup [z.1.2.1, z.1.2.2]) = H6 at k6 ⊢
        obtain ⟨g1, g2⟩ := fo k6
        have kk : ∀ {H' : Hp}, Ext (upd H b (.frz od (RawV P w b (zs.map (·.1))))) H' → ∀ c xs, H c = some (.tup xs) → H' c = some (.tup xs) := fun {H'} e c xs h =>
          e _ _ (lock_in (ne_of h hb (by intro z; cases z)) h)
        refine ⟨_, rfl, _, rfl, a, dx, _, rfl, g1, a, rs, rfl, ⟨dx, q0, g1, g2⟩, fun H7 t k7 _ ht => ?_⟩
        have k67 := k6.trans k7
        have hky := ((hk z.1 (List.mem_map.mpr ⟨z, hzm, rfl⟩)).1).ext (kk k67)
        refine ⟨t, fNames rs, rfl, .inr ht, ?_⟩
        have eb : entB (fNames rs) z = (keyB (fNames rs) z.1.1 && btwD 0 1000000000000 z.2) := rfl
        rcases key_in (ns := fNames rs) hky with ⟨hf, hin⟩ | ⟨a', e', hc, hin⟩
        · refine .inl ⟨hf, ?_⟩
          show ∃ b, V.bl (!inV z.1.2.1 ((fNames rs).map V.str)) = V.bl b ∧ _
          rw [hin]
          cases hkb : keyB (fNames rs) z.1.1 with
          | false => exact ⟨_, rfl, iteT (fin k67)⟩
          | true =>
            refine ⟨_, rfl, iteF ?_⟩
            rw [hkb, Bool.true_and] at eb
            have dv := hd z hzm
            have dv7 : ∀ (o : HO) (c : Addr), z.1.2.2 = .ref c → H c = some o → c ≠ b → H7 c = some o := fun o c _ h n => k67 _ _ (lock_in n h)
            generalize z.1.2.2 = v4 at dv dv7 ⊢
            generalize z.2 = y4 at dv eb ⊢
            cases dv with
            | int i' =>
              refine ⟨_, rfl, _, _, rfl, .inl ⟨i', rfl, rfl⟩, true, rfl, iteF ?_⟩
              refine ⟨_, rfl, _, _, rfl, rfl, _, rfl, ?_⟩
              by_cases c0 : 0 ≤ i'
              · refine iteS c0 ?_
                refine ⟨_, _, rfl, rfl, _, rfl, ?_⟩
                show if (!decide (i' ≤ 1000000000000)) = true then _ else _
                by_cases c1 : i' ≤ 1000000000000
                · rw [decide_eq_true c1]
                  refine iteF ?_
                  refine ⟨_, _, rfl, k67, ?_⟩
                  rw [ka, eb]
                  unfold btwD
                  simp [c0, c1]
                · rw [decide_eq_false c1]
                  exact iteT (fin k67)
              · have hf : decide ((0 : Int) ≤ i') = false := decide_eq_false c0
                show if decide ((0 : Int) ≤ i') = true then _ else _
                rw [hf]
                refine iteF ?_
                exact ⟨_, rfl, iteT (fin k67)⟩
            | non => exact ⟨_, rfl, _, _, rfl, .inr ⟨rfl, .inl .non⟩, false, rfl, iteT (fin k67)⟩
            | bl b' => exact ⟨_, rfl, _, _, rfl, .inr ⟨rfl, .inr (.inl (.bl b'))⟩, false, rfl, iteT (fin k67)⟩
            | str s' => exact ⟨_, rfl, _, _, rfl, .inr ⟨rfl, .inr (.inr (.inl (.str s')))⟩, false, rfl, iteT (fin k67)⟩
            | lst hq => exact ⟨_, rfl, _, _, rfl, .inr ⟨rfl, .inr (.inr (.inr (.inl (.lst (dv7 _ _ rfl hq (ne_of hq hb (by intro z; cases z)))))))⟩, false, rfl, iteT (fin k67)⟩
            | tup hq => exact ⟨_, rfl, _, _, rfl, .inr ⟨rfl, .inr (.inr (.inr (.inr (.inl (.tup (dv7 _ _ rfl hq (ne_of hq hb (by intro z; cases z))))))))⟩, false, rfl, iteT (fin k67)⟩
            | dct hq => exact ⟨_, rfl, _, _, rfl, .inr ⟨rfl, .inr (.inr (.inr (.inr (.inr (.dct (dv7 _ _ rfl hq (ne_of hq hb (by intro z; cases z))))))))⟩, false, rfl, iteT (fin k67)⟩
        · rw [e']
          exact .inr ⟨a', rfl, hc, ⟨_, rfl, iteT (fin k67)⟩⟩
      · rintro σ H5 ⟨v2, v3, rfl, k5, ha⟩
        obtain ⟨z, hz, hzb⟩ := hbad
        rw [List.length_map, List.take_length, List.all_eq_true] at ha
        rw [ha z hz] at hzb
        cases hzb
end
end Lw

set_option Elab.async false
set_option linter.all false
set_option maxRecDepth 100000
set_option maxHeartbeats 4000000
namespace Lw
open L2 hiding Ext
open PySem PySem.Spec PyProof.Rows Gn Gr Gk Go Gt Gf Gu Gx Gdo
/-! ### _law_are_balances of any value -/
mutual
theorem dk_no {d g b : Addr} {φ : Heap → Prop} {H H' : Hp} (hb : H b = some (.ext φ)) (k : ∀ c o, H c = some o → c ≠ b → H' c = some o) : ∀ {v : V} {x : PyData}, Dk d g H v x → Dk d g H' v x
  | _, _, .non => .non
  | _, _, .bl b => .bl b
  | _, _, .int i => .int i
  | _, _, .str x => .str x
  | _, _, .lst h n1 n2 a => .lst (k _ _ h (ne_of h hb (by intro z; cases z))) n1 n2 (dk_noAll hb k a)
  | _, _, .tup h n1 n2 a => .tup (k _ _ h (ne_of h hb (by intro z; cases z))) n1 n2 (dk_noAll hb k a)
  | _, _, .dct h n1 n2 => .dct (k _ _ h (ne_of h hb (by intro z; cases z))) n1 n2
theorem dk_noAll {d g b : Addr} {φ : Heap → Prop} {H H' : Hp} (hb : H b = some (.ext φ)) (k : ∀ c o, H c = some o → c ≠ b → H' c = some o) : ∀ {vs : List V} {ds : List PyData}, DkAll d g H vs ds → DkAll d g H' vs ds
  | _, _, .nil => .nil
  | _, _, .cons h a => .cons (dk_no hb k h) (dk_noAll hb k a)
end
section
variable {P : Program} {w : World} {K : PySem.W.Frag} {mg : Str → Option Value} {base : Heap} {C fI pN fN fA CF : Addr} {mc : Value} {fdN fdA : FuncData}
abbrev nLAreB : List Str := ["_law_names", "_law_value", "_law_key"]
def spLBl (P : Program) (w : World) : Sp := fun vs H Q _ => ∃ (ln d g : Addr) (v : V) (rs : List FRow), vs = [.ref ln, v] ∧ H ln = some (.lst ((fNames rs).map V.str)) ∧
  ((Bx P w d g (fNames rs) H v ∧ ∀ H', Ext H H' → Q (.bl false) H') ∨ ∃ b bs, v = .ref b ∧ H b = some (.dK (dB bs)) ∧ BsOk rs bs ∧ bs.length ≤ 100 ∧ ∀ H', Ext H H' → Q (.bl true) H')
theorem scLAreB : FnScope nLAreB ["_law_names", "_law_value"] (defScope sLAreBalances) := ⟨rfl, rfl, rfl, by decide +kernel, rfl, by decide +kernel, by decide +kernel⟩
theorem ok_lbal {f fB : Addr} {fd fdB : FuncData} (F : Fun K "_law_are_balances" "_law_are_balances" sLAreBalances f fd) (T : Names mg)
    (GB : FnOk P w K mg base CX0 1 fB fdB ["_law_value", "_law_least", "_law_most"] spBtw) (bB : Binds K fdB ["_law_value", "_law_least", "_law_most"] []) (kB : PySem.W.keepIn K (.ref fB) = true) (mB : mg "_law_is_between" = some (.ref fB)) :
    FnOk P w K mg base CX0 2 f fd ["_law_names", "_law_value"] (spLBl P w) := by
  refine F.ok scLAreB (fun vs H Q E h => ?_) (fun cdv A outer s H vs Q E hr h => ?_)
  · obtain ⟨ln, d, g, v, rs, rfl, _⟩ := h
    rfl
  · obtain ⟨ln, d, g, v, rs, rfl, hln, hv⟩ := h
    have hu := hu_of hr
    have nd := scLAreB.nd
    have hr1 := hr
    have hu2 : (A.deeper (envOfC "_law_are_balances" (defScope sLAreBalances) s.heap.objs.size f cdv)).units + 2 < cLine := by have := hr.units; omega
    refine ⟨_, pss_cons (ps_if (pt_not (pt_val (pe_callB (id := "isinstance") (r := Gdo.rIsE P w K) (Gdo.call_isE rfl rfl) rfl T.isi (by decide +kernel) (pa_cons (pv 1) (pa_cons (pe_bltn (v := .ty "dict") rfl T.dict (by decide +kernel) rfl) pa_nil))))) (pss_one (ps_ret pe_bl)) pss_nil)
(pss_one (ps_ret (pe_cmpR (Gj.op_eqE hr.units) (pe_lock (pe_lc (own := [("_law_key", 2)]) (g := gName 2) rfl nd (Gdo.pi_keysR (P := P) (w := w) rfl rfl (pv 1)) (blkOk_by (N := nLAreB) (sc := defScope sLAreBalances) (by decide +kernel))
(fun _ _ _ _ _ => pg_name (i := 2) nd rfl (.inl rfl)) (fun _ _ _ _ _ => pts_one (PW.pt (pw_or (pt_cmpR (Gj.op_notInO hr.units) (pv 2) (pv 0) rfl) (pw_or1 (pt_not (pt_val (pe_call GB hr1 rfl mB kB bB .nil pass0 (pa_cons (Gdo.pe_rget (P := P) (w := w) rfl rfl hu2 (pv 1) (pv 2) (fun _ _ => rfl)) (pa_cons pe_int (pa_cons (pe_op op_pow pe_int pe_int) pa_nil)))))))))) (fun _ _ _ _ _ => pv 2))) (pe_lst pa_nil) (nomark _)))), ?_⟩
    have p12 : ((10 : Int) ^ Int.toNat 12) = 1000000000000 := by decide +kernel
    rcases hv with ⟨hv, k⟩ | ⟨b, bs, rfl, hb, hB, hl, k⟩
    · cases hv with
      | nd h =>
        obtain ⟨T', ht, hk⟩ := h.ty
        exact ⟨_, rfl, _, _, _, _, false, rfl, .ty _, .x ht.x, kit_ty hk, false, rfl, iteT (k _ Ext.refl)⟩
      | @raw b zs hb n1 n2 hk hd hbad hl =>
        refine ⟨_, rfl, _, _, _, _, true, rfl, .ty _, .raw hb, kit_ty (by decide +kernel), true, rfl, iteF ?_⟩
        refine ⟨b, _, hb, trivial, fun od => ?_⟩
        refine ⟨_, rfl, b, od, rfl, .inr ⟨_, upd_same, fun D hD => ?_⟩⟩
        have nl : ln ≠ b := ne_of hln hb (by intro z; cases z)
        have kk : ∀ {H' : Hp}, Ext (upd H b (.frz od (RawV P w b (zs.map (·.1))))) H' → ∀ c o, H c = some o → c ≠ b → H' c = some o := fun {H'} e c o h n => e _ _ (lock_in n h)
        have hD0 : H D = none := by
          cases e : H D with
          | none => rfl
          | some u =>
            by_cases n : D = b
            · rw [n, upd_same] at hD; cases hD
            · rw [upd_ne n, e] at hD; cases hD
        refine lc_it walk_keysR (fun i H' => ∃ xs : List V, H' D = some (.lst xs) ∧ xs.length ≤ i ∧ xs.isEmpty = (zs.take i).all (entB (fNames rs)) ∧ Ext (upd H b (.frz od (RawV P w b (zs.map (·.1))))) H') ⟨[], upd_same, Nat.le_refl _, rfl, Ext.new hD⟩ (fun i H' _ ⟨_, _, _, _, e⟩ => e b _ upd_same) ?_ ?_
        · rintro i y H2 H2' hi ⟨xs, z1, z2, z3, k2⟩ ⟨rfl, hy⟩
          obtain ⟨z, hz⟩ : ∃ z, zs[i]? = some z := by
            rw [List.length_map] at hi
            exact ⟨_, List.getElem?_eq_getElem hi⟩
          rw [List.getElem?_map, List.getElem?_map, hz] at hy
          obtain rfl : z.1.2.1 = y := Option.some.inj hy
          have hzm := List.mem_of_getElem? hz
          have ka := all_take (f := entB (fNames rs)) hz
          have kt : ∀ c xs, H c = some (.tup xs) → H2' c = some (.tup xs) := fun c xs h => kk k2 c _ h (ne_of h hb (by intro z; cases z))
          have hky := ((hk z.1 (List.mem_map.mpr ⟨z, hzm, rfl⟩)).1).ext kt
          have eb : entB (fNames rs) z = (keyB (fNames rs) z.1.1 && btwD 0 1000000000000 z.2) := rfl
          have i100 : i < 100 := by rw [List.length_map] at hi; omega
          have no : entB (fNames rs) z = false → ∃ acc, H2' D = some (.lst acc) ∧ acc.length < sizeLine ∧ ∃ xs : List V, (upd H2' D (.lst (acc ++ [z.1.2.1]))) D = some (.lst xs) ∧ xs.length ≤ i + 1 ∧ xs.isEmpty = (zs.take (i + 1)).all (entB (fNames rs)) ∧ Ext (upd H b (.frz od (RawV P w b (zs.map (·.1))))) (upd H2' D (.lst (acc ++ [z.1.2.1]))) := fun hf => by
            refine ⟨xs, z1, small1000 (by omega), _, upd_same, by rw [List.length_append]; show _ + 1 ≤ _; omega, ?_, fun c o e => ?_⟩
            · rw [ka, hf, Bool.and_false]
              cases xs <;> rfl
            · rw [upd_ne (ne_of_none e hD)]
              exact k2 _ _ e
          refine ⟨rfl, ?_⟩
          refine ⟨_, rfl, _, rfl, ln, fNames rs, rfl, .inl (kk k2 _ _ hln nl), ?_⟩
          rcases key_in (ns := fNames rs) hky with ⟨hf, hin⟩ | ⟨a', e', hc, hin⟩
          · refine .inl ⟨hf, ?_⟩
            refine ⟨_, rfl, ?_⟩
            show if (!inV z.1.2.1 ((fNames rs).map V.str)) = true then _ else _
            rw [hin]
            cases hkb : keyB (fNames rs) z.1.1 with
            | false =>
              rw [hkb, Bool.false_and] at eb
              exact iteT ⟨_, rfl, no eb⟩
            | true =>
              rw [hkb, Bool.true_and] at eb
              refine iteF ?_
              refine ⟨_, rfl, _, rfl, b, z.1.2.2, rfl, .inr ⟨zs.map (·.1), z.1, .inr ⟨od, k2 _ _ upd_same⟩, hk.ext kt, List.mem_map.mpr ⟨z, hzm, rfl⟩, hky, rfl⟩, ?_⟩
              refine ⟨_, _, rfl, rfl, ⟨by decide, by decide, by decide⟩, ?_⟩
              have dv : Dk d g H2' z.1.2.2 z.2 := by
                have dv := hd z hzm
                generalize z.1.2.2 = v4 at dv ⊢
                generalize z.2 = y4 at dv ⊢
                exact dk_no hb (fun c o h n => kk k2 c o h n) dv
              refine ⟨d, g, z.1.2.2, z.2, 0, 10 ^ Int.toNat 12, rfl, dv, ?_⟩
              rw [p12, ← eb]
              refine ⟨_, rfl, ?_⟩
              cases hb2 : entB (fNames rs) z with
              | false => exact iteT ⟨_, rfl, no hb2⟩
              | true =>
                refine iteF ⟨xs, z1, by omega, ?_, k2⟩
                rw [ka, hb2, z3, Bool.and_true]
          · rw [e']
            refine .inr ⟨a', rfl, hc, _, rfl, iteT ⟨_, rfl, ?_⟩⟩
            rw [hin, Bool.false_and] at eb
            have := no eb
            rw [e'] at this
            exact this
        rintro H2 ⟨xs, z1, z2, z3, k2⟩
        rw [List.length_map, List.take_length] at z3
        have ze : xs.isEmpty = false := by
          rw [z3]
          obtain ⟨z, hz, hzb⟩ := hbad
          rw [List.all_eq_false]
          exact ⟨z, hz, by rw [hzb]; exact Bool.false_ne_true⟩
        refine ⟨k2 _ _ upd_same, Nat.zero_le _, fun e2 he2 => ⟨D, e2, xs, rfl, rfl, SqL.of ?_, SqL.of upd_same, ?_⟩⟩
        · have nDb : D ≠ b := (ne_of_none hb hD0).symm
          rw [upd_ne (ne_of_none (o := .lst xs) (by rw [upd_ne nDb]; exact z1) he2), upd_ne nDb]
          exact z1
        · show Q (.bl xs.isEmpty) _
          rw [ze]
          exact k _ ((lock_ext hb k2).trans (Ext.new he2))
    · refine ⟨_, rfl, _, _, _, _, true, rfl, .ty _, .x (TyT.dct hb).x, kit_ty (by decide +kernel), true, rfl, iteF ?_⟩
      refine ⟨b, _, hb, trivial, fun od => ?_⟩
      refine ⟨_, rfl, b, od, rfl, .inl ⟨_, upd_same, fun D hD => ?_⟩⟩
      obtain ⟨⟨bn, bm⟩, bo⟩ := hB
      have hD0 : H D = none := by
        cases e : H D with
        | none => rfl
        | some u =>
          by_cases n : D = b
          · rw [n, upd_same] at hD; cases hD
          · rw [upd_ne n, e] at hD; cases hD
      by_cases nl : ln = b
      · rw [nl, hb] at hln
        cases hln
      refine lc_it walk_keys (fun i H' => H' D = some (.lst []) ∧ Ext (upd H b (.frz od (.dK (dB bs)))) H') ⟨upd_same, Ext.new hD⟩ (fun i H' _ ⟨_, e⟩ => e b _ upd_same) ?_ ?_
      · rintro i y H2 H2' hi ⟨d2, k2⟩ ⟨rfl, kk, vv, hy, rfl⟩
        unfold dB at hy
        rw [List.getElem?_map] at hy
        obtain ⟨p, hp, e⟩ := Option.map_eq_some_iff.mp hy
        cases e
        have hpm := List.mem_of_getElem? hp
        obtain ⟨b0, b1⟩ := bo p hpm
        refine ⟨rfl, ?_⟩
        refine ⟨_, rfl, _, rfl, ln, fNames rs, rfl, .inl (k2 _ _ (lock_in nl hln)), .inl ⟨rfl, _, rfl, ?_⟩⟩
        show if (!inV (V.str p.1) ((fNames rs).map V.str)) = true then _ else _
        rw [inV_strs, decide_eq_true (bm p hpm)]
        refine iteF ?_
        refine ⟨_, rfl, _, rfl, b, .int p.2, rfl, .inl (get_dB (.inr ⟨od, k2 _ _ upd_same⟩) bn hpm), ?_⟩
        refine ⟨_, _, rfl, rfl, ⟨by decide, by decide, by decide⟩, ?_⟩
        refine ⟨0, 0, .int p.2, .int p.2, 0, 10 ^ Int.toNat 12, rfl, .int _, ?_⟩
        rw [p12]
        have ez : btwD 0 1000000000000 (.int p.2) = true := decide_eq_true ⟨b0, b1⟩
        rw [ez]
        exact ⟨true, rfl, iteF ⟨d2, k2⟩⟩
      rintro H2 ⟨d2, k2⟩
      refine ⟨k2 _ _ upd_same, Nat.zero_le _, fun e2 he2 => ⟨D, e2, [], rfl, rfl, SqL.of ?_, SqL.of upd_same, ?_⟩⟩
      · have nDb : D ≠ b := (ne_of_none hb hD0).symm
        rw [upd_ne (ne_of_none (o := .lst []) (by rw [upd_ne nDb]; exact d2) he2), upd_ne nDb]
        exact d2
      · exact k _ ((lock_ext hb k2).trans (Ext.new he2))
end
end Lw

set_option Elab.async false
set_option linter.all false
set_option maxRecDepth 100000
set_option maxHeartbeats 4000000
namespace Lw
open L2 hiding Ext
open PySem PySem.Spec PyProof.Rows Gn Gr Gk Go Gt Gf Gu Gx Gdo
/-! ### _law_other_balances -/
theorem pair_all {α β : Type} {R : α → β → Prop} : ∀ {xs : List α}, (∀ x ∈ xs, ∃ y, R x y) → ∃ zs : List (α × β), zs.map (·.1) = xs ∧ ∀ z ∈ zs, R z.1 z.2
  | [], _ => ⟨[], rfl, fun z h => by cases h⟩
  | x :: r, h => by
    obtain ⟨y, hy⟩ := h x (List.mem_cons_self ..)
    obtain ⟨zs, z1, z2⟩ := pair_all (xs := r) fun x' hx => h x' (List.mem_cons_of_mem _ hx)
    refine ⟨(x, y) :: zs, by rw [List.map_cons, z1], fun z hz => ?_⟩
    rcases List.mem_cons.mp hz with rfl | hz
    · exact hy
    · exact z2 z hz
theorem bx_put {P : Program} {w : World} {d g p : Addr} {ns : List Str} {H : Hp} {bs : List (Str × Int)} {k : OK} {y v : V} {yv : PyData} (h : H p = some (RawV P w p (storV ((dB bs).map scE) k y v))) (n1 : p ≠ d) (n2 : p ≠ g) (hl : bs.length ≤ 90) (hk : KyV H k y) (hb : Big k) (hv : Dk d g H v yv) (bad : keyB ns k = false ∨ btwD 0 1000000000000 yv = false) :
    Bx P w d g ns H (.ref p) := by
  have k0 : EnK H ((dB bs).map scE) := fun x hx => by
    unfold dB at hx
    rw [List.map_map] at hx
    obtain ⟨q, _, rfl⟩ := List.mem_map.mp hx
    exact ⟨rfl, trivial⟩
  have kx := enk_stor (v := v) k0 hk hb
  have all : ∀ x ∈ storV ((dB bs).map scE) k y v, ∃ z, Dk d g H x.2.2 z ∧ (x.1 = k → z = yv) := fun x hx => by
    rcases storV_mem hx with ⟨x', h1, h2, h3, (⟨h4, h5⟩ | ⟨h4, h5⟩)⟩ | rfl
    · unfold dB at h1
      rw [List.map_map] at h1
      obtain ⟨q, _, rfl⟩ := List.mem_map.mp h1
      rw [h4]
      exact ⟨_, .int _, fun e => absurd e h5⟩
    · rw [h4]
      exact ⟨yv, hv, fun _ => rfl⟩
    · exact ⟨yv, hv, fun _ => rfl⟩
  obtain ⟨zs, e1, e2⟩ := pair_all all
  rw [← e1] at h kx
  refine .raw h n1 n2 kx (fun z hz => (e2 z hz).1) ?_ ?_
  · obtain ⟨x, hx, x1, x2⟩ := storV_at ((dB bs).map scE) k y v
    rw [← e1] at hx
    obtain ⟨z, hz, rfl⟩ := List.mem_map.mp hx
    refine ⟨z, hz, ?_⟩
    unfold entB
    rw [x1, (e2 z hz).2 x1]
    rcases bad with b | b
    · rw [b, Bool.false_and]
    · rw [b, Bool.and_false]
  · have := storV_len ((dB bs).map scE) k y v
    rw [← e1, List.length_map, List.length_map] at this
    unfold dB at this
    rw [List.length_map] at this
    omega
theorem putB_len (bs : List (Str × Int)) (n : Str) (z : Int) : (putB bs n z).length ≤ bs.length + 1 := by
  unfold putB
  split
  · rw [List.length_map]; omega
  · rw [List.length_append]; exact Nat.le_refl _
/-- balances, or none -/
def BalV (P : Program) (w : World) (d g : Addr) (rs : List FRow) (H : Hp) (v : V) : Prop := Bx P w d g (fNames rs) H v ∨ ∃ b bs, v = .ref b ∧ H b = some (.dK (dB bs)) ∧ BsOk rs bs ∧ b ≠ d ∧ b ≠ g ∧ bs.length ≤ 90
section
variable {P : Program} {w : World} {K : PySem.W.Frag} {mg : Str → Option Value} {base : Heap}
abbrev nLOB : List Str := ["_law_state", "_law_names", "_law_value", "_law_found", "_law_name", "_law_way"]
def spLOB (P : Program) (w : World) (ns : List Int) : Sp := fun vs H Q _ => ∃ (d g c l bp : Addr) (b : Nat) (rs : List FRow) (bs : List (Str × Int)), vs = [.ref d, .ref l, .ref bp] ∧ Dw ns d g c b H ∧ b ≤ 900000000 ∧ l ≠ d ∧ l ≠ g ∧ H l = some (.lst ((fNames rs).map V.str)) ∧ Good rs ∧ (∀ x ∈ fNames rs, nameOk x = true) ∧ H bp = some (.dK (dB bs)) ∧ bp ≠ d ∧ bp ≠ g ∧ BsOk rs bs ∧ bs.length ≤ 50 ∧
  ∀ v H', BalV P w d g rs H' v → Dw ns d g c (b + 10) H' → Kp d g H H' → Q v H'
theorem scLOB : FnScope nLOB ["_law_state", "_law_names", "_law_value"] (defScope sLOtherBalances) := ⟨rfl, rfl, rfl, by decide +kernel, rfl, by decide +kernel, by decide +kernel⟩
theorem ok_lobal {f fT fP : Addr} {fd fdT fdP : FuncData} (ns : List Int) (F : Fun K "_law_other_balances" "_law_other_balances" sLOtherBalances f fd) (T : Names mg) (R : Draw P w K mg base ns fT fP fdT fdP) : FnOk P w K mg base CX0 4 f fd ["_law_state", "_law_names", "_law_value"] (spLOB P w ns) := by
  refine F.ok scLOB (fun vs H Q E h => ?_) (fun cdv A outer s H vs Q E hr h => ?_)
  · obtain ⟨d, g, c, l, bp, b, rs, bs, rfl, _⟩ := h
    rfl
  · obtain ⟨d, g, c, l, bp, b, rs, bs, rfl, D, hb, nld, nlg, hl, G, hno, hbp, nbd, nbg, hB, h50, k⟩ := h
    have hu := hu_of hr
    have hu2 : (A.deeper (envOfC "_law_other_balances" (defScope sLOtherBalances) s.heap.objs.size f cdv)).units + 2 < cLine := by have := hr.un; omega
    have nd := scLOB.nd
    have hr3 : Room 3 (A.deeper (envOfC "_law_other_balances" (defScope sLOtherBalances) s.heap.objs.size f cdv)) := hr
    have hr2 : Room 2 (A.deeper (envOfC "_law_other_balances" (defScope sLOtherBalances) s.heap.objs.size f cdv)) := hr.mono (by decide)
    refine ⟨_, pss_cons (ps_par (i := 3) (j := 4) (by rfl) nd rfl rfl (by decide) rfl rfl (pa_cons (pe_callTy call_dictD rfl T.dict (by decide +kernel) (pa_cons (pv 2) pa_nil)) (pa_cons (pe_call R.GP hr3 rfl R.mP R.kP R.bP .nil pass0 (pa_cons (pv 0) (pa_cons (pv 1) pa_nil))) pa_nil)) (by rfl))
(pss_cons (ps_set (i := 5) nd rfl (.inl rfl) (pe_call R.GT hr2 rfl R.mT R.kT R.bT .nil pass0 (pa_cons (pv 0) (pa_cons pe_int pa_nil))))
(pss_cons (ps_if (pt_cmpR op_eq (pv 5) pe_int (nomark _)) (pss_one (ps_ret (pe_call R.GP hr3 rfl R.mP R.kP R.bP .nil pass0 (pa_cons (pv 0) (pa_cons (pe_lst (pa_cons pe_non (pa_cons (pe_lst pa_nil) (pa_cons pe_int (pa_cons pe_str (pa_cons (LiI.pe_listItems rfl (pv 2) rfl T.list (by decide +kernel)) (pa_cons (pe_tup pa_nil) (pa_cons pe_bl pa_nil)))))))) pa_nil))))) pss_nil)
(pss_cons (ps_if (pt_cmpR op_eq (pv 5) pe_int (nomark _)) (pss_one (Gdo.ps_oput (P := P) (w := w) rfl rfl hu2 (pv 3) (pe_call R.GP hr3 rfl R.mP R.kP R.bP .nil pass0 (pa_cons (pv 0) (pa_cons (pe_lst (pa_cons pe_str (pa_cons pe_non (pa_cons pe_int (pa_cons (pe_tup (pa_cons pe_str pa_nil)) (pa_cons pe_str (pa_cons pe_bl pa_nil))))))) pa_nil))) pe_int rfl)) (pss_one (Gdo.ps_oput (P := P) (w := w) rfl rfl hu2 (pv 3) (pv 4) (pe_call R.GP hr3 rfl R.mP R.kP R.bP .nil pass0 (pa_cons (pv 0) (pa_cons (pe_lst (pa_cons (pe_un un_neg pe_int) (pa_cons (pe_op op_pow pe_int pe_int) (pa_cons (pe_op op_add (pe_op op_pow pe_int pe_int) pe_int) (pa_cons pe_bl (pa_cons pe_non (pa_cons pe_str (pa_cons pe_int (pa_cons (pe_lst (pa_cons pe_int pa_nil)) pa_nil))))))))) pa_nil))) rfl)))
(pss_one (ps_ret (pv 3)))))), ?_⟩
    have nl : (fNames rs).length = rs.length := by rw [fNames, List.length_map]
    refine ⟨_, rfl, bp, _, rfl, .inl hbp, fun p hp => ?_⟩
    have j1 := Ext.new (o := .dK (dB bs)) hp
    have p1 : (upd H p (.dK (dB bs))) p = some (.dK (dB bs)) := upd_same
    have D1 := D.keep j1
    have npd := D.nd hp
    have npg := D.ng hp
    generalize upd H p (.dK (dB bs)) = H1 at j1 p1 D1 ⊢
    refine ⟨_, rfl, _, rfl, d, g, c, b, D1, by omega, .inl ⟨l, _, rfl, j1 _ _ hl, nld, nlg, by rw [List.length_map, nl]; exact G.1, by rw [List.length_map, nl]; have := G.2.1; omega, fun y H2 hy D2 k2 => ?_⟩⟩
    obtain ⟨n, hn, rfl⟩ := List.mem_map.mp hy
    have p2 := k2 _ _ npd npg p1
    have k12 := (Kp.of (d := d) (g := g) j1).trans k2
    have hl2 := k12 _ _ nld nlg hl
    have b2 := k12 _ _ nbd nbg hbp
    refine ⟨_, _, rfl, ?_⟩
    dsimp only [List.set]
    refine ⟨_, rfl, d, g, c, _, 4, rfl, D2, by omega, by decide, by decide, fun r H3 r0 r1 D3 k3 => ?_⟩
    have p3 := k3 _ _ npd npg p2
    have k13 := k12.trans k3
    have b3 := k13 _ _ nbd nbg hbp
    refine ⟨_, rfl, rfl, _, rfl, ?_⟩
    refine ite2 (fun _ => ?_) (fun _ => ?_)
    · -- no dict
      have Z : ∀ (H' : Hp) (v : V), Nd d g H' v → ∀ H'', Dw ns d g c (b + 10) H'' → Kp d g H H'' → Kp d g H' H'' → Q v H'' := fun H' v hv H'' D'' k'' kk => k v H'' (.inl (.nd (hv.kp kk))) D'' k''
      refine ⟨_, rfl, Nat.zero_le _, fun q1 hq1 => ?_⟩
      have a1 := Ext.new (o := .lst []) hq1
      have s1 : (upd H3 q1 (.lst [])) q1 = some (.lst []) := upd_same
      have q1d := D3.nd hq1
      have q1g := D3.ng hq1
      have D4 := D3.keep a1
      generalize upd H3 q1 (.lst []) = H4 at a1 s1 D4 ⊢
      refine ⟨_, rfl, bp, _, rfl, a1 _ _ b3, fun H5 q2 ts a2 hq2 _ _ s2 _ => ?_⟩
      have D5 := D4.keep a2
      have q2d := D4.nd hq2
      have q2g := D4.ng hq2
      refine ⟨Nat.zero_le _, fun q3 hq3 => ?_⟩
      have a3 := Ext.new (o := .tup []) hq3
      have s3 : (upd H5 q3 (.tup [])) q3 = some (.tup []) := upd_same
      have q3d := D5.nd hq3
      have q3g := D5.ng hq3
      have D6 := D5.keep a3
      generalize upd H5 q3 (.tup []) = H6 at a3 s3 D6 ⊢
      refine ⟨by show 7 ≤ sizeLine; decide, fun o1 ho1 => ?_⟩
      have a4 := Ext.new (o := .lst [.non, .ref q1, .int 5, .str "a", .ref q2, .ref q3, .bl true]) ho1
      refine ⟨d, g, c, _, D6.keep a4, by omega, .inl ⟨o1, _, rfl, upd_same, D6.nd ho1, D6.ng ho1, by show 0 < 7; decide, by show 7 ≤ 1000000; decide, fun y H8 hy D8 k8 => ?_⟩⟩
      have e38 : Kp d g H3 H8 := (Kp.of (fun x o e => a4 x o (a3 x o (a2 x o (a1 x o e))))).trans k8
      have kf := k13.trans e38
      have D8 := D8.mono (b' := b + 10) (by omega)
      have k68 : Kp d g H6 H8 := (Kp.of a4).trans k8
      simp only [List.mem_cons, List.not_mem_nil, or_false] at hy
      rcases hy with rfl | rfl | rfl | rfl | rfl | rfl | rfl
      · exact Z H6 _ .non H8 D8 kf k68
      · exact Z H6 _ (.lst (a3 _ _ (a2 _ _ s1)) q1d q1g) H8 D8 kf k68
      · exact Z H6 _ (.int _) H8 D8 kf k68
      · exact Z H6 _ (.str _) H8 D8 kf k68
      · exact Z H6 _ (.lst (a3 _ _ s2) q2d q2g) H8 D8 kf k68
      · exact Z H6 _ (.tup s3 q3d q3g) H8 D8 kf k68
      · exact Z H6 _ (.bl _) H8 D8 kf k68
    · refine ⟨_, rfl, rfl, _, rfl, ?_⟩
      have hp0 : p ≠ c := fun e => by
        have := D3.cl
        rw [← e, p3] at this
        cases this
      have big0 : ∀ q ∈ dB bs, Big (.sc q.1) := fun q hq => by
        unfold dB at hq
        obtain ⟨z, _, rfl⟩ := List.mem_map.mp hq
        trivial
      have len0 : (dB bs).length < sizeLine := by
        unfold dB
        rw [List.length_map]
        exact small1000 (by omega)
      refine ite2 (fun _ => ?_) (fun _ => ?_)
      · -- a key that is no account
        refine ⟨_, rfl, _, rfl, by show 1 ≤ sizeLine; decide, fun q1 hq1 => ?_⟩
        have a1 := Ext.new (o := .tup [.str "a"]) hq1
        have s1 : (upd H3 q1 (.tup [.str "a"])) q1 = some (.tup [.str "a"]) := upd_same
        have q1d := D3.nd hq1
        have q1g := D3.ng hq1
        have D4 := D3.keep a1
        generalize upd H3 q1 (.tup [.str "a"]) = H4 at a1 s1 D4 ⊢
        refine ⟨by show 6 ≤ sizeLine; decide, fun o1 ho1 => ?_⟩
        have a4 := Ext.new (o := .lst [.str "zzzzzzzzz", .non, .int 5, .ref q1, .str "", .bl true]) ho1
        refine ⟨d, g, c, _, D4.keep a4, by omega, .inl ⟨o1, _, rfl, upd_same, D4.nd ho1, D4.ng ho1, by show 0 < 6; decide, by show 6 ≤ 1000000; decide, fun y H8 hy D8 k8 => ?_⟩⟩
        have k48 : Kp d g H4 H8 := (Kp.of a4).trans k8
        have p8 := k48 _ _ npd npg (a1 _ _ p3)
        have kf : Kp d g H H8 := (k13.trans (Kp.of a1)).trans k48
        have go : ∀ kk : OK, KyV H8 kk y → Big kk → keyB (fNames rs) kk = false → ∃ H4, (DPut H8 p y (.int 1) H4 ∨ OPut P w H8 p y (.int 1) H4) ∧ Q (V.ref p) H4 := fun kk h1 h2 h3 => by
          refine ⟨_, .inr ⟨dB bs, kk, p8, big0, h1, h2, len0, rfl⟩, ?_⟩
          have kp' : Kp d g H (upd H8 p (RawV P w p (storV ((dB bs).map scE) kk y (.int 1)))) := fun x o n1 n2 e => by
            rw [upd_ne (ne_of_none e hp)]
            exact kf x o n1 n2 e
          refine k _ _ (.inl (bx_put (yv := .int 1) upd_same npd npg (by omega) (h1.ext fun x xs e => ?_) h2 (.int 1) (.inl h3))) (D8.put p8 npd npg hp0 |>.mono (by omega)) kp'
          rw [upd_ne (ne_of e p8 (by intro z; cases z))]
          exact e
        have noS : ∀ z : Str, nameOk z = false → keyB (fNames rs) (.sc (.inr z)) = false := fun z hz => decide_eq_false fun m => by
          have := hno z m
          rw [hz] at this
          cases this
        have fin : ∃ H4, (DPut H8 p y (.int 1) H4 ∨ OPut P w H8 p y (.int 1) H4) ∧ Q (V.ref p) H4 := by
          simp only [List.mem_cons, List.not_mem_nil, or_false] at hy
          rcases hy with rfl | rfl | rfl | rfl | rfl | rfl
          · exact go (.sc (.inr "zzzzzzzzz")) rfl trivial (noS _ (by decide +kernel))
          · exact go .non rfl trivial rfl
          · exact go (.sc (.inl 5)) rfl (by show (2 : Int) ≤ 5; decide) rfl
          · exact go (.tp [.inr "a"]) ⟨q1, rfl, k48 _ _ q1d q1g s1⟩ trivial rfl
          · exact go (.sc (.inr "")) rfl trivial (noS _ (by decide +kernel))
          · exact go (.bo true) rfl trivial rfl
        obtain ⟨H9, f1, f2⟩ := fin
        exact ⟨p, H9, rfl, f1, _, rfl, f2⟩
      · -- another value
        refine ⟨_, rfl, ?_⟩
        refine ⟨_, rfl, ?_⟩
        refine ⟨_, _, rfl, rfl, ⟨by decide, by decide, by decide⟩, ?_⟩
        refine ⟨_, _, rfl, rfl, ⟨by decide, by decide, by decide⟩, ?_⟩
        refine ⟨_, _, rfl, rfl, ?_⟩
        refine ⟨by show 1 ≤ sizeLine; decide, fun q1 hq1 => ?_⟩
        have a1 := Ext.new (o := .lst [.int 1]) hq1
        have s1 : (upd H3 q1 (.lst [.int 1])) q1 = some (.lst [.int 1]) := upd_same
        have q1d := D3.nd hq1
        have q1g := D3.ng hq1
        have D4 := D3.keep a1
        generalize upd H3 q1 (.lst [.int 1]) = H4 at a1 s1 D4 ⊢
        have p12 : ((10 : Int) ^ Int.toNat 12) = 1000000000000 := by decide +kernel
        rw [p12]
        refine ⟨by show 8 ≤ sizeLine; decide, fun o1 ho1 => ?_⟩
        have a4 := Ext.new (o := .lst [.int (-1), .int 1000000000000, .int (1000000000000 + 1), .bl true, .non, .str "1", .int 0, .ref q1]) ho1
        refine ⟨d, g, c, _, D4.keep a4, by omega, .inl ⟨o1, _, rfl, upd_same, D4.nd ho1, D4.ng ho1, by show 0 < 8; decide, by show 8 ≤ 1000000; decide, fun y H8 hy D8 k8 => ?_⟩⟩
        have k48 : Kp d g H4 H8 := (Kp.of a4).trans k8
        have p8 := k48 _ _ npd npg (a1 _ _ p3)
        have kf : Kp d g H H8 := (k13.trans (Kp.of a1)).trans k48
        have bad : ∀ x : PyData, (∀ H9 : Hp, (∀ c o, H8 c = some o → c ≠ p → H9 c = some o) → Dk d g H9 y x) → btwD 0 1000000000000 x = false → ∃ H4, (DPut H8 p (.str n) y H4 ∨ OPut P w H8 p (.str n) y H4) ∧ Q (V.ref p) H4 := fun x h1 h2 => by
          refine ⟨_, .inr ⟨dB bs, .sc (.inr n), p8, big0, rfl, trivial, len0, rfl⟩, ?_⟩
          have kp' : Kp d g H (upd H8 p (RawV P w p (storV ((dB bs).map scE) (.sc (.inr n)) (.str n) y))) := fun x o n1 n2 e => by
            rw [upd_ne (ne_of_none e hp)]
            exact kf x o n1 n2 e
          refine k _ _ (.inl (bx_put (yv := x) upd_same npd npg (by omega) rfl trivial (h1 _ fun c o h n => by rw [upd_ne n]; exact h) (.inr h2))) (D8.put p8 npd npg hp0 |>.mono (by omega)) kp'
        have good : ∀ i : Int, y = .int i → 0 ≤ i → i ≤ 1000000000000 → ∃ H4, (DPut H8 p (.str n) y H4 ∨ OPut P w H8 p (.str n) y H4) ∧ Q (V.ref p) H4 := fun i e h0 h1 => by
          subst e
          refine ⟨_, .inl (DPut.k (k := Sum.inr n) p8 len0), ?_⟩
          have kp' : Kp d g H (upd H8 p (.dK (putK (dB bs) (Sum.inr n) (.int i)))) := fun x o n1 n2 e => by
            rw [upd_ne (ne_of_none e hp)]
            exact kf x o n1 n2 e
          refine k _ _ (.inr ⟨p, putB bs n i, rfl, ?_, putB_ok hB hn h0 h1, npd, npg, by have := putB_len bs n i; omega⟩) (D8.put p8 npd npg hp0 |>.mono (by omega)) kp'
          rw [upd_same, dB_put]
        have fin : ∃ H4, (DPut H8 p (.str n) y H4 ∨ OPut P w H8 p (.str n) y H4) ∧ Q (V.ref p) H4 := by
          simp only [List.mem_cons, List.not_mem_nil, or_false] at hy
          rcases hy with rfl | rfl | rfl | rfl | rfl | rfl | rfl | rfl
          · exact bad _ (fun _ _ => (.int _)) (by decide)
          · exact good _ rfl (by decide) (by decide)
          · exact bad _ (fun _ _ => (.int _)) (by decide)
          · exact bad _ (fun _ _ => (.bl _)) rfl
          · exact bad _ (fun _ _ => .non) rfl
          · exact bad _ (fun _ _ => (.str _)) rfl
          · exact good _ rfl (by decide) (by decide)
          · exact bad _ (fun H9 e => .lst (e _ _ (k48 _ _ q1d q1g s1) (ne_of (k48 _ _ q1d q1g s1) p8 (by intro z; cases z))) q1d q1g (.cons (.int 1) .nil)) rfl
        obtain ⟨H9, f1, f2⟩ := fin
        exact ⟨_, rfl, _, rfl, p, H9, rfl, f1, _, rfl, f2⟩
end
end Lw

set_option Elab.async false
set_option linter.all false
set_option maxRecDepth 100000
set_option maxHeartbeats 8000000
namespace Lw
open L2 hiding Ext
open PySem PySem.Spec PyProof.Rows Gn Gr Gk Go Gt Gf Gu Gx Gdo
/-! ### _law_other_claims -/
theorem ve_non {d g : Addr} (H : Hp) : Ve d g H .non := ⟨_, .non, fun i e => by cases e⟩
theorem ve_tup {ns : List Int} {d g c : Addr} {b : Nat} {H : Hp} {t : Addr} {ys : List V} {ds : List PyData} (D : Dw ns d g c b H) (ht : H t = none) (h : ∀ H', DkAll d g H' ys ds) : Ve d g (upd H t (.tup ys)) (.ref t) :=
  ⟨_, .tup upd_same (D.nd ht) (D.ng ht) (h _), fun i e => by cases e⟩
theorem ve_lst {ns : List Int} {d g c : Addr} {b : Nat} {H : Hp} {t : Addr} {ys : List V} {ds : List PyData} (D : Dw ns d g c b H) (ht : H t = none) (h : ∀ H', DkAll d g H' ys ds) : Ve d g (upd H t (.lst ys)) (.ref t) :=
  ⟨_, .lst upd_same (D.nd ht) (D.ng ht) (h _), fun i e => by cases e⟩
theorem Ve.ext {d g : Addr} {H H' : Hp} {y : V} (h : Ve d g H y) (k : Ext H H') : Ve d g H' y := h.elim fun x h => ⟨x, h.1.kp (Kp.of k), h.2⟩
theorem vs_cat1 {ns : List Int} {d g c : Addr} {b : Nat} {H : Hp} {w p : Addr} {xs : List V} {e : V} (D : Dw ns d g c b H) (hw : H w = none) (hp : (upd H w (.lst [e])) p = none) (hx : ∀ y ∈ xs, Ve d g H y) (he : Ve d g H e) (hl : xs.length ≤ 50) :
    Ext H (upd (upd H w (.lst [e])) p (.lst (xs ++ [e]))) ∧ Vs d g (upd (upd H w (.lst [e])) p (.lst (xs ++ [e]))) (.ref p) := by
  have a := Ext.new (o := .lst [e]) hw
  refine ⟨a.trans (Ext.new hp), vs_new (D.keep a) hp (fun y hy => ?_) (by rw [List.length_append]; show _ + 1 ≤ 100; omega)⟩
  rcases List.mem_append.mp hy with hy | hy
  · exact (hx y hy).ext a
  · rw [List.mem_singleton.mp hy]
    exact he.ext a
theorem vs_cat {ns : List Int} {d g c : Addr} {b : Nat} {H : Hp} {t w p : Addr} {xs : List V} {o : HO} (D : Dw ns d g c b H) (ht : H t = none) (hw : (upd H t o) w = none) (hp : (upd (upd H t o) w (.lst [.ref t])) p = none) (hx : ∀ y ∈ xs, Ve d g H y) (he : Ve d g (upd H t o) (.ref t)) (hl : xs.length ≤ 50) :
    Ext H (upd (upd (upd H t o) w (.lst [.ref t])) p (.lst (xs ++ [.ref t]))) ∧ Vs d g (upd (upd (upd H t o) w (.lst [.ref t])) p (.lst (xs ++ [.ref t]))) (.ref p) := by
  have a := Ext.new (o := o) ht
  obtain ⟨h1, h2⟩ := vs_cat1 (D.keep a) hw hp (fun y hy => (hx y hy).ext a) he hl
  exact ⟨a.trans h1, h2⟩
theorem vs_rep {ns : List Int} {d g c : Addr} {b n : Nat} {H : Hp} {t w p : Addr} {o : HO} (D : Dw ns d g c b H) (ht : H t = none) (hw : (upd H t o) w = none) (hp : (upd (upd H t o) w (.lst [.ref t])) p = none) (he : Ve d g (upd H t o) (.ref t)) (hl : n ≤ 100) :
    Ext H (upd (upd (upd H t o) w (.lst [.ref t])) p (.lst (List.replicate n [.ref t]).flatten)) ∧ Vs d g (upd (upd (upd H t o) w (.lst [.ref t])) p (.lst (List.replicate n [.ref t]).flatten)) (.ref p) := by
  have a := Ext.new (o := o) ht
  have a2 := Ext.new (o := .lst [.ref t]) hw
  refine ⟨(a.trans a2).trans (Ext.new hp), vs_new (D.keep (a.trans a2)) hp (ve_flat _ _ fun y hy => ?_) (by rw [flat_len]; exact hl)⟩
  rw [List.mem_singleton.mp hy]
  exact he.ext a2
theorem cs_refs {K : PySem.W.Frag} {H : Hp} : ∀ {xs : List V} {cs : List (Str × Int)}, CsAt H xs cs → ∃ ps : List Addr, xs = ps.map V.ref ∧ Paired (fun p (kv : Key × V) => SqT K H p [kV kv.1, kv.2]) ps (cs.map fun c => ((Sum.inr c.1 : Key), V.int c.2))
  | [], [], _ => ⟨[], rfl, .nil⟩
  | [], _ :: _, h => by have := h.1; simp at this
  | _ :: _, [], h => by have := h.1; simp at this
  | x :: xs, c :: cs, h => by
    obtain ⟨p, h1, h2⟩ := h.2 0 c rfl
    have h1 : some x = some (V.ref p) := h1
    cases h1
    obtain ⟨ps, e, hp⟩ := cs_refs (K := K) (xs := xs) (cs := cs) ⟨by have := h.1; simpa using this, fun i c' hc => h.2 (i + 1) c' (by simpa using hc)⟩
    exact ⟨p :: ps, by rw [e]; rfl, .cons (SqT.of h2) hp⟩
section
variable {P : Program} {w : World} {K : PySem.W.Frag} {mg : Str → Option Value} {base : Heap}
abbrev nLOC : List Str := ["_law_state", "_law_names", "_law_value", "_law_name", "_law_odd"]
def spLOC (ns : List Int) : Sp := fun vs H Q _ => ∃ (d g c ln l : Addr) (b : Nat) (nms : List Str) (xs : List V) (cs : List (Str × Int)), vs = [.ref d, .ref ln, .ref l] ∧ Dw ns d g c b H ∧ b ≤ 900000000 ∧ H ln = some (.lst (nms.map V.str)) ∧ ln ≠ d ∧ ln ≠ g ∧ 0 < nms.length ∧ nms.length ≤ 8 ∧
  H l = some (.lst xs) ∧ l ≠ d ∧ l ≠ g ∧ CsAt H xs cs ∧ xs.length ≤ 20 ∧ ∀ v H', Vs d g H' v → Dw ns d g c (b + 10) H' → Kp d g H H' → Q v H'
theorem scLOC : FnScope nLOC ["_law_state", "_law_names", "_law_value"] (defScope sLOtherClaims) := ⟨rfl, rfl, rfl, by decide +kernel, rfl, by decide +kernel, by decide +kernel⟩
theorem ok_loc {f fT fP : Addr} {fd fdT fdP : FuncData} (ns : List Int) (F : Fun K "_law_other_claims" "_law_other_claims" sLOtherClaims f fd) (T : Names mg) (R : Draw P w K mg base ns fT fP fdT fdP) : FnOk P w K mg base CX0 4 f fd ["_law_state", "_law_names", "_law_value"] (spLOC ns) := by
  refine F.ok scLOC (fun vs H Q E h => ?_) (fun cdv A outer s H vs Q E hr h => ?_)
  · obtain ⟨d, g, c, ln, l, b, nms, xs, cs, rfl, _⟩ := h
    rfl
  · obtain ⟨d, g, c, ln, l, b, nms, xs, cs, rfl, D, hb, hln, nnd, nng, n0, n8, hl, nld, nlg, hcs, h20, k⟩ := h
    have hu := hu_of hr
    have nd := scLOC.nd
    have hr3 : Room 3 (A.deeper (envOfC "_law_other_claims" (defScope sLOtherClaims) s.heap.objs.size f cdv)) := hr
    refine ⟨_, pss_cons (ps_set (i := 3) nd rfl (.inl rfl) (pe_call R.GP hr3 rfl R.mP R.kP R.bP .nil pass0 (pa_cons (pv 0) (pa_cons (pv 1) pa_nil))))
(pss_cons (ps_set (i := 4) nd rfl (.inl rfl) (pe_lst (pa_cons pe_non (pa_cons pe_int (pa_cons pe_dnewK (pa_cons pe_str (pa_cons (pe_op op_cat (pv 2) (pe_lst (pa_cons pe_non pa_nil))) (pa_cons (pe_op op_cat (pv 2) (pe_lst (pa_cons (pe_tup (pa_cons (pv 3) pa_nil)) pa_nil))) (pa_cons (pe_op op_cat (pv 2) (pe_lst (pa_cons (pe_tup (pa_cons (pv 3) (pa_cons pe_int (pa_cons pe_int pa_nil)))) pa_nil))) (pa_cons (pe_op op_cat (pv 2) (pe_lst (pa_cons (pe_lst (pa_cons (pv 3) (pa_cons pe_int pa_nil))) pa_nil))) pa_nil))))))))))
(pss_cons (ps_set (i := 4) nd rfl (.inl rfl) (pe_op op_cat (pv 4) (pe_lst (pa_cons (pe_op op_cat (pv 2) (pe_lst (pa_cons (pe_tup (pa_cons pe_str (pa_cons pe_int pa_nil))) pa_nil))) (pa_cons (pe_op op_cat (pv 2) (pe_lst (pa_cons (pe_tup (pa_cons (pv 3) (pa_cons (pe_un un_neg pe_int) pa_nil))) pa_nil))) (pa_cons (pe_op op_cat (pv 2) (pe_lst (pa_cons (pe_tup (pa_cons (pv 3) (pa_cons (pe_op op_pow pe_int pe_int) pa_nil))) pa_nil))) (pa_cons (pe_op op_cat (pv 2) (pe_lst (pa_cons (pe_tup (pa_cons (pv 3) (pa_cons pe_bl pa_nil))) pa_nil))) pa_nil)))))))
(pss_cons (ps_set (i := 4) nd rfl (.inl rfl) (pe_op op_cat (pv 4) (pe_lst (pa_cons (pe_op op_cat (pv 2) (pe_lst (pa_cons (pe_tup (pa_cons (pv 3) (pa_cons (pe_op op_add (pe_op op_pow pe_int pe_int) pe_int) pa_nil))) pa_nil))) (pa_cons (pe_op op_cat (pv 2) (pe_lst (pa_cons (pe_tup (pa_cons pe_non (pa_cons pe_int pa_nil))) pa_nil))) (pa_cons (pe_op op_cat (pv 2) (pe_lst (pa_cons (pe_tup (pa_cons (pv 3) (pa_cons pe_str pa_nil))) pa_nil))) (pa_cons (pe_op op_rep (pe_lst (pa_cons (pe_tup (pa_cons (pv 3) (pa_cons pe_int pa_nil))) pa_nil)) pe_int) pa_nil)))))))
(pss_one (ps_ret (pe_call R.GP hr3 rfl R.mP R.kP R.bP .nil pass0 (pa_cons (pv 0) (pa_cons (pe_op op_cat (pv 4) (pe_lst (pa_cons (pe_op op_rep (pe_lst (pa_cons (pe_tup (pa_cons (pv 3) (pa_cons pe_int pa_nil))) pa_nil)) pe_int) (pa_cons (pe_callTy call_tuple_of rfl T.tuple (by decide +kernel) (pa_cons (pv 2) pa_nil)) (pa_cons (pe_callTy (call_dictP rfl) rfl T.dict (by decide +kernel) (pa_cons (pv 2) pa_nil)) (pa_cons (pe_op op_cat (pv 2) (pe_lst (pa_cons (pe_tup (pa_cons (pv 3) (pa_cons pe_non pa_nil))) pa_nil))) pa_nil)))))) pa_nil)))))))), ?_⟩
    have sz : ∀ {n : Nat}, n ≤ 200 → n ≤ sizeLine := fun h => Nat.le_of_lt (small1000 (by omega))
    have h50 : xs.length ≤ 50 := by omega
    refine ⟨_, rfl, _, rfl, d, g, c, b, D, by omega, .inl ⟨ln, _, rfl, hln, nnd, nng, by rw [List.length_map]; exact n0, by rw [List.length_map]; omega, fun y H1 hy D1 k01 => ?_⟩⟩
    obtain ⟨n, hn, rfl⟩ := List.mem_map.mp hy
    have hl1 := k01 _ _ nld nlg hl
    have hcs1 := hcs.kp D k01
    have VX : ∀ {H' : Hp}, Ext H1 H' → ∀ y ∈ xs, Ve d g H' y := fun {H'} e y hy => by
      obtain ⟨ii, hii⟩ := List.mem_iff_getElem?.mp hy
      obtain ⟨cc, p, _, rfl, hp⟩ := hcs1.get hii
      obtain ⟨⟨gs, l', t, hd, hg, _, _⟩, _⟩ := D1
      exact ⟨_, .tup (e _ _ hp) (ne_of hp hd (by intro z; cases z)) (ne_of hp hg (by intro z; cases z)) (.cons (.str _) (.cons (.int _) .nil)), fun i e => by cases e⟩
    dsimp only [List.set]
    have S1 : VS d g H1 [] := fun y hy => by cases hy
    have j1 : Ext H1 H1 := Ext.refl
    intro q2 hq2
    have e2 := Ext.new (o := .dK []) hq2
    have v2 : Vs d g (upd H1 q2 (.dK [])) (.ref q2) := .inl ⟨_, .dct upd_same (D1.nd hq2) (D1.ng hq2)⟩
    have S2 := S1.add e2 v2
    have j2 := j1.trans e2
    clear S1
    generalize upd H1 q2 _ = H2 at S2 j2 ⊢
    have D2 := D1.keep j2
    refine ⟨_, rfl, by show 1 ≤ sizeLine; decide, fun w3 hw3 => ⟨l, w3, _, _, rfl, rfl, Ext.new hw3 _ _ (j2 _ _ hl1), upd_same, sz (by show _ + 1 ≤ _; omega), fun q3 hq3 => ?_⟩⟩
    obtain ⟨e3, v3⟩ := vs_cat1 D2 hw3 hq3 (VX j2) (ve_non _) h50
    have S3 := S2.add e3 v3
    have j3 := j2.trans e3
    clear S2
    generalize upd (upd H2 w3 _) q3 _ = H3 at S3 j3 ⊢
    have D3 := D1.keep j3
    refine ⟨_, rfl, _, rfl, by show 1 ≤ sizeLine; decide, fun t4 ht4 => ⟨by show 1 ≤ sizeLine; decide, fun w4 hw4 => ⟨l, w4, _, _, rfl, rfl, Ext.new hw4 _ _ (Ext.new ht4 _ _ (j3 _ _ hl1)), upd_same, sz (by show _ + 1 ≤ _; omega), fun q4 hq4 => ?_⟩⟩⟩
    obtain ⟨e4, v4⟩ := vs_cat D3 ht4 hw4 hq4 (VX j3) (ve_tup D3 ht4 (fun _ => (.cons (.str n) .nil))) h50
    have S4 := S3.add e4 v4
    have j4 := j3.trans e4
    clear S3
    generalize upd (upd (upd H3 t4 _) w4 _) q4 _ = H4 at S4 j4 ⊢
    have D4 := D1.keep j4
    refine ⟨_, rfl, _, rfl, by show 3 ≤ sizeLine; decide, fun t5 ht5 => ⟨by show 1 ≤ sizeLine; decide, fun w5 hw5 => ⟨l, w5, _, _, rfl, rfl, Ext.new hw5 _ _ (Ext.new ht5 _ _ (j4 _ _ hl1)), upd_same, sz (by show _ + 1 ≤ _; omega), fun q5 hq5 => ?_⟩⟩⟩
    obtain ⟨e5, v5⟩ := vs_cat D4 ht5 hw5 hq5 (VX j4) (ve_tup D4 ht5 (fun _ => (.cons (.str n) (.cons (.int _) (.cons (.int _) .nil))))) h50
    have S5 := S4.add e5 v5
    have j5 := j4.trans e5
    clear S4
    generalize upd (upd (upd H4 t5 _) w5 _) q5 _ = H5 at S5 j5 ⊢
    have D5 := D1.keep j5
    refine ⟨_, rfl, _, rfl, by show 2 ≤ sizeLine; decide, fun t6 ht6 => ⟨by show 1 ≤ sizeLine; decide, fun w6 hw6 => ⟨l, w6, _, _, rfl, rfl, Ext.new hw6 _ _ (Ext.new ht6 _ _ (j5 _ _ hl1)), upd_same, sz (by show _ + 1 ≤ _; omega), fun q6 hq6 => ?_⟩⟩⟩
    obtain ⟨e6, v6⟩ := vs_cat D5 ht6 hw6 hq6 (VX j5) (ve_lst D5 ht6 (fun _ => (.cons (.str n) (.cons (.int _) .nil)))) h50
    have S6 := S5.add e6 v6
    have j6 := j5.trans e6
    clear S5
    generalize upd (upd (upd H5 t6 _) w6 _) q6 _ = H6 at S6 j6 ⊢
    have D6 := D1.keep j6
    refine ⟨by show 8 ≤ sizeLine; decide, fun o7 ho7 => ?_⟩
    obtain ⟨L7, eL7⟩ : ∃ L : List V, L = [.non, .int 5, .ref q2, .str "a", .ref q3, .ref q4, .ref q5, .ref q6] := ⟨_, rfl⟩
    have nL7 : L7.length ≤ 8 := by rw [eL7]; show 8 ≤ 8; decide
    rw [← eL7]
    have j7 := j6.trans (Ext.new (o := .lst L7) ho7)
    have S7 : VS d g (upd H6 o7 (.lst L7)) _ := fun y hy => (S6 y hy).kp (Kp.new ho7)
    have d7 : (upd H6 o7 (.lst L7)) o7 = some (.lst L7) := upd_same
    clear S6
    generalize upd H6 o7 (.lst L7) = H7 at j7 S7 d7 ⊢
    have D7 := D1.keep j7
    dsimp only [List.set]
    refine ⟨_, rfl, ?_⟩
    refine ⟨_, rfl, by show 2 ≤ sizeLine; decide, fun t8 ht8 => ⟨by show 1 ≤ sizeLine; decide, fun w8 hw8 => ⟨l, w8, _, _, rfl, rfl, Ext.new hw8 _ _ (Ext.new ht8 _ _ (j7 _ _ hl1)), upd_same, sz (by show _ + 1 ≤ _; omega), fun q8 hq8 => ?_⟩⟩⟩
    obtain ⟨e8, v8⟩ := vs_cat D7 ht8 hw8 hq8 (VX j7) (ve_tup D7 ht8 (fun _ => (.cons (.str _) (.cons (.int _) .nil)))) h50
    have S8 := S7.add e8 v8
    have j8 := j7.trans e8
    have d8 := e8 _ _ d7
    clear S7 d7
    generalize upd (upd (upd H7 t8 _) w8 _) q8 _ = H8 at S8 j8 d8 ⊢
    have D8 := D1.keep j8
    refine ⟨_, rfl, _, rfl, _, rfl, by show 2 ≤ sizeLine; decide, fun t9 ht9 => ⟨by show 1 ≤ sizeLine; decide, fun w9 hw9 => ⟨l, w9, _, _, rfl, rfl, Ext.new hw9 _ _ (Ext.new ht9 _ _ (j8 _ _ hl1)), upd_same, sz (by show _ + 1 ≤ _; omega), fun q9 hq9 => ?_⟩⟩⟩
    obtain ⟨e9, v9⟩ := vs_cat D8 ht9 hw9 hq9 (VX j8) (ve_tup D8 ht9 (fun _ => (.cons (.str n) (.cons (.int _) .nil)))) h50
    have S9 := S8.add e9 v9
    have j9 := j8.trans e9
    have d9 := e9 _ _ d8
    clear S8 d8
    generalize upd (upd (upd H8 t9 _) w9 _) q9 _ = H9 at S9 j9 d9 ⊢
    have D9 := D1.keep j9
    refine ⟨_, rfl, _, rfl, _, _, rfl, rfl, ⟨by decide, by decide, by decide⟩, by show 2 ≤ sizeLine; decide, fun t10 ht10 => ⟨by show 1 ≤ sizeLine; decide, fun w10 hw10 => ⟨l, w10, _, _, rfl, rfl, Ext.new hw10 _ _ (Ext.new ht10 _ _ (j9 _ _ hl1)), upd_same, sz (by show _ + 1 ≤ _; omega), fun q10 hq10 => ?_⟩⟩⟩
    obtain ⟨e10, v10⟩ := vs_cat D9 ht10 hw10 hq10 (VX j9) (ve_tup D9 ht10 (fun _ => (.cons (.str n) (.cons (.int _) .nil)))) h50
    have S10 := S9.add e10 v10
    have j10 := j9.trans e10
    have d10 := e10 _ _ d9
    clear S9 d9
    generalize upd (upd (upd H9 t10 _) w10 _) q10 _ = H10 at S10 j10 d10 ⊢
    have D10 := D1.keep j10
    refine ⟨_, rfl, _, rfl, by show 2 ≤ sizeLine; decide, fun t11 ht11 => ⟨by show 1 ≤ sizeLine; decide, fun w11 hw11 => ⟨l, w11, _, _, rfl, rfl, Ext.new hw11 _ _ (Ext.new ht11 _ _ (j10 _ _ hl1)), upd_same, sz (by show _ + 1 ≤ _; omega), fun q11 hq11 => ?_⟩⟩⟩
    obtain ⟨e11, v11⟩ := vs_cat D10 ht11 hw11 hq11 (VX j10) (ve_tup D10 ht11 (fun _ => (.cons (.str n) (.cons (.bl _) .nil)))) h50
    have S11 := S10.add e11 v11
    have j11 := j10.trans e11
    have d11 := e11 _ _ d10
    clear S10 d10
    generalize upd (upd (upd H10 t11 _) w11 _) q11 _ = H11 at S11 j11 d11 ⊢
    have D11 := D1.keep j11
    refine ⟨by show 4 ≤ sizeLine; decide, fun p12 hp12 => ⟨o7, p12, _, _, rfl, rfl, Ext.new hp12 _ _ d11, upd_same, sz (by show _ + 4 ≤ _; omega), fun o12 ho12 => ?_⟩⟩
    obtain ⟨L12, eL12⟩ : ∃ L : List V, L = L7 ++ [.ref q8, .ref q9, .ref q10, .ref q11] := ⟨_, rfl⟩
    have nL12 : L12.length ≤ 12 := by rw [eL12, List.length_append]; show _ + 4 ≤ 12; omega
    rw [← eL12]
    have j12 := j11.trans ((Ext.new (o := .lst [.ref q8, .ref q9, .ref q10, .ref q11]) hp12).trans (Ext.new (o := .lst L12) ho12))
    have S12 : VS d g (upd (upd H11 p12 (.lst [.ref q8, .ref q9, .ref q10, .ref q11])) o12 (.lst L12)) _ := fun y hy => (S11 y hy).kp ((Kp.new hp12).trans (Kp.new ho12))
    have d12 : (upd (upd H11 p12 (.lst [.ref q8, .ref q9, .ref q10, .ref q11])) o12 (.lst L12)) o12 = some (.lst L12) := upd_same
    clear S11 d11
    generalize upd (upd H11 p12 (.lst [.ref q8, .ref q9, .ref q10, .ref q11])) o12 (.lst L12) = H12 at j12 S12 d12 ⊢
    have D12 := D1.keep j12
    dsimp only [List.set]
    refine ⟨_, rfl, ?_⟩
    refine ⟨_, rfl, _, rfl, _, _, rfl, rfl, ⟨by decide, by decide, by decide⟩, _, _, rfl, rfl, by show 2 ≤ sizeLine; decide, fun t13 ht13 => ⟨by show 1 ≤ sizeLine; decide, fun w13 hw13 => ⟨l, w13, _, _, rfl, rfl, Ext.new hw13 _ _ (Ext.new ht13 _ _ (j12 _ _ hl1)), upd_same, sz (by show _ + 1 ≤ _; omega), fun q13 hq13 => ?_⟩⟩⟩
    obtain ⟨e13, v13⟩ := vs_cat D12 ht13 hw13 hq13 (VX j12) (ve_tup D12 ht13 (fun _ => (.cons (.str n) (.cons (.int _) .nil)))) h50
    have S13 := S12.add e13 v13
    have j13 := j12.trans e13
    have d13 := e13 _ _ d12
    clear S12 d12
    generalize upd (upd (upd H12 t13 _) w13 _) q13 _ = H13 at S13 j13 d13 ⊢
    have D13 := D1.keep j13
    refine ⟨_, rfl, by show 2 ≤ sizeLine; decide, fun t14 ht14 => ⟨by show 1 ≤ sizeLine; decide, fun w14 hw14 => ⟨l, w14, _, _, rfl, rfl, Ext.new hw14 _ _ (Ext.new ht14 _ _ (j13 _ _ hl1)), upd_same, sz (by show _ + 1 ≤ _; omega), fun q14 hq14 => ?_⟩⟩⟩
    obtain ⟨e14, v14⟩ := vs_cat D13 ht14 hw14 hq14 (VX j13) (ve_tup D13 ht14 (fun _ => (.cons (.non) (.cons (.int _) .nil)))) h50
    have S14 := S13.add e14 v14
    have j14 := j13.trans e14
    have d14 := e14 _ _ d13
    clear S13 d13
    generalize upd (upd (upd H13 t14 _) w14 _) q14 _ = H14 at S14 j14 d14 ⊢
    have D14 := D1.keep j14
    refine ⟨_, rfl, _, rfl, by show 2 ≤ sizeLine; decide, fun t15 ht15 => ⟨by show 1 ≤ sizeLine; decide, fun w15 hw15 => ⟨l, w15, _, _, rfl, rfl, Ext.new hw15 _ _ (Ext.new ht15 _ _ (j14 _ _ hl1)), upd_same, sz (by show _ + 1 ≤ _; omega), fun q15 hq15 => ?_⟩⟩⟩
    obtain ⟨e15, v15⟩ := vs_cat D14 ht15 hw15 hq15 (VX j14) (ve_tup D14 ht15 (fun _ => (.cons (.str n) (.cons (.str _) .nil)))) h50
    have S15 := S14.add e15 v15
    have j15 := j14.trans e15
    have d15 := e15 _ _ d14
    clear S14 d14
    generalize upd (upd (upd H14 t15 _) w15 _) q15 _ = H15 at S15 j15 d15 ⊢
    have D15 := D1.keep j15
    refine ⟨_, rfl, by show 2 ≤ sizeLine; decide, fun t16 ht16 => ⟨by show 1 ≤ sizeLine; decide, fun w16 hw16 => ⟨w16, _, _, rfl, rfl, upd_same, by decide, by decide, sz (by show 1 * _ ≤ _; decide), fun q16 hq16 => ?_⟩⟩⟩
    obtain ⟨e16, v16⟩ := vs_rep (n := Int.toNat 20) D15 ht16 hw16 hq16 (ve_tup D15 ht16 (fun _ => (.cons (.str n) (.cons (.int _) .nil)))) (by decide)
    have S16 := S15.add e16 v16
    have j16 := j15.trans e16
    have d16 := e16 _ _ d15
    clear S15 d15
    generalize upd (upd (upd H15 t16 _) w16 _) q16 _ = H16 at S16 j16 d16 ⊢
    have D16 := D1.keep j16
    refine ⟨by show 4 ≤ sizeLine; decide, fun p17 hp17 => ⟨o12, p17, _, _, rfl, rfl, Ext.new hp17 _ _ d16, upd_same, sz (by show _ + 4 ≤ _; omega), fun o17 ho17 => ?_⟩⟩
    obtain ⟨L17, eL17⟩ : ∃ L : List V, L = L12 ++ [.ref q13, .ref q14, .ref q15, .ref q16] := ⟨_, rfl⟩
    have nL17 : L17.length ≤ 16 := by rw [eL17, List.length_append]; show _ + 4 ≤ 16; omega
    rw [← eL17]
    have j17 := j16.trans ((Ext.new (o := .lst [.ref q13, .ref q14, .ref q15, .ref q16]) hp17).trans (Ext.new (o := .lst L17) ho17))
    have S17 : VS d g (upd (upd H16 p17 (.lst [.ref q13, .ref q14, .ref q15, .ref q16])) o17 (.lst L17)) _ := fun y hy => (S16 y hy).kp ((Kp.new hp17).trans (Kp.new ho17))
    have d17 : (upd (upd H16 p17 (.lst [.ref q13, .ref q14, .ref q15, .ref q16])) o17 (.lst L17)) o17 = some (.lst L17) := upd_same
    clear S16 d16
    generalize upd (upd H16 p17 (.lst [.ref q13, .ref q14, .ref q15, .ref q16])) o17 (.lst L17) = H17 at j17 S17 d17 ⊢
    have D17 := D1.keep j17
    dsimp only [List.set]
    refine ⟨_, rfl, _, rfl, ?_⟩
    refine ⟨_, rfl, by show 2 ≤ sizeLine; decide, fun t18 ht18 => ⟨by show 1 ≤ sizeLine; decide, fun w18 hw18 => ⟨w18, _, _, rfl, rfl, upd_same, by decide, by decide, sz (by show 1 * _ ≤ _; decide), fun q18 hq18 => ?_⟩⟩⟩
    obtain ⟨e18, v18⟩ := vs_rep (n := Int.toNat 21) D17 ht18 hw18 hq18 (ve_tup D17 ht18 (fun _ => (.cons (.str n) (.cons (.int _) .nil)))) (by decide)
    have S18 := S17.add e18 v18
    have j18 := j17.trans e18
    have d18 := e18 _ _ d17
    clear S17 d17
    generalize upd (upd (upd H17 t18 _) w18 _) q18 _ = H18 at S18 j18 d18 ⊢
    have D18 := D1.keep j18
    refine ⟨_, rfl, l, _, rfl, .inl ⟨SqL.of (j18 _ _ hl1), fun q19 hq19 => ?_⟩⟩
    have e19 := Ext.new (o := .tup xs) hq19
    have v19 := vs_newT D18 hq19 (VX j18) (by omega)
    have S19 := S18.add e19 v19
    have j19 := j18.trans e19
    have d19 := e19 _ _ d18
    clear S18 d18
    generalize upd H18 q19 _ = H19 at S19 j19 d19 ⊢
    have D19 := D1.keep j19
    obtain ⟨ps, eps, hps⟩ := cs_refs (hcs1.ext j19)
    refine ⟨_, rfl, l, ps, cs.map fun c => ((Sum.inr c.1 : Key), V.int c.2), rfl, by rw [← eps]; exact SqL.of (j19 _ _ hl1), hps, fun q20 hq20 => ?_⟩
    have e20 := Ext.new (o := .dK (mergeK [] (cs.map fun c => ((Sum.inr c.1 : Key), V.int c.2)))) hq20
    have v20 : Vs d g (upd H19 q20 (.dK (mergeK [] (cs.map fun c => ((Sum.inr c.1 : Key), V.int c.2))))) (.ref q20) := .inl ⟨_, .dct upd_same (D19.nd hq20) (D19.ng hq20)⟩
    have S20 := S19.add e20 v20
    have j20 := j19.trans e20
    have d20 := e20 _ _ d19
    clear S19 d19
    generalize upd H19 q20 _ = H20 at S20 j20 d20 ⊢
    have D20 := D1.keep j20
    refine ⟨_, rfl, _, rfl, by show 2 ≤ sizeLine; decide, fun t21 ht21 => ⟨by show 1 ≤ sizeLine; decide, fun w21 hw21 => ⟨l, w21, _, _, rfl, rfl, Ext.new hw21 _ _ (Ext.new ht21 _ _ (j20 _ _ hl1)), upd_same, sz (by show _ + 1 ≤ _; omega), fun q21 hq21 => ?_⟩⟩⟩
    obtain ⟨e21, v21⟩ := vs_cat D20 ht21 hw21 hq21 (VX j20) (ve_tup D20 ht21 (fun _ => (.cons (.str n) (.cons (.non) .nil)))) h50
    have S21 := S20.add e21 v21
    have j21 := j20.trans e21
    have d21 := e21 _ _ d20
    clear S20 d20
    generalize upd (upd (upd H20 t21 _) w21 _) q21 _ = H21 at S21 j21 d21 ⊢
    have D21 := D1.keep j21
    refine ⟨by show 4 ≤ sizeLine; decide, fun p9 hp9 => ⟨o17, p9, _, _, rfl, rfl, Ext.new hp9 _ _ d21, upd_same, sz (by show _ + 4 ≤ _; omega), fun o9 ho9 => ?_⟩⟩
    have b9 := (Ext.new (o := .lst [.ref q18, .ref q19, .ref q20, .ref q21]) hp9).trans (Ext.new (o := .lst (L17 ++ [.ref q18, .ref q19, .ref q20, .ref q21])) ho9)
    have D9 := (D21.new (o := .lst [.ref q18, .ref q19, .ref q20, .ref q21]) hp9)
    refine ⟨d, g, c, _, D9.new ho9, by omega, .inl ⟨o9, _, rfl, upd_same, D9.nd ho9, D9.ng ho9, by rw [List.length_append]; show 0 < _ + 4; omega, by rw [List.length_append]; show _ + 4 ≤ 1000000; omega, fun y H' hy D' k' => ?_⟩⟩
    have kk := (Kp.of (d := d) (g := g) b9).trans k'
    refine k y H' ?_ (D'.mono (by omega)) (k01.trans ((Kp.of j21).trans kk))
    rw [eL17, eL12, eL7] at hy
    have hy : y ∈ ([.non, .int 5, .ref q2, .str "a", .ref q3, .ref q4, .ref q5, .ref q6, .ref q8, .ref q9, .ref q10, .ref q11, .ref q13, .ref q14, .ref q15, .ref q16, .ref q18, .ref q19, .ref q20, .ref q21] : List V) := hy
    simp only [List.mem_cons, List.not_mem_nil, or_false] at hy
    rcases hy with rfl | rfl | rfl | rfl | rfl | rfl | rfl | rfl | rfl | rfl | rfl | rfl | rfl | rfl | rfl | rfl | rfl | rfl | rfl | rfl
    · exact .inl ⟨_, .non⟩
    · exact .inl ⟨_, .int _⟩
    · exact (S21 _ (by simp)).kp kk
    · exact .inl ⟨_, .str _⟩
    · exact (S21 _ (by simp)).kp kk
    · exact (S21 _ (by simp)).kp kk
    · exact (S21 _ (by simp)).kp kk
    · exact (S21 _ (by simp)).kp kk
    · exact (S21 _ (by simp)).kp kk
    · exact (S21 _ (by simp)).kp kk
    · exact (S21 _ (by simp)).kp kk
    · exact (S21 _ (by simp)).kp kk
    · exact (S21 _ (by simp)).kp kk
    · exact (S21 _ (by simp)).kp kk
    · exact (S21 _ (by simp)).kp kk
    · exact (S21 _ (by simp)).kp kk
    · exact (S21 _ (by simp)).kp kk
    · exact (S21 _ (by simp)).kp kk
    · exact (S21 _ (by simp)).kp kk
    · exact (S21 _ (by simp)).kp kk
end
end Lw

set_option Elab.async false
set_option linter.all false
set_option maxRecDepth 100000
set_option maxHeartbeats 4000000
/-! promises of one def, one or the other; of a def that lets nothing out, where errors may be -/
namespace Gn
open PySem PySem.Spec PyProof.Rows L2
section
variable {P : Program} {w : World} {K : PySem.W.Frag} {mg : Str → Option Value} {base : Heap} {CX : CXT} {k : Nat} {f : Addr} {fd : FuncData} {ps : List Str} {sp sp2 : Sp}
theorem FnOk.or (F : FnOk P w K mg base CX k f fd ps sp) (F2 : FnOk P w K mg base CX k f fd ps sp2) : FnOk P w K mg base CX k f fd ps (fun vs H Q E => sp vs H Q E ∨ sp2 vs H Q E) :=
  ⟨fun vs H Q E h => h.elim (F.len vs H Q E) (F2.len vs H Q E), fun A outer s H args us vs Q E hr he hb hv hs => hs.elim (F.run A outer s H args us vs Q E hr he hb hv) (F2.run A outer s H args us vs Q E hr he hb hv)⟩
theorem FnOk.up (F : FnOk P w K mg base CX0 k f fd ps sp) : FnOk P w K mg base CX k f fd ps sp :=
  ⟨F.len, fun A outer s H args us vs Q E hr he hb hv hs => codeAny_mono (F.run A outer s H args us vs Q E hr he hb hv hs) fun r s' h => by
    match r, h with
    | .error e, h => exact False.elim h
    | .ok .next, h => exact h
    | .ok .brk, h => exact h
    | .ok .cont, h => exact h
    | .ok (.ret u), h => exact h⟩
end
end Gn

set_option Elab.async false
set_option linter.all false
set_option maxRecDepth 100000
set_option maxHeartbeats 4000000
namespace Lw
open L2 hiding Ext
open PySem PySem.Spec PyProof.Rows Gn Gr Gk Go Gt Gf Gu Gx Gdo
/-! ### the functions, called with what is invalid -/
theorem claims_at {d g : Addr} {H : Hp} {rs : List FRow} : ∀ {xs : List V} {ds : List PyData}, DkAll d g H xs ds → ds.all (claimB (fNames rs)) = true → ∃ cs, CsAt H xs cs ∧ ∀ c ∈ cs, c.1 ∈ fNames rs ∧ 0 ≤ c.2 ∧ c.2 ≤ 1000000000
  | _, _, .nil, _ => ⟨[], CsAt.nil, fun c h => by cases h⟩
  | _, _, .cons (v := v) (vs := xs) (x := x) (ds := ds) h1 h2, ha => by
    rw [List.all_cons, Bool.and_eq_true] at ha
    obtain ⟨cs, c1, c2⟩ := claims_at h2 ha.2
    have one : ∃ (p : Addr) (n : Str) (i : Int), v = .ref p ∧ H p = some (.tup [.str n, .int i]) ∧ n ∈ fNames rs ∧ 0 ≤ i ∧ i ≤ 1000000000 := by
      have ha := ha.1
      cases h1 with
      | @tup p ys es hp _ _ hd =>
        have h2 : es.length = 2 := Classical.byContradiction fun h => by rw [claimB_len h] at ha; cases ha
        have h3 : ys.length = 2 := by rw [hd.len]; exact h2
        match ys, h3, es, h2, hd, ha with
        | [y1, y2], _, [e1, e2], _, .cons d1 (.cons d2 .nil), ha =>
          have ha : (inD (fNames rs) e1 && btwD 0 1000000000 e2) = true := by simpa [claimB] using ha
          rw [Bool.and_eq_true] at ha
          cases d1 with
          | str n =>
            cases d2 with
            | int i =>
              have h3 : 0 ≤ i ∧ i ≤ 1000000000 := of_decide_eq_true ha.2
              exact ⟨p, n, i, rfl, hp, of_decide_eq_true ha.1, h3⟩
            | _ => exact absurd ha.2 Bool.false_ne_true
          | _ => exact absurd ha.1 Bool.false_ne_true
      | _ => exact absurd ha Bool.false_ne_true
    obtain ⟨p, n, i, rfl, hp, o1, o2, o3⟩ := one
    refine ⟨(n, i) :: cs, ⟨by rw [List.length_cons, List.length_cons, c1.1], fun j c' hc => ?_⟩, fun c hc => ?_⟩
    · cases j with
      | zero => cases hc; exact ⟨p, rfl, hp⟩
      | succ j =>
        obtain ⟨q, q1, q2⟩ := c1.2 j c' (by simpa using hc)
        exact ⟨q, by simpa using q1, q2⟩
    · rcases List.mem_cons.mp hc with rfl | hc
      · exact ⟨o1, o2, o3⟩
      · exact c2 c hc
theorem good_claims {d g : Addr} {H : Hp} {rs : List FRow} {v : V} {s : Option (List PyData)} (h : Kn d g H v s) (hb : claimsB (fNames rs) s = true) : ∃ l xs cs, v = .ref l ∧ ClAt H l xs ∧ CsAt H xs cs ∧ CsOk rs cs ∧ (∃ ds, s = some ds ∧ ds.length = xs.length) := by
  cases h with
  | @seq l xs ds h n1 n2 hd hl =>
    have hb : (decide (ds.length ≤ 20) && ds.all (claimB (fNames rs))) = true := hb
    rw [Bool.and_eq_true] at hb
    obtain ⟨cs, c1, c2⟩ := claims_at hd hb.2
    have h20 : ds.length ≤ 20 := of_decide_eq_true hb.1
    exact ⟨l, xs, cs, rfl, h, c1, ⟨by have := c1.1; have := hd.len; omega, c2⟩, ds, rfl, hd.len.symm⟩
  | oth h => cases hb
theorem spent_at {d g : Addr} {H : Hp} : ∀ {xs : List V} {ds : List PyData}, DkAll d g H xs ds → ds.all natB = true → ∃ ps : List Int, xs = ps.map V.int ∧ ∀ z ∈ ps, 0 ≤ z
  | _, _, .nil, _ => ⟨[], rfl, fun z h => by cases h⟩
  | _, _, .cons (v := v) (x := x) h1 h2, ha => by
    rw [List.all_cons, Bool.and_eq_true] at ha
    obtain ⟨ps, e, hp⟩ := spent_at h2 ha.2
    cases h1 with
    | int i =>
      refine ⟨i :: ps, by rw [e]; rfl, fun z hz => ?_⟩
      rcases List.mem_cons.mp hz with rfl | hz
      · exact of_decide_eq_true ha.1
      · exact hp z hz
    | _ => exact absurd ha.1 Bool.false_ne_true
theorem good_spent {d g : Addr} {H : Hp} {n : Nat} {v : V} {s : Option (List PyData)} (h : Kn d g H v s) (hb : spentB n s = true) : ∃ (l : Addr) (ps : List Int), v = .ref l ∧ ClAt H l (ps.map V.int) ∧ ps.length = n ∧ ∀ z ∈ ps, 0 ≤ z := by
  cases h with
  | @seq l xs ds h n1 n2 hd hl =>
    have hb : (decide (ds.length = n) && ds.all natB) = true := hb
    rw [Bool.and_eq_true] at hb
    obtain ⟨ps, rfl, hp⟩ := spent_at hd hb.2
    refine ⟨l, ps, rfl, h, ?_, hp⟩
    have := hd.len
    rw [List.length_map] at this
    have := of_decide_eq_true hb.1
    omega
  | oth h => cases hb
theorem Kn.ext {d g : Addr} {H H' : Hp} {v : V} {s : Option (List PyData)} (h : Kn d g H v s) (k : Ext H H') : Kn d g H' v s := by
  cases h with
  | seq h n1 n2 hd hl => exact .seq (h.ext k) n1 n2 (DkAll.kp (Kp.of k) hd) hl
  | oth h => exact .oth (h.kp fun a o _ _ e => k _ _ e)
section
variable {P : Program} {w : World} {K : PySem.W.Frag} {mg : Str → Option Value} {base : Heap} {C fI pN fN fA CC CS CB : Addr} {mc : Value} {fdN fdA : FuncData}
/-- claims or balances are invalid -/
def BadCB (P : Program) (w : World) (C CC CB : Addr) (a : Addr) (v u : V) (H : Hp) (E : XK) : Prop := ∃ (d g : Addr) (s : Option (List PyData)) (rs : List FRow), FoAt C H a rs ∧ Kn d g H v s ∧
  ((claimsB (fNames rs) s = false ∧ ∀ H', Ext H H' → E (.ref CC) none H') ∨ (claimsB (fNames rs) s = true ∧ Bx P w d g (fNames rs) H u ∧ ∀ H', Ext H H' → E (.ref CB) none H'))
def spCkBalE (P : Program) (w : World) (C CB : Addr) : Sp := fun vs H Q E => spCkBal C vs H Q E ∨ spCkBalX P w C CB vs H Q E
def spEntX (P : Program) (w : World) (C CC CB : Addr) : Sp := fun vs H Q E => ∃ (a : Addr) (v u : V), vs = [.ref a, v, u] ∧ BadCB P w C CC CB a v u H E
theorem ok_EntX {f f2 f3 f5 : Addr} {fd fd2 fd3 fd5 : FuncData} (F : Fun K "entitlements" "entitlements" sEntitlements f fd) (T : Names mg)
    (GC : FnOk P w K mg base (L2.CX P w) 4 f2 fd2 ["forest", "claims"] (spCkClX C CC)) (bC : Binds K fd2 ["forest", "claims"] []) (kC : PySem.W.keepIn K (.ref f2) = true) (mC : mg "check_claims" = some (.ref f2))
    (GB : FnOk P w K mg base (L2.CX P w) 3 f3 fd3 ["forest", "balances"] (spCkBalE P w C CB)) (bB : Binds K fd3 ["forest", "balances"] []) (kB : PySem.W.keepIn K (.ref f3) = true) (mB : mg "check_balances" = some (.ref f3))
    (GG : FnOk P w K mg base CX0 5 f5 fd5 ["forest", "claims", "balances"] (spGrants C)) (bG : Binds K fd5 ["forest", "claims", "balances"] []) (kG : PySem.W.keepIn K (.ref f5) = true) (mG : mg "grants" = some (.ref f5)) :
    FnOk P w K mg base (L2.CX P w) 6 f fd ["forest", "claims", "balances"] (spEntX P w C CC CB) := by
  refine F.okX scEnt (fun vs H Q E h => ?_) (fun cdv A outer s H vs Q E hr h => ?_)
  · obtain ⟨a, v, u, rfl, _⟩ := h
    rfl
  · obtain ⟨a, v, u, rfl, d, g, s', rs, hF, hv, h⟩ := h
    have nd := scEnt.nd
    have hr3 : Room 3 (A.deeper (envOfC "entitlements" (defScope sEntitlements) s.heap.objs.size f cdv)) := hr.mono (by decide)
    have hr4 : Room 4 (A.deeper (envOfC "entitlements" (defScope sEntitlements) s.heap.objs.size f cdv)) := hr.mono (by decide)
    refine ⟨_, pss_cons (ps_expr (pe_call GC hr4 rfl mC kC bC .nil (passes_call (takes_of rfl rfl rfl rfl) fun _ _ _ _ h => h) (pa_cons (pv 0) (pa_cons (pv 1) pa_nil))))
(pss_cons (ps_expr (pe_call GB hr3 rfl mB kB bB .nil (passes_call (takes_of rfl rfl rfl rfl) fun _ _ _ _ h => h) (pa_cons (pv 0) (pa_cons (pv 2) pa_nil))))
(pss_one (ps_ret (pe_call GG hr rfl mG kG bG .nil pass0 (pa_cons (pv 0) (pa_cons (pv 1) (pa_cons (pv 2) pa_nil))))))), ?_⟩
    refine ⟨_, rfl, _, rfl, a, d, g, v, s', rs, rfl, hF, hv, fun hg H1 k1 => ?_, fun hb H1 k1 => ?_⟩
    · rcases h with ⟨h1, _⟩ | ⟨_, h2, h3⟩
      · rw [h1] at hg; cases hg
      · exact ⟨_, rfl, _, rfl, .inr ⟨a, d, g, u, rs, rfl, hF.ext k1, h2.ext k1, fun H2 k2 => h3 _ (k1.trans k2)⟩⟩
    · rcases h with ⟨_, h2⟩ | ⟨h1, _, _⟩
      · exact h2 _ k1
      · rw [h1] at hb; cases hb
def spCertX (P : Program) (w : World) (C CC CB : Addr) : Sp := fun vs H Q E => ∃ (a : Addr) (v u : V), vs = [.ref a, v, u] ∧ BadCB P w C CC CB a v u H E
theorem ok_CertX {f f2 f3 f5 f6 : Addr} {fd fd2 fd3 fd5 fd6 : FuncData} (F : Fun K "certificate" "certificate" sCertificate f fd) (T : Names mg)
    (GC : FnOk P w K mg base (L2.CX P w) 4 f2 fd2 ["forest", "claims"] (spCkClX C CC)) (bC : Binds K fd2 ["forest", "claims"] []) (kC : PySem.W.keepIn K (.ref f2) = true) (mC : mg "check_claims" = some (.ref f2))
    (GB : FnOk P w K mg base (L2.CX P w) 3 f3 fd3 ["forest", "balances"] (spCkBalE P w C CB)) (bB : Binds K fd3 ["forest", "balances"] []) (kB : PySem.W.keepIn K (.ref f3) = true) (mB : mg "check_balances" = some (.ref f3))
    (GG : FnOk P w K mg base CX0 5 f5 fd5 ["forest", "claims", "balances"] (spGrants C)) (bG : Binds K fd5 ["forest", "claims", "balances"] []) (kG : PySem.W.keepIn K (.ref f5) = true) (mG : mg "grants" = some (.ref f5))
    (GW : FnOk P w K mg base CX0 5 f6 fd6 ["forest", "claims", "spent", "balances"] (spTight C)) (bW : Binds K fd6 ["forest", "claims", "spent", "balances"] []) (kW : PySem.W.keepIn K (.ref f6) = true) (mW : mg "tight_above" = some (.ref f6)) :
    FnOk P w K mg base (L2.CX P w) 6 f fd ["forest", "claims", "balances"] (spCertX P w C CC CB) := by
  refine F.okX scCert (fun vs H Q E h => ?_) (fun cdv A outer s H vs Q E hr h => ?_)
  · obtain ⟨a, v, u, rfl, _⟩ := h
    rfl
  · obtain ⟨a, v, u, rfl, d, g, s', rs, hF, hv, h⟩ := h
    have nd := scCert.nd
    have hu := hu_of hr
    have hr3 : Room 3 (A.deeper (envOfC "certificate" (defScope sCertificate) s.heap.objs.size f cdv)) := hr.mono (by decide)
    have hr4 : Room 4 (A.deeper (envOfC "certificate" (defScope sCertificate) s.heap.objs.size f cdv)) := hr.mono (by decide)
    refine ⟨_, pss_cons (ps_expr (pe_call GC hr4 rfl mC kC bC .nil (passes_call (takes_of rfl rfl rfl rfl) fun _ _ _ _ h => h) (pa_cons (pv 0) (pa_cons (pv 1) pa_nil))))
(pss_cons (ps_expr (pe_call GB hr3 rfl mB kB bB .nil (passes_call (takes_of rfl rfl rfl rfl) fun _ _ _ _ h => h) (pa_cons (pv 0) (pa_cons (pv 2) pa_nil))))
(pss_cons (ps_set (i := 3) nd rfl (.inr rfl) (pe_call GG hr rfl mG kG bG .nil pass0 (pa_cons (pv 0) (pa_cons (pv 1) (pa_cons (pv 2) pa_nil)))))
(pss_cons (ps_set (i := 4) nd rfl (.inr rfl) (pe_call GW hr rfl mW kW bW .nil pass0 (pa_cons (pv 0) (pa_cons (pv 1) (pa_cons (pv 3) (pa_cons (pv 2) pa_nil))))))
(pss_one (ps_ret (pe_lc (own := [("rank", 5), ("_", 6), ("claim", 7)]) (g := gTup K 2 (gCons (gName 5) (gCons (gTup K 2 (gCons (gName 6) (gCons (gName 7) gNil))) gNil))) (tt := tYes) rfl nd (Gu.wI (t' := Gq.iEnumV 1) (Gq.pi_enumM rfl T.enum (pa_cons (pv 1) pa_nil)) Gq.iEnum_ok) (blkOk_by (N := nCert) (sc := defScope sCertificate) (by decide +kernel))
(fun _ _ _ _ _ => (by exact (pg_tup rfl (pgs_cons (pg_name (i := 5) nd rfl (.inl rfl)) (pgs_cons (by exact (pg_tup rfl (pgs_cons (pg_name (i := 6) nd rfl (.inl rfl)) (pgs_cons (pg_name (i := 7) nd rfl (.inl rfl)) pgs_nil)))) pgs_nil))))) (fun _ _ _ _ _ => pts_nil) (fun _ _ _ _ _ => pe_ifExp (pt_cmpR op_eq (pe_ix (r := rIxL K) ix_list (pv 3) (pv 5) (fun _ _ => rfl)) (pv 7) (nomark _)) pe_non (pe_ix (r := rIxL K) ix_list (pe_ix (r := rIxL K) ix_list (pv 4) (pv 5) (fun _ _ => rfl)) pe_int (fun _ _ => rfl))))))))), ?_⟩
    refine ⟨_, rfl, _, rfl, a, d, g, v, s', rs, rfl, hF, hv, fun hg H1 k1 => ?_, fun hb H1 k1 => ?_⟩
    · rcases h with ⟨h1, _⟩ | ⟨_, h2, h3⟩
      · rw [h1] at hg; cases hg
      · exact ⟨_, rfl, _, rfl, .inr ⟨a, d, g, u, rs, rfl, hF.ext k1, h2.ext k1, fun H2 k2 => h3 _ (k1.trans k2)⟩⟩
    · rcases h with ⟨_, h2⟩ | ⟨h1, _, _⟩
      · exact h2 _ k1
      · rw [h1] at hb; cases hb
/-! ### shows_entitlements, of no result -/
def spIsResN : Sp := fun vs H Q _ => ∃ (cl : V), vs = [cl, .non] ∧ ∀ H', Ext H H' → Q (.bl false) H'
theorem ok_isResN {f fJ : Addr} {fd fdJ : FuncData} (F : Fun K "is_result" "is_result" sIsResult f fd) (T : Names mg)
    (GI : FnOk P w K mg base CX0 1 fJ fdJ ["value"] spInt) (bI : Binds K fdJ ["value"] []) (kI : PySem.W.keepIn K (.ref fJ) = true) (mI : mg "is_int" = some (.ref fJ)) : FnOk P w K mg base CX0 2 f fd ["claims", "value"] spIsResN := by
  refine F.ok scIsRes (fun vs H Q E h => ?_) (fun cdv A outer s H vs Q E hr h => ?_)
  · obtain ⟨cl, rfl, _⟩ := h
    rfl
  · obtain ⟨cl, rfl, k⟩ := h
    have hu := hu_of hr
    have nd := scIsRes.nd
    refine ⟨_, pss_cons (ps_if (PW.pt (pw_or (pt_not (pt_val (pe_callB call_isi rfl T.isi (by decide +kernel) (pa_cons (pv 1) (pa_cons (pe_bltn (v := .ty "list") rfl T.list (by decide +kernel) rfl) pa_nil))))) (pw_or1 (pt_cmpR op_ne (pe_callB call_len_seq rfl T.len PySem.boot_len (pa_cons (pv 1) pa_nil)) (pe_callB call_len_seq rfl T.len PySem.boot_len (pa_cons (pv 0) pa_nil)) (nomark _))))) (pss_one (ps_ret pe_bl)) pss_nil)
(pss_one (ps_ret (pe_callB (cr_all rfl) rfl T.all (by decide +kernel) (pa_cons (pe_lc (own := [("_", 2), ("claim", 3), ("number", 4)]) (g := gTup K 2 (gCons (gTup K 2 (gCons (gName 2) (gCons (gName 3) gNil))) (gCons (gName 4) gNil))) (tt := tYes) rfl nd (pi_zip rfl T.zip (pa_cons (pv 0) (pa_cons (pv 1) pa_nil))) (blkOk_by (N := nIsRes) (sc := defScope sIsResult) (by decide +kernel))
(fun _ _ _ _ _ => (by exact (pg_tup rfl (pgs_cons (by exact (pg_tup rfl (pgs_cons (pg_name (i := 2) nd rfl (.inl rfl)) (pgs_cons (pg_name (i := 3) nd rfl (.inl rfl)) pgs_nil)))) (pgs_cons (pg_name (i := 4) nd rfl (.inl rfl)) pgs_nil))))) (fun _ _ _ _ _ => pts_nil) (fun _ _ _ _ _ => (pe_and (pe_call GI hr rfl mI kI bI .nil pass0 (pa_cons (pv 4) pa_nil)) (pe_one (pe_chain op_le op_le pe_int (pv 4) (pv 3)))))) pa_nil)))), ?_⟩
    exact ⟨_, rfl, _, _, _, _, false, rfl, .ty _, TyT.non.x, kit_ty (by decide +kernel), false, rfl, iteT (k _ Ext.refl)⟩
abbrev nShows : List Str := ["forest", "claims", "balances", "result", "witness"]
theorem scShows : FnScope nShows ["forest", "claims", "balances", "result", "witness"] (defScope sShowsEntitlements) := ⟨rfl, rfl, rfl, by decide +kernel, rfl, by decide +kernel, by decide +kernel⟩
def spShowsX (P : Program) (w : World) (C CC CB : Addr) : Sp := fun vs H Q E => ∃ (a : Addr) (v u r q : V), vs = [.ref a, v, u, r, q] ∧ BadCB P w C CC CB a v u H E
theorem ok_ShowsX {f f2 f3 f4 f5 f6 f7 : Addr} {fd fd2 fd3 fd4 fd5 fd6 fd7 : FuncData} (F : Fun K "shows_entitlements" "shows_entitlements" sShowsEntitlements f fd) (T : Names mg)
    (GC : FnOk P w K mg base (L2.CX P w) 4 f2 fd2 ["forest", "claims"] (spCkClX C CC)) (bC : Binds K fd2 ["forest", "claims"] []) (kC : PySem.W.keepIn K (.ref f2) = true) (mC : mg "check_claims" = some (.ref f2))
    (GB : FnOk P w K mg base (L2.CX P w) 3 f3 fd3 ["forest", "balances"] (spCkBalE P w C CB)) (bB : Binds K fd3 ["forest", "balances"] []) (kB : PySem.W.keepIn K (.ref f3) = true) (mB : mg "check_balances" = some (.ref f3))
    (GR : FnOk P w K mg base CX0 2 f4 fd4 ["claims", "value"] spIsResN) (bR : Binds K fd4 ["claims", "value"] []) (kR : PySem.W.keepIn K (.ref f4) = true) (mR : mg "is_result" = some (.ref f4))
    (GN : FnOk P w K mg base CX0 1 f7 fd7 ["claims", "result", "tight", "value"] spIsWit) (bN : Binds K fd7 ["claims", "result", "tight", "value"] []) (kN : PySem.W.keepIn K (.ref f7) = true) (mN : mg "is_witness" = some (.ref f7))
    (GF : FnOk P w K mg base CX0 6 f5 fd5 ["forest", "claims", "spent", "balances"] (spFirst C)) (bF : Binds K fd5 ["forest", "claims", "spent", "balances"] []) (kF : PySem.W.keepIn K (.ref f5) = true) (mF : mg "first_overdrawn" = some (.ref f5))
    (GW : FnOk P w K mg base CX0 5 f6 fd6 ["forest", "claims", "spent", "balances"] (spTight C)) (bW : Binds K fd6 ["forest", "claims", "spent", "balances"] []) (kW : PySem.W.keepIn K (.ref f6) = true) (mW : mg "tight_above" = some (.ref f6)) :
    FnOk P w K mg base (L2.CX P w) 7 f fd ["forest", "claims", "balances", "result", "witness"] (spShowsX P w C CC CB) := by
  refine F.okX scShows (fun vs H Q E h => ?_) (fun cdv A outer s H vs Q E hr h => ?_)
  · obtain ⟨a, v, u, r, q, rfl, _⟩ := h
    rfl
  · obtain ⟨a, v, u, r, q, rfl, d, g, s', rs, hF, hv, h⟩ := h
    have nd := scShows.nd
    have hr1 : Room 1 (A.deeper (envOfC "shows_entitlements" (defScope sShowsEntitlements) s.heap.objs.size f cdv)) := hr.mono (by decide)
    have hr2 : Room 2 (A.deeper (envOfC "shows_entitlements" (defScope sShowsEntitlements) s.heap.objs.size f cdv)) := hr.mono (by decide)
    have hr3 : Room 3 (A.deeper (envOfC "shows_entitlements" (defScope sShowsEntitlements) s.heap.objs.size f cdv)) := hr.mono (by decide)
    have hr4 : Room 4 (A.deeper (envOfC "shows_entitlements" (defScope sShowsEntitlements) s.heap.objs.size f cdv)) := hr.mono (by decide)
    have hr5 : Room 5 (A.deeper (envOfC "shows_entitlements" (defScope sShowsEntitlements) s.heap.objs.size f cdv)) := hr.mono (by decide)
    refine ⟨_, pss_cons (ps_expr (pe_call GC hr4 rfl mC kC bC .nil (passes_call (takes_of rfl rfl rfl rfl) fun _ _ _ _ h => h) (pa_cons (pv 0) (pa_cons (pv 1) pa_nil))))
(pss_cons (ps_expr (pe_call GB hr3 rfl mB kB bB .nil (passes_call (takes_of rfl rfl rfl rfl) fun _ _ _ _ h => h) (pa_cons (pv 0) (pa_cons (pv 2) pa_nil))))
(pss_cons (ps_if (pt_not (pt_val (pe_call GR hr2 rfl mR kR bR .nil pass0 (pa_cons (pv 1) (pa_cons (pv 3) pa_nil))))) (pss_one (ps_ret pe_bl)) pss_nil)
(pss_cons (ps_if (pt_cmpR op_notN (pe_call GF hr rfl mF kF bF .nil pass0 (pa_cons (pv 0) (pa_cons (pv 1) (pa_cons (pv 3) (pa_cons (pv 2) pa_nil))))) pe_non (nomark _)) (pss_one (ps_ret pe_bl)) pss_nil)
(pss_one (ps_ret (pe_call GN hr1 rfl mN kN bN .nil pass0 (pa_cons (pv 1) (pa_cons (pv 3) (pa_cons (pe_call GW hr5 rfl mW kW bW .nil pass0 (pa_cons (pv 0) (pa_cons (pv 1) (pa_cons (pv 3) (pa_cons (pv 2) pa_nil))))) (pa_cons (pv 4) pa_nil)))))))))), ?_⟩
    refine ⟨_, rfl, _, rfl, a, d, g, v, s', rs, rfl, hF, hv, fun hg H1 k1 => ?_, fun hb H1 k1 => ?_⟩
    · rcases h with ⟨h1, _⟩ | ⟨_, h2, h3⟩
      · rw [h1] at hg; cases hg
      · exact ⟨_, rfl, _, rfl, .inr ⟨a, d, g, u, rs, rfl, hF.ext k1, h2.ext k1, fun H2 k2 => h3 _ (k1.trans k2)⟩⟩
    · rcases h with ⟨_, h2⟩ | ⟨h1, _, _⟩
      · exact h2 _ k1
      · rw [h1] at hb; cases hb
def spShowsN (C : Addr) : Sp := fun vs H Q _ => ∃ (a b d g : Addr) (v q : V) (s : Option (List PyData)) (rs : List FRow) (bs : List (Str × Int)), vs = [.ref a, v, .ref b, .non, q] ∧ FoAt C H a rs ∧ Good rs ∧ Kn d g H v s ∧ claimsB (fNames rs) s = true ∧ H b = some (.dK (dB bs)) ∧ BsOk rs bs ∧ ∀ H', Ext H H' → Q (.bl false) H'
theorem ok_ShowsN {f f2 f3 f4 f5 f6 f7 : Addr} {fd fd2 fd3 fd4 fd5 fd6 fd7 : FuncData} (F : Fun K "shows_entitlements" "shows_entitlements" sShowsEntitlements f fd) (T : Names mg)
    (GC : FnOk P w K mg base (L2.CX P w) 4 f2 fd2 ["forest", "claims"] (spCkClX C CC)) (bC : Binds K fd2 ["forest", "claims"] []) (kC : PySem.W.keepIn K (.ref f2) = true) (mC : mg "check_claims" = some (.ref f2))
    (GB : FnOk P w K mg base (L2.CX P w) 3 f3 fd3 ["forest", "balances"] (spCkBalE P w C CB)) (bB : Binds K fd3 ["forest", "balances"] []) (kB : PySem.W.keepIn K (.ref f3) = true) (mB : mg "check_balances" = some (.ref f3))
    (GR : FnOk P w K mg base CX0 2 f4 fd4 ["claims", "value"] spIsResN) (bR : Binds K fd4 ["claims", "value"] []) (kR : PySem.W.keepIn K (.ref f4) = true) (mR : mg "is_result" = some (.ref f4))
    (GN : FnOk P w K mg base CX0 1 f7 fd7 ["claims", "result", "tight", "value"] spIsWit) (bN : Binds K fd7 ["claims", "result", "tight", "value"] []) (kN : PySem.W.keepIn K (.ref f7) = true) (mN : mg "is_witness" = some (.ref f7))
    (GF : FnOk P w K mg base CX0 6 f5 fd5 ["forest", "claims", "spent", "balances"] (spFirst C)) (bF : Binds K fd5 ["forest", "claims", "spent", "balances"] []) (kF : PySem.W.keepIn K (.ref f5) = true) (mF : mg "first_overdrawn" = some (.ref f5))
    (GW : FnOk P w K mg base CX0 5 f6 fd6 ["forest", "claims", "spent", "balances"] (spTight C)) (bW : Binds K fd6 ["forest", "claims", "spent", "balances"] []) (kW : PySem.W.keepIn K (.ref f6) = true) (mW : mg "tight_above" = some (.ref f6)) :
    FnOk P w K mg base (L2.CX P w) 7 f fd ["forest", "claims", "balances", "result", "witness"] (spShowsN C) := by
  refine F.okX scShows (fun vs H Q E h => ?_) (fun cdv A outer s H vs Q E hr h => ?_)
  · obtain ⟨a, b, d, g, v, q, s', rs, bs, rfl, _⟩ := h
    rfl
  · obtain ⟨a, b, d, g, v, q, s', rs, bs, rfl, hF, hG, hv, hg, hb, hB, k⟩ := h
    have nd := scShows.nd
    have hr1 : Room 1 (A.deeper (envOfC "shows_entitlements" (defScope sShowsEntitlements) s.heap.objs.size f cdv)) := hr.mono (by decide)
    have hr2 : Room 2 (A.deeper (envOfC "shows_entitlements" (defScope sShowsEntitlements) s.heap.objs.size f cdv)) := hr.mono (by decide)
    have hr3 : Room 3 (A.deeper (envOfC "shows_entitlements" (defScope sShowsEntitlements) s.heap.objs.size f cdv)) := hr.mono (by decide)
    have hr4 : Room 4 (A.deeper (envOfC "shows_entitlements" (defScope sShowsEntitlements) s.heap.objs.size f cdv)) := hr.mono (by decide)
    have hr5 : Room 5 (A.deeper (envOfC "shows_entitlements" (defScope sShowsEntitlements) s.heap.objs.size f cdv)) := hr.mono (by decide)
    refine ⟨_, pss_cons (ps_expr (pe_call GC hr4 rfl mC kC bC .nil (passes_call (takes_of rfl rfl rfl rfl) fun _ _ _ _ h => h) (pa_cons (pv 0) (pa_cons (pv 1) pa_nil))))
(pss_cons (ps_expr (pe_call GB hr3 rfl mB kB bB .nil (passes_call (takes_of rfl rfl rfl rfl) fun _ _ _ _ h => h) (pa_cons (pv 0) (pa_cons (pv 2) pa_nil))))
(pss_cons (ps_if (pt_not (pt_val (pe_call GR hr2 rfl mR kR bR .nil pass0 (pa_cons (pv 1) (pa_cons (pv 3) pa_nil))))) (pss_one (ps_ret pe_bl)) pss_nil)
(pss_cons (ps_if (pt_cmpR op_notN (pe_call GF hr rfl mF kF bF .nil pass0 (pa_cons (pv 0) (pa_cons (pv 1) (pa_cons (pv 3) (pa_cons (pv 2) pa_nil))))) pe_non (nomark _)) (pss_one (ps_ret pe_bl)) pss_nil)
(pss_one (ps_ret (pe_call GN hr1 rfl mN kN bN .nil pass0 (pa_cons (pv 1) (pa_cons (pv 3) (pa_cons (pe_call GW hr5 rfl mW kW bW .nil pass0 (pa_cons (pv 0) (pa_cons (pv 1) (pa_cons (pv 3) (pa_cons (pv 2) pa_nil))))) (pa_cons (pv 4) pa_nil)))))))))), ?_⟩
    refine ⟨_, rfl, _, rfl, a, d, g, v, s', rs, rfl, hF, hv, fun _ H1 k1 => ?_, fun hb H1 k1 => by rw [hg] at hb; cases hb⟩
    refine ⟨_, rfl, _, rfl, .inl ⟨a, b, rs, bs, rfl, hF.ext k1, hG, k1 _ _ hb, hB, fun H2 k2 => ?_⟩⟩
    exact ⟨_, rfl, _, rfl, _, rfl, fun H3 k3 => ⟨false, rfl, iteT (k _ (k1.trans (k2.trans k3)))⟩⟩
def spTotX (P : Program) (w : World) (C CB : Addr) : Sp := fun vs H Q E => ∃ (a d g : Addr) (u : V) (rs : List FRow), vs = [.ref a, u] ∧ FoAt C H a rs ∧ Bx P w d g (fNames rs) H u ∧ ∀ H', Ext H H' → E (.ref CB) none H'
theorem ok_TotX {f f3 f5 : Addr} {fd fd3 fd5 : FuncData} (F : Fun K "totals" "totals" sTotals f fd)
    (GB : FnOk P w K mg base (L2.CX P w) 3 f3 fd3 ["forest", "balances"] (spCkBalE P w C CB)) (bB : Binds K fd3 ["forest", "balances"] []) (kB : PySem.W.keepIn K (.ref f3) = true) (mB : mg "check_balances" = some (.ref f3))
    (GT : FnOk P w K mg base CX0 4 f5 fd5 ["forest", "balances"] (spTotOf C)) (bT : Binds K fd5 ["forest", "balances"] []) (kT : PySem.W.keepIn K (.ref f5) = true) (mT : mg "totals_of" = some (.ref f5)) :
    FnOk P w K mg base (L2.CX P w) 5 f fd ["forest", "balances"] (spTotX P w C CB) := by
  refine F.okX scTotals (fun vs H Q E h => ?_) (fun cdv A outer s H vs Q E hr h => ?_)
  · obtain ⟨a, d, g, u, rs, rfl, _⟩ := h
    rfl
  · obtain ⟨a, d, g, u, rs, rfl, hF, hu, k⟩ := h
    have nd := scTotals.nd
    have hr3 : Room 3 (A.deeper (envOfC "totals" (defScope sTotals) s.heap.objs.size f cdv)) := hr.mono (by decide)
    refine ⟨_, pss_cons (ps_expr (pe_call GB hr3 rfl mB kB bB .nil (passes_call (takes_of rfl rfl rfl rfl) fun _ _ _ _ h => h) (pa_cons (pv 0) (pa_cons (pv 1) pa_nil))))
(pss_one (ps_ret (pe_call GT hr rfl mT kT bT .nil pass0 (pa_cons (pv 0) (pa_cons (pv 1) pa_nil))))), ?_⟩
    exact ⟨_, rfl, _, rfl, .inr ⟨a, d, g, u, rs, rfl, hF, hu, fun H2 k2 => k _ k2⟩⟩
def spOverX (P : Program) (w : World) (C CC CS CB : Addr) : Sp := fun vs H Q E => ∃ (a d g : Addr) (v z u : V) (s r : Option (List PyData)) (rs : List FRow), vs = [.ref a, v, z, u] ∧ FoAt C H a rs ∧ Good rs ∧ Kn d g H v s ∧ Kn d g H z r ∧
  ((claimsB (fNames rs) s = false ∧ ∀ H', Ext H H' → E (.ref CC) none H') ∨ (∃ ds, s = some ds ∧ claimsB (fNames rs) s = true ∧ ((spentB ds.length r = false ∧ ∀ H', Ext H H' → E (.ref CS) none H') ∨ (spentB ds.length r = true ∧
    ((Bx P w d g (fNames rs) H u ∧ ∀ H', Ext H H' → E (.ref CB) none H') ∨ (∃ b bs, u = .ref b ∧ H b = some (.dK (dB bs)) ∧ BsOk rs bs ∧ ∀ x H', Ext H H' → Q x H'))))))
theorem ok_OverX {f f2 f3 f4 f5 : Addr} {fd fd2 fd3 fd4 fd5 : FuncData} (F : Fun K "overdrawn" "overdrawn" sOverdrawn f fd)
    (GC : FnOk P w K mg base (L2.CX P w) 4 f2 fd2 ["forest", "claims"] (spCkClX C CC)) (bC : Binds K fd2 ["forest", "claims"] []) (kC : PySem.W.keepIn K (.ref f2) = true) (mC : mg "check_claims" = some (.ref f2))
    (GS : FnOk P w K mg base (L2.CX P w) 2 f4 fd4 ["claims", "spent"] (spCkSpX CS)) (bS : Binds K fd4 ["claims", "spent"] []) (kS : PySem.W.keepIn K (.ref f4) = true) (mS : mg "check_spent" = some (.ref f4))
    (GB : FnOk P w K mg base (L2.CX P w) 3 f3 fd3 ["forest", "balances"] (spCkBalE P w C CB)) (bB : Binds K fd3 ["forest", "balances"] []) (kB : PySem.W.keepIn K (.ref f3) = true) (mB : mg "check_balances" = some (.ref f3))
    (GF : FnOk P w K mg base CX0 6 f5 fd5 ["forest", "claims", "spent", "balances"] (spFirst C)) (bF : Binds K fd5 ["forest", "claims", "spent", "balances"] []) (kF : PySem.W.keepIn K (.ref f5) = true) (mF : mg "first_overdrawn" = some (.ref f5)) :
    FnOk P w K mg base (L2.CX P w) 7 f fd ["forest", "claims", "spent", "balances"] (spOverX P w C CC CS CB) := by
  refine F.okX scOver (fun vs H Q E h => ?_) (fun cdv A outer s H vs Q E hr h => ?_)
  · obtain ⟨a, d, g, v, z, u, s, r, rs, rfl, _⟩ := h
    rfl
  · obtain ⟨a, d, g, v, z, u, s', r, rs, rfl, hF, hG, hv, hz, h⟩ := h
    have nd := scOver.nd
    have hr2 : Room 2 (A.deeper (envOfC "overdrawn" (defScope sOverdrawn) s.heap.objs.size f cdv)) := hr.mono (by decide)
    have hr3 : Room 3 (A.deeper (envOfC "overdrawn" (defScope sOverdrawn) s.heap.objs.size f cdv)) := hr.mono (by decide)
    have hr4 : Room 4 (A.deeper (envOfC "overdrawn" (defScope sOverdrawn) s.heap.objs.size f cdv)) := hr.mono (by decide)
    refine ⟨_, pss_cons (ps_expr (pe_call GC hr4 rfl mC kC bC .nil (passes_call (takes_of rfl rfl rfl rfl) fun _ _ _ _ h => h) (pa_cons (pv 0) (pa_cons (pv 1) pa_nil))))
(pss_cons (ps_expr (pe_call GS hr2 rfl mS kS bS .nil (passes_call (takes_of rfl rfl rfl rfl) fun _ _ _ _ h => h) (pa_cons (pv 1) (pa_cons (pv 2) pa_nil))))
(pss_cons (ps_expr (pe_call GB hr3 rfl mB kB bB .nil (passes_call (takes_of rfl rfl rfl rfl) fun _ _ _ _ h => h) (pa_cons (pv 0) (pa_cons (pv 3) pa_nil))))
(pss_one (ps_ret (pe_call GF hr rfl mF kF bF .nil pass0 (pa_cons (pv 0) (pa_cons (pv 1) (pa_cons (pv 2) (pa_cons (pv 3) pa_nil))))))))), ?_⟩
    refine ⟨_, rfl, _, rfl, a, d, g, v, s', rs, rfl, hF, hv, fun hg H1 k1 => ?_, fun hb H1 k1 => ?_⟩
    rotate_left
    · rcases h with ⟨_, h2⟩ | ⟨ds, _, h1, _⟩
      · exact h2 _ k1
      · rw [h1] at hb; cases hb
    rcases h with ⟨h1, _⟩ | ⟨ds, rfl, _, h⟩
    · rw [h1] at hg; cases hg
    obtain ⟨l, xs, cs, rfl, hcl, hcs, hco, ds', e, hl⟩ := good_claims hv hg
    cases e
    refine ⟨_, rfl, _, rfl, l, d, g, z, xs, r, rfl, hcl.ext k1, hz.ext k1, fun hsg H2 k2 => ?_, fun hsb H2 k2 => ?_⟩
    rotate_left
    · rcases h with ⟨_, h2⟩ | ⟨h1, _⟩
      · exact h2 _ (k1.trans k2)
      · rw [← hl, h1] at hsb; cases hsb
    rcases h with ⟨h1, _⟩ | ⟨_, h⟩
    · rw [← hl, h1] at hsg; cases hsg
    have k12 := k1.trans k2
    rcases h with ⟨h1, h2⟩ | ⟨b, bs, rfl, hb, hB, hq⟩
    · exact ⟨_, rfl, _, rfl, .inr ⟨a, d, g, u, rs, rfl, hF.ext k12, h1.ext k12, fun H3 k3 => h2 _ (k12.trans k3)⟩⟩
    · obtain ⟨sl, ps, rfl, hsl, hpl, hp0⟩ := good_spent hz hsg
      refine ⟨_, rfl, _, rfl, .inl ⟨a, b, rs, bs, rfl, hF.ext k12, hG, k12 _ _ hb, hB, fun H3 k3 => ?_⟩⟩
      have k13 := k12.trans k3
      exact ⟨_, rfl, _, rfl, _, rfl, _, rfl, a, l, sl, b, rs, bs, cs, xs, ps, rfl, hF.ext k13, hG, ⟨hcl.ext k13, hsl.ext k13⟩, hcs.ext k13, fun q hq => (hco.2 q hq).1, k13 _ _ hb, hB.1, fun H4 k4 => hq _ _ (k13.trans k4)⟩
end
end Lw

set_option Elab.async false
set_option linter.all false
set_option maxRecDepth 100000
set_option maxHeartbeats 4000000
/-! list.count of texts; a while with a measure that the state does not show -/
namespace Gct
open L2
open PySem PySem.Spec PyProof.Rows
section
variable {X : Cx}
def rCntS (K : PySem.W.Frag) : V → List V → Hp → VK → Prop := fun x xs H Q => ∃ (p : Addr) (ws : List Str) (k : Str), x = .ref p ∧ xs = [.str k] ∧ SqL K H p (ws.map V.str) ∧ Q (.int (ws.count k : Nat)) H
theorem count_strs (k : Str) : ∀ ws : List Str, ((ws.map PyData.str).countP fun y => PyData.eqv y (.str k)) = ws.count k
  | [] => rfl
  | w :: r => by
    rw [List.map_cons, List.countP_cons, count_strs k r, List.count_cons]
    congr 1
theorem strs_all {K : PySem.W.Frag} {H : Hp} : ∀ ws : List Str, DpAll K H (ws.map V.str) (ws.map PyData.str)
  | [] => .nil
  | _ :: r => .cons (.str _) (strs_all r)
theorem plain_strs : ∀ ws : List Str, PyData.plainAll (ws.map PyData.str) = true
  | [] => rfl
  | _ :: r => by
    show (PyData.plain (.str _) && PyData.plainAll _) = true
    rw [plain_strs r]; rfl
theorem mt_countS (hu : X.A.units + 3 < cLine) : MtR X "list.count" (rCntS X.K) := by
  intro pins s σ H x xs v us Q I rx rxs h
  obtain ⟨p, ws, k, rfl, rfl, hs, q⟩ := h
  cases rx
  obtain ⟨u, rfl, ru⟩ := rxs.one
  obtain ⟨its, rv, ⟨ob, n, ho, hc, hdn, hd⟩, hlen⟩ := I.list hs
  obtain ⟨as, r1⟩ := Dp.readsAll I _ _ its (strs_all ws) rv
  obtain ⟨bs, r2⟩ := Dp.reads I (.str k) (.str k) u (.str k) ru
  refine SeqAt.count_list_data (vs := its.toArray) (xs := ws.map PyData.str) (d := .str k) ⟨ob, ho, hc, n, hd⟩ r1 r2 (plain_strs ws) rfl ?_ ?_
  · have : min (PyData.depthAll (ws.map PyData.str)) (PyData.str k).depth ≤ (PyData.str k).depth := Nat.min_le_right ..
    have e : (PyData.str k).depth ≤ 1 := Nat.zero_le _
    omega
  · rw [count_strs]
    exact ⟨.int (ws.count k : Nat), H, I.tok _, ⟨s.toks, rfl⟩, q⟩
end
theorem while_gh {c : TT} {tb : TS} {D : Ends} {σ : L2.St} {H : Hp} (Pv : Nat → L2.St → Hp → Prop) (h0 : ∃ m, Pv m σ H)
    (hs : ∀ m σ H, Pv m σ H → c σ H fun b H1 => if b = true then tb { D with nx := fun σ' H' => ∃ m', m' < m ∧ Pv m' σ' H', ct := fun σ' H' => ∃ m', m' < m ∧ Pv m' σ' H', bk := D.nx } σ H1 else D.nx σ H1)
    (mono : ∀ σ H Q Q', (∀ b H1, Q b H1 → Q' b H1) → c σ H Q → c σ H Q') : tWhile c tb D σ H := by
  refine ⟨Pv, h0, ?_⟩
  rintro m σ H p
  refine mono σ H _ _ (fun b H1 q => ?_) (hs m σ H p)
  cases b with
  | true => exact ⟨_, fun σ' H' h => h, q⟩
  | false => exact q
/-- xs.count(y) by two names -/
def eCnt (K : PySem.W.Frag) (i j : Nat) : TE := fun σ H Q => ∃ (p : Addr) (ws : List Str) (k : Str), σ[i]? = some (some (.ref p)) ∧ σ[j]? = some (some (.str k)) ∧ SqL K H p (ws.map V.str) ∧ Q (.int (ws.count k : Nat)) H
theorem eCnt_ok {K : PySem.W.Frag} {i j : Nat} (σ : L2.St) (H : Hp) (Q : VK) (h : eCnt K i j σ H Q) : tBM K "list" (rCntS K) (tVar i) (tCons (tVar j) tNil) σ H Q := by
  obtain ⟨p, ws, k, h1, h2, h3, h4⟩ := h
  exact ⟨_, h1, .inl ⟨rfl, _, h3⟩, _, h2, p, ws, k, rfl, rfl, h3, h4⟩
end Gct

set_option Elab.async false
set_option linter.all false
set_option maxRecDepth 100000
set_option maxHeartbeats 4000000
/-! list.count of truth values -/
namespace Gct
open L2
open PySem PySem.Spec PyProof.Rows
section
variable {X : Cx}
def rCntB (K : PySem.W.Frag) : V → List V → Hp → VK → Prop := fun x xs H Q => ∃ (p : Addr) (ws : List Bool) (k : Bool), x = .ref p ∧ xs = [.bl k] ∧ SqL K H p (ws.map V.bl) ∧ Q (.int (ws.count k : Nat)) H
theorem count_bls (k : Bool) : ∀ ws : List Bool, ((ws.map PyData.bool).countP fun y => PyData.eqv y (.bool k)) = ws.count k
  | [] => rfl
  | w :: r => by
    rw [List.map_cons, List.countP_cons, count_bls k r, List.count_cons]
    congr 1
theorem plain_bls : ∀ ws : List Bool, PyData.plainAll (ws.map PyData.bool) = true
  | [] => rfl
  | _ :: r => by
    show (PyData.plain (.bool _) && PyData.plainAll _) = true
    rw [plain_bls r]; rfl
theorem mt_countB (hu : X.A.units + 3 < cLine) : MtR X "list.count" (rCntB X.K) := by
  intro pins s σ H x xs v us Q I rx rxs h
  obtain ⟨p, ws, k, rfl, rfl, hs, q⟩ := h
  cases rx
  obtain ⟨u, rfl, ru⟩ := rxs.one
  obtain ⟨its, rv, ⟨ob, n, ho, hc, hdn, hd⟩, hlen⟩ := I.list hs
  obtain ⟨as, r1⟩ := Dp.readsAll I _ _ its (Gn.dp_bools ws) rv
  obtain ⟨bs, r2⟩ := Dp.reads I (.bool k) (.bl k) u (.bl k) ru
  refine SeqAt.count_list_data (vs := its.toArray) (xs := ws.map PyData.bool) (d := .bool k) ⟨ob, ho, hc, n, hd⟩ r1 r2 (plain_bls ws) rfl ?_ ?_
  · have : min (PyData.depthAll (ws.map PyData.bool)) (PyData.bool k).depth ≤ (PyData.bool k).depth := Nat.min_le_right ..
    have e : (PyData.bool k).depth ≤ 1 := Nat.zero_le _
    omega
  · rw [count_bls]
    exact ⟨.int (ws.count k : Nat), H, I.tok _, ⟨s.toks, rfl⟩, q⟩
end
end Gct

set_option Elab.async false
set_option linter.all false
set_option maxRecDepth 100000
set_option maxHeartbeats 4000000
/-! a law that makes lambdas: its own table of code objects is tracked -/
namespace Ga
open PySem PySem.Spec PyProof.Rows L2 Gn Ge LamX
/-- call_here where the code object is known -/
theorem call_at {P : Program} {w : World} {K : PySem.W.Frag} {mg : Str → Option Value} {base : Heap} {x qual : Str} {st : Stmt} {f c : Addr} {fd : FuncData} {N ps : List Str} {k : Nat} {A : Around} {outer : List Env} {s : Shared} {H : Hp} {vs : List V} {us : List Value} {Q : VK}
    (F : Fun K x qual st f fd) (S : FnScope N ps (defScope st)) (hr : Room (k + 1) A) (e0 : Env0 P w K mg base A outer s H) (hb : BindsTo s fd ⟨us, []⟩ (ps.zip us)) (hl : vs.length = ps.length) (r : Vals vs us) (hcode : fd.code = .ref c)
    (body : Room k (A.deeper (envOfC qual (defScope st) s.heap.objs.size f (.ref c))) →
      ∃ t, PSs (cxOf CX0 P w K mg base N qual (defScope st) f (.ref c) A outer s H E0).nox (defBody st) t ∧ t { nx := fun _ H' => Q .non H', rt := Q } (start N vs) H) :
    codeAny (model P w) A (.call (.ref f) ⟨us, []⟩) (CR CX0 outer P w H s Q E0) s := by
  obtain ⟨oc, od, kV, doc, pm, an, cdv, ct, osl, rfl, lk, hcd⟩ := F.ex
  have hcode : cdv = .ref c := hcode
  subst hcode
  have old : ∀ b o, base.get? b = some o → s.heap.get? b = some o := fun b o e => (e0.bs b o e).1
  have KX : K.In s.heap := e0.mod.kin.keeps old
  obtain ⟨t, ht, hq⟩ := body (hr.deeper _)
  refine codeAny_call_function hr.depth (KX _ _ lk) rfl S.co S.gen rfl (PySem.W.codeRec_of KX hcd) (hb _ _ _ _ ?_)
  refine wpAny_newFunctionEnv_cells S.kind (fun ⟨n, v⟩ hy => ?_) (fun env he s1 z => ?_)
  · cases S.par n (List.of_mem_zip hy).1 with
    | inl q => exact .inl q
    | inr q => exact .inr ⟨q, PySem.W.cellsFrom_some _ _ _ (.inl q)⟩
  · subst he
    refine ⟨(e0.mod.nolimit.keeps old).keeps z.toInCall.keep, codeAny_func ?_⟩
    have I : Inv (cxOf CX0 P w K mg base N qual (defScope st) f (.ref c) A outer s H E0) [] (start N vs) H s1 := inv_start S hr.hd e0 hl r z
    refine wpAny_mono (ht.nox.run [] s1 (start N vs) H _ I hq) (fun fl s' hs => ?_) (fun e s' hs => hs)
    match fl, hs with
    | .ret u, ⟨v, σ', H', J, rv, q⟩ => exact ⟨v, H', J.os, J.bare, J.base, J.hok, rv, q⟩
    | .next, ⟨σ', H', J, q⟩ => exact ⟨.non, H', J.os, J.bare, J.base, J.hok, rfl, q⟩
    | .brk, ⟨_, _, _, q⟩ => exact q.elim
    | .cont, ⟨_, _, _, q⟩ => exact q.elim
section
variable {P : Program} {w : World} {K : PySem.W.Frag} {mg mb : Str → Option Value} {s₁ : Shared} {a c t : Addr} {vs : List Value} {ns : List Int} {st : Stmt} {N : List Str} {x : Str} {k : Nat} {fa : Addr} {fd : FuncData}
/-- the state that the row's call begins with; t is the table -/
theorem env_ofT {H : Hp} (KX : K.In s₁.heap) (hns : s₁.heap.Ns mainGlobals mg) (hb : s₁.heap.Ns builtinsNs mb) (hbb : ∀ x : Str, x ≠ "__name__" → mb x = bootBuiltins x) (hlim : s₁.heap.NoLimit) (hsee : ∃ mm, s₁.heap.Ns sysModules mm) (hg : s₁.gens = #[])
    (ha : s₁.heap.get? a = some { cls := .type "list", data := .seq vs.toArray }) (ht : s₁.heap.get? t = some (PySem.W.tabObj #[])) (hc : PySem.W.CodeHd s₁.heap c t)
    (hbm : ∃ bm ob, mg "__builtins__" = some (.ref bm) ∧ bm ≠ builtinsNs ∧ s₁.heap.get? bm = some ob ∧ ob.cls = .type "module" ∧ ob.dict = some builtinsNs ∧ ob.data = .plain)
    (only : ∀ b, H b ≠ none → b = a ∨ b = t) (hka : H a ≠ none → K.lookup a = none) (hkt : K.lookup t = none) (hok : HOk P w H s₁.heap) :
    Env0 P w K mg (hidT s₁.heap H) callerA [] s₁ H ∧ Bed K mg (hidT s₁.heap H) callerA ∧ TabB (hidT s₁.heap H) mg c t := by
  -- what is neither the list nor the table stands in the hidden heap too
  have stands : ∀ {b : Addr} {o : Obj}, s₁.heap.get? b = some o → (∀ q n, o.data ≠ .seq q n) → o.data ≠ .fields #[] → (hidT s₁.heap H).get? b = some o := fun {b o} e h1 h2 => hidT_get e (by
    cases q : H b with
    | none => rfl
    | some u =>
      exfalso
      rcases only b (by rw [q]; simp) with z | z
      · subst z
        rw [ha] at e
        cases e
        exact h1 _ _ rfl
      · subst z
        rw [ht] at e
        cases e
        exact h2 rfl)
  have nsS : ∀ {b : Addr} {m : Str → Option Value}, s₁.heap.Ns b m → (hidT s₁.heap H).Ns b m := fun {b m} ⟨o, es, ep, e, dd, r⟩ =>
    ⟨o, es, ep, stands e (fun q n z => by rw [dd] at z; cases z) (fun z => by rw [dd] at z; cases z), dd, r⟩
  have kS : K.In (hidT s₁.heap H) := fun b o e => hidT_get (KX b o e) (by
    cases q : H b with
    | none => rfl
    | some u =>
      exfalso
      rcases only b (by rw [q]; simp) with z | z
      · subst z
        rw [hka (by rw [q]; simp)] at e
        cases e
      · subst z
        rw [hkt] at e
        cases e)
  obtain ⟨mc, c1, c2⟩ := hlim
  obtain ⟨mm, sysN⟩ := hsee
  obtain ⟨so, _, _, sysE, _⟩ := nsS sysN
  obtain ⟨go, ges, gep, ge, gd, _⟩ := id hns
  refine ⟨⟨rfl, ⟨kS, nsS hns, ⟨mb, nsS hb, hbb⟩, ⟨mc, nsS c1, c2⟩⟩, fun b o e => of_hidT e, Nat.le_of_eq (hidT_size _ _), trivial, fun b z => absurd (show b ∈ ([] : List Addr) from z) (by simp), hok, .of_eq hg⟩, ⟨kS, nsS hns, ⟨so, sysE⟩, rfl⟩, ?_, ?_, ?_⟩
  · obtain ⟨o, us, file, tf, flags, tg, inF, tx, tt, e1, r1, r2, r3, rest⟩ := hc
    refine ⟨o, us, file, tf, flags, tg, inF, tx, tt, stands e1 (fun q n z => ?_) (fun z => ?_), r1, r2, r3, rest⟩
    · rw [r2] at z
      cases z
    · rw [r2] at z
      cases z
      simp at r3
  · obtain ⟨bm, ob, b1, b2, b3, b4, b5, b6⟩ := hbm
    refine ⟨bm, ob, b1, b2, fun z => ?_, fun z => ?_, stands b3 (fun q n z => by rw [b6] at z; cases z) (fun z => by rw [b6] at z; cases z), b4, b5, b6⟩
    · subst z
      rw [ge] at b3
      cases b3
      rw [gd] at b6
      cases b6
    · subst z
      rw [ht] at b3
      cases b3
      cases b6
  · intro z
    subst z
    rw [ge] at ht
    cases ht
    cases gd
/-- the heap with the table, and the list where it is tracked -/
def Ht (t a : Addr) (v : Option HO) : Hp := fun b => if b = t then some (.tbl #[]) else if b = a then v else none
theorem ht_t {t a : Addr} {v : Option HO} : Ht t a v t = some (.tbl #[]) := if_pos rfl
theorem ht_a {t a : Addr} {v : Option HO} (h : a ≠ t) : Ht t a v a = v := (if_neg h).trans (if_pos rfl)
theorem ht_no {t a b : Addr} {v : Option HO} (h1 : b ≠ t) (h2 : b ≠ a) : Ht t a v b = none := (if_neg h1).trans (if_neg h2)
theorem law_trueT (KX : K.In s₁.heap) (hns : s₁.heap.Ns mainGlobals mg) (hb : s₁.heap.Ns builtinsNs mb) (hbb : ∀ x : Str, x ≠ "__name__" → mb x = bootBuiltins x) (hlim : s₁.heap.NoLimit) (hsee : ∃ mm, s₁.heap.Ns sysModules mm) (hg : s₁.gens = #[])
    (ha : s₁.heap.get? a = some { cls := .type "list", data := .seq vs.toArray }) (ht : s₁.heap.get? t = some (PySem.W.tabObj #[])) (hc : PySem.W.CodeHd s₁.heap c t)
    (hbm : ∃ bm ob, mg "__builtins__" = some (.ref bm) ∧ bm ≠ builtinsNs ∧ s₁.heap.get? bm = some ob ∧ ob.cls = .type "module" ∧ ob.dict = some builtinsNs ∧ ob.data = .plain) (hkt : K.lookup t = none)
    (hi : IntsAre vs ns) (hl : ns.length ≤ sizeLine) (hr : Room (k + 1) callerA)
    (F : Fun K "law" "law" st fa fd) (S : FnScope N [x] (defScope st)) (hbind : ∀ (s : Shared) (u : Value), BindsTo s fd ⟨[u], []⟩ [(x, u)]) (hcode : fd.code = .ref c)
    (body : ∀ (base : Heap) (A : Around) (s : Shared) (H : Hp), Bed K mg base A → TabB base mg c t → H t = some (.tbl #[]) → Room k (A.deeper (envOfC "law" (defScope st) s.heap.objs.size fa (.ref c))) → SqL K H a (ns.map V.int) →
      ∃ q, PSs (cxOf CX0 P w K mg base N "law" (defScope st) fa (.ref c) A [] s H E0).nox (defBody st) q ∧ q { nx := fun _ _ => False, rt := fun v _ => v = .bl true } (start N [.ref a]) H) :
    codeAny (model P w) callerA (.call (.ref fa) ⟨[.ref a], []⟩) (fun r s' => r = .ok (.ret (.bool true)) ∧ OldK s₁.heap s'.heap ∧ s'.os = s₁.os ∧ AllBare s'.gens) s₁ := by
  have nat : a ≠ t := fun z => by
    subst z
    rw [ha] at ht
    cases ht
  have rv := vals_ints hi
  have go : ∀ v : Option HO, (v = none ∨ v = some (.frz { cls := .type "list", data := .seq vs.toArray } (.lst (ns.map V.int)))) → SqL K (Ht t a v) a (ns.map V.int) → (v ≠ none → K.lookup a = none) →
      codeAny (model P w) callerA (.call (.ref fa) ⟨[.ref a], []⟩) (fun r s' => r = .ok (.ret (.bool true)) ∧ OldK s₁.heap s'.heap ∧ s'.os = s₁.os ∧ AllBare s'.gens) s₁ := by
    intro v hv hS hk
    have hok : HOk P w (Ht t a v) s₁.heap := fun b u z => by
      by_cases h1 : b = t
      · subst h1
        rw [ht_t] at z
        cases z
        exact ht
      · by_cases h2 : b = a
        · subst h2
          rw [ht_a nat] at z
          rcases hv with e | e
          · rw [e] at z; cases z
          · rw [e] at z
            cases z
            exact ⟨ha, by rw [List.length_map]; exact hl, vs, _, rv, ha⟩
        · rw [ht_no h1 h2] at z
          cases z
    obtain ⟨e0, B, TB⟩ := env_ofT (P := P) (w := w) (H := Ht t a v) KX hns hb hbb hlim hsee hg ha ht hc hbm (fun b hne => by
      by_cases h1 : b = t
      · exact .inr h1
      · by_cases h2 : b = a
        · exact .inl h2
        · exact absurd (ht_no h1 h2) hne) (fun hne => hk (by rw [ht_a nat] at hne; exact hne)) hkt hok
    refine codeAny_mono (call_at (Q := fun v _ => v = .bl true) (vs := [.ref a]) (us := [.ref a]) F S hr e0 (hbind s₁ (.ref a)) rfl (.cons rfl .nil) hcode fun hr' => ?_) fun r s' h => ?_
    · obtain ⟨q, h1, h2⟩ := body (hidT s₁.heap (Ht t a v)) callerA s₁ (Ht t a v) B TB ht_t hr' hS
      have e : (fun (_ : L2.St) (_ : Hp) => V.non = V.bl true) = fun _ _ => False := by funext _ _; simp
      refine ⟨q, h1, ?_⟩
      show q { nx := fun _ _ => V.non = V.bl true, rt := fun v _ => v = V.bl true } (start N [.ref a]) (Ht t a v)
      rw [e]
      exact h2
    · match r, h with
      | .error e, h => exact False.elim h
      | .ok .next, h => exact False.elim h
      | .ok .brk, h => exact False.elim h
      | .ok .cont, h => exact False.elim h
      | .ok (.ret u), ⟨v1, H', os, bare, un, hok', r', q⟩ =>
        subst q
        obtain rfl : u = Value.bool true := r'
        obtain ⟨more, hm⟩ := un.tbls t #[] ht_t
        have tab' : s'.heap.get? t = some { cls := .none, data := .fields (#[] ++ more) } := hok' t _ hm
        have rest : ∀ b o, b ≠ t → s₁.heap.get? b = some o → s'.heap.get? b = some o := fun b o n e => by
          by_cases h2 : b = a
          · subst h2
            rcases hv with z | z
            · exact un.keep b o e (by rw [ht_a nat, z]) (by intro m; exact absurd (show b ∈ ([] : List Addr) from m) (by simp)) (by simp)
            · have zf : Ht t b v b = some (.frz { cls := .type "list", data := .seq vs.toArray } (.lst (ns.map V.int))) := by rw [ht_a nat, z]
              obtain ⟨e2, _⟩ := hok' b _ (un.frzs b _ _ zf)
              rw [ha] at e
              cases e
              exact e2
          · exact un.keep b o e (ht_no n h2) (by intro m; exact absurd (show b ∈ ([] : List Addr) from m) (by simp)) (by simp)
        refine ⟨rfl, ⟨fun b o e => ?_, fun b o e => ?_⟩, os, bare⟩
        · by_cases h1 : b = t
          · subst h1
            rw [ht] at e
            cases e
            exact .inr (.inl ⟨(hc.tab ht).isCodeTable, rfl, #[], more, rfl, tab'⟩)
          · exact .inl (rest b o h1 e)
        · by_cases h1 : b = t
          · subst h1
            exact ⟨_, tab'⟩
          · exact ⟨o, rest b o h1 e⟩
  cases hk : K.lookup a with
  | some o =>
    have e := KX a o hk
    rw [ha] at e
    cases e
    exact go none (.inl rfl) (.inr ⟨_, vs.toArray, _, hk, rfl, rfl, rfl, by rw [List.size_toArray, hi.length]; exact hl, by simpa using rv⟩) fun z => absurd rfl z
  | none => exact go _ (.inr rfl) (.inl (.inr ⟨_, ht_a nat⟩)) fun _ => hk
end
open PySem.W in
/-- the goal that the head leaves, where the law makes lambdas -/
theorem walk_lawT {l : PySem.W.OpenLaw} {n k : Nat} {q : Program} {loose : List Str} {XP : (Str → Option Value) → Heap → Prop} {YP : World → Heap → Prop} {d dd : DefRec} {K : Params → PySem.W.Frag} {x : Str} {st : Stmt} {N : List Str}
    (hn : l.most = some n) (hn2 : n ≤ sizeLine) (hdf : d.params.defaults = []) (hdn : d.name = "law") (hr : Room (k + 1) callerA) (hi : importsNone q = true) (hfind : (recsOf q).find? (fun e => e.name == ("law" : Str)) = some dd) (S : FnScope N [x] (defScope st))
    (hY : ∀ (w : World) (h : Heap), YP w h → (K w.params).In h)
    (F : ∀ (w : World) (mg : Str → Option Value) (fa : Addr) (h : Heap), (K w.params).In h → h.Ns mainGlobals mg → mg "law" = some (.ref fa) →
      ∃ (fd : FuncData) (c t : Addr), tabIn (K w.params) "law" = some (c, t) ∧ (K w.params).lookup t = none ∧ Fun (K w.params) "law" "law" st fa fd ∧ fd.code = .ref c ∧ (∀ (s : Shared) (u : Value), BindsTo s fd ⟨[u], []⟩ [(x, u)]) ∧
        ∀ (base : Heap) (A : Around) (s : Shared) (H : Hp) (a : Addr) (ns : List Int), ns.length ≤ n → Bed (K w.params) mg base A → TabB base mg c t → H t = some (.tbl #[]) → Room k (A.deeper (envOfC "law" (defScope st) s.heap.objs.size fa (.ref c))) → SqL (K w.params) H a (ns.map V.int) →
          ∃ q, PSs (cxOf CX0 l.prog w (K w.params) mg base N "law" (defScope st) fa (.ref c) A [] s H E0).nox (defBody st) q ∧ q { nx := fun _ _ => False, rt := fun v _ => v = .bl true } (start N [.ref a]) H) :
    PySem.W.WalkO q loose XP YP l.row.toRowW d [] (fun f vs => PySem.call f vs) := by
  refine Att.attach_call hn hdf fun w s₀ s₁ mg mb fa o pm cd doc a vs ns G Y ho hd hcd hmg hobj hints hlen hg => ?_
  rw [hdn] at hmg
  have KX := hY w _ Y
  obtain ⟨fd, c, t, e1, e2, F1, e3, F2, F3⟩ := F w mg fa _ KX G.T.g hmg
  obtain ⟨hc, ht⟩ := tab_of G.T KX hfind e1
  obtain ⟨mm, z, _⟩ := (G.T.seer hi).mods
  exact law_trueT KX G.T.g G.T.b G.T.builtins G.T.nolimit ⟨mm, z⟩ hg hobj ht hc G.T.bmain e2 hints (Nat.le_trans hlen hn2) hr F1 S F2 e3 fun base A s H B TB hT hr' hS => F3 base A s H a ns hlen B TB hT hr' hS
end Ga

set_option Elab.async false
set_option linter.all false
set_option maxRecDepth 100000
set_option maxHeartbeats 4000000
namespace Lw
open L2 hiding Ext
open PySem PySem.Spec PyProof.Rows Gn Gr Gk Go Gt Gf Gu Gx Gdo LamX
/-! ### _law_refusal: what it makes of the lambda -/
structure XM (K : PySem.W.Frag) (A CP CF CU CC CS CB : Addr) (b1 b2 b3 : Bool) : Prop where
  c : ExcC K A
  e : PySem.W.exmOne K (.ref A) (.ref CP) = some true
  s1 : PySem.W.kitOne K (.ref A) (.ref CC) = some b1
  s2 : PySem.W.kitOne K (.ref A) (.ref CS) = some b2
  s3 : PySem.W.kitOne K (.ref A) (.ref CB) = some b3
  sF : PySem.W.kitOne K (.ref A) (.ref CF) = some false
  sU : PySem.W.kitOne K (.ref A) (.ref CU) = some false
structure XRc (K : PySem.W.Frag) (mg : Str → Option Value) (CP CF CU CC CS CB : Addr) : Prop where
  nm : mg "PurseError" = some (.ref CP)
  gF : mg "InvalidForest" = some (.ref CF)
  gU : mg "UnknownAccount" = some (.ref CU)
  gC : mg "InvalidClaims" = some (.ref CC)
  gS : mg "InvalidSpent" = some (.ref CS)
  gB : mg "InvalidBalances" = some (.ref CB)
  mC : XM K CC CP CF CU CC CS CB true false false
  mS : XM K CS CP CF CU CC CS CB false true false
  mB : XM K CB CP CF CU CC CS CB false false true
abbrev nRef : List Str := ["_law_work", "_law_caught", "e", "_law_marks"]
def Wd (CC CS CB : Addr) (cls : Value) (z : Str) : Prop := (cls = .ref CC ∧ z = "claims") ∨ (cls = .ref CS ∧ z = "spent") ∨ (cls = .ref CB ∧ z = "balances")
def TTR (CC CS CB : Addr) : (XK → Hp → VK → Prop) → Hp → VK → Prop := fun tl H Q =>
  ∀ (E' : XK) (Q' : VK), (∀ cls H' z, Wd CC CS CB cls z → (∀ H2, Ext H' H2 → Q (.str z) H2) → E' cls none H') → (∀ v H', Q (.str "") H' → Q' v H') → tl E' H Q'
theorem scRef : FnScope nRef ["_law_work"] (defScope sLRefusal) := ⟨rfl, rfl, rfl, by decide +kernel, rfl, by decide +kernel, by decide +kernel⟩
theorem takes_len {X : Cx} {W : WX} (tk : Takes X W) : Takes X (fun cls d σ H => σ.length = X.N.length → W cls d σ H) := fun u s' ⟨a, B, sI, pins, σ, H, cls, d, e, I, nb, up, sky, na, os, ag, w⟩ => tk u s' ⟨a, B, sI, pins, σ, H, cls, d, e, I, nb, up, sky, na, os, ag, w I.len⟩
section
variable {X : Cx} {CP CF CU CC CS CB g : Addr} {cdg : Value} {q : Str}
theorem ref_gives (hX : X.A.units + 64 < cLine) (T : Names X.mg) (Y : XRc X.K X.mg CP CF CU CC CS CB) : GivesTo X nRef "_law_refusal" (defScope sLRefusal) g cdg (defBody sLRefusal) "_law_work" q (TTR CC CS CB) := by
  intro f c' s H Q tl act hc h
  have nd := scRef.nd
  have hu3 : (X.A.deeper (envOfC "_law_refusal" (defScope sLRefusal) s.heap.objs.size g cdg)).units + 3 < cLine := by show X.A.units + 3 + 3 < cLine; omega
  refine ⟨_, pss_cons (ps_set (i := 1) nd rfl (.inl rfl) pe_non)
(pss_cons (ps_try_keep (X := (cxOf C8.CX0 X.prog X.w X.K X.mg X.base nRef "_law_refusal" (defScope sLRefusal) g cdg X.A X.stack s H C8.E0).nox) (c := .ref CP) (i := 2) (j := 1) (tb := fun W D σ H => ∃ Ech : XK, (∀ cls d σ' H', Ech cls d H' → σ'.length = 4 → W cls d σ' H') ∧ σ[0]? = some (some (.ref f)) ∧ H c' = some (CodeO c' q) ∧ tl Ech H (fun _ H' => D.nx σ H')) rfl rfl nd rfl rfl rfl rfl ⟨rfl, by decide, .inl Y.nm⟩ rfl (by decide) (by decide) rfl fun W pn xe tk _ => ?body)
(pss_cons (ps_if (pt_cmpR op_isN (pv 1) pe_non (nomark _)) (pss_one (ps_ret pe_str)) pss_nil)
(pss_cons (ps_set (i := 3) nd rfl (.inl rfl) (pe_lst (pa_cons (pe_callB call_isX rfl T.isi (by decide +kernel) (pa_cons (pv 1) (pa_cons (pe_glob (v := .ref CC) rfl Y.gC rfl) pa_nil))) (pa_cons (pe_callB call_isX rfl T.isi (by decide +kernel) (pa_cons (pv 1) (pa_cons (pe_glob (v := .ref CS) rfl Y.gS rfl) pa_nil))) (pa_cons (pe_callB call_isX rfl T.isi (by decide +kernel) (pa_cons (pv 1) (pa_cons (pe_glob (v := .ref CB) rfl Y.gB rfl) pa_nil))) pa_nil)))))
(pss_cons (ps_if (PW.pt (pw_or (pt_cmpR op_ne (pe_bm PySem.F.plainAttrs_list PySem.F.slot_list_count PySem.F.type_list_count (Gct.mt_countB hu3) (pv 3) (pa_cons pe_bl pa_nil)) pe_int (nomark _)) (pw_or1 (pt_val (pe_callB call_isXT rfl T.isi (by decide +kernel) (pa_cons (pv 1) (pa_cons (pe_tup (pa_cons (pe_glob (v := .ref CF) rfl Y.gF rfl) (pa_cons (pe_glob (v := .ref CU) rfl Y.gU rfl) pa_nil))) pa_nil))))))) (pss_one (ps_ret pe_str)) pss_nil)
(pss_one (ps_ret (pe_ix ix_list (pe_lst (pa_cons pe_str (pa_cons pe_str (pa_cons pe_str pa_nil)))) (pe_bm PySem.F.plainAttrs_list PySem.F.slot_list_index PySem.F.type_list_index mt_index (pv 3) (pa_cons pe_bl pa_nil)) (fun _ _ => rfl)))))))), ?_⟩
  case body =>
    refine ⟨fun pins s' σ H' D I h' => ?_⟩
    obtain ⟨Ech, hW, h1, h2, h3⟩ := h'
    exact (pss_one (ps_expr (act _ pn xe Ech _ _ (takes_len tk) (fun cls d σ' H' e l => hW cls d σ' H' e l)))).run pins s' σ H' D I ⟨h1, h2, h3⟩
  · refine ⟨fun cls d H' => d = none ∧ ∃ z, Wd CC CS CB cls z ∧ ∀ H2, Ext H' H2 → Q (.str z) H2, ?_, rfl, hc, h _ _ (fun cls H' z hz k => ⟨rfl, z, hz, k⟩) fun v H' k => ⟨_, rfl, rfl, _, rfl, iteS rfl k⟩⟩
    rintro cls d σ' H' ⟨rfl, z, hz, k⟩ hl
    obtain ⟨A, b1, b2, b3, j, M, hcnt, hj, hbef, hstr, rfl⟩ : ∃ (A : Addr) (b1 b2 b3 : Bool) (j : Nat), XM X.K A CP CF CU CC CS CB b1 b2 b3 ∧ ([b1, b2, b3].count true = 1) ∧ [b1, b2, b3][j]? = some true ∧ (∀ m, m < j → [b1, b2, b3][m]? = some false) ∧ ([V.str "claims", .str "spent", .str "balances"][j]? = some (.str z)) ∧ cls = .ref A := by
      rcases hz with ⟨h1, rfl⟩ | ⟨h1, rfl⟩ | ⟨h1, rfl⟩
      · exact ⟨CC, true, false, false, 0, Y.mC, rfl, rfl, (fun m hm => by omega), rfl, h1⟩
      · exact ⟨CS, false, true, false, 1, Y.mS, rfl, rfl, (fun m hm => by
          have e : m = 0 := by omega
          subst e
          rfl), rfl, h1⟩
      · exact ⟨CB, false, false, true, 2, Y.mB, rfl, rfl, (fun m hm => by
          match m, hm with
          | 0, _ => rfl
          | 1, _ => rfl), rfl, h1⟩
    refine ⟨M.e, fun a ha => ?_⟩
    match σ', hl with
    | [x0, x1, x2, x3], _ =>
      have a3 : (upd H' a (ExK (.ref A) none a)) a = some (ExK (.ref A) none a) := upd_same
      have k3 : Ext H' (upd H' a (ExK (.ref A) none a)) := Ext.new ha
      dsimp only [List.set]
      generalize upd H' a (ExK (.ref A) none a) = H3 at a3 k3 ⊢
      refine ⟨_, rfl, rfl, _, rfl, iteN (by intro z; cases z) ?_⟩
      refine ⟨_, rfl, a, A, none, _, _, b1, rfl, a3, trivial, M.c, .own CC, M.s1, ?_⟩
      refine ⟨_, rfl, a, A, none, _, _, b2, rfl, a3, trivial, M.c, .own CS, M.s2, ?_⟩
      refine ⟨_, rfl, a, A, none, _, _, b3, rfl, a3, trivial, M.c, .own CB, M.s3, ?_⟩
      refine ⟨by show 3 ≤ sizeLine; decide, fun l hl => ?_⟩
      have kl := Ext.new (o := .lst [.bl b1, .bl b2, .bl b3]) hl
      have a4 := kl _ _ a3
      have l4 : (upd H3 l (.lst [.bl b1, .bl b2, .bl b3])) l = some (.lst [.bl b1, .bl b2, .bl b3]) := upd_same
      have k4 := k3.trans kl
      generalize upd H3 l (.lst [.bl b1, .bl b2, .bl b3]) = H4 at a4 l4 k4 ⊢
      dsimp only [List.set]
      refine ⟨_, rfl, .inl ⟨rfl, _, SqL.of l4⟩, l, [b1, b2, b3], true, rfl, rfl, SqL.of l4, rfl, _, rfl, ?_⟩
      rw [hcnt]
      refine iteNS rfl ?_
      refine ⟨_, rfl, by show 2 ≤ sizeLine; decide, fun t ht => ?_⟩
      have kt := Ext.new (o := .tup [.ref CF, .ref CU]) ht
      have a5 := kt _ _ a4
      have l5 := kt _ _ l4
      have t5 : (upd H4 t (.tup [.ref CF, .ref CU])) t = some (.tup [.ref CF, .ref CU]) := upd_same
      have k5 := k4.trans kt
      generalize upd H4 t (.tup [.ref CF, .ref CU]) = H5 at a5 l5 t5 k5 ⊢
      refine ⟨a, A, none, t, _, [.ref CF, .ref CU], false, rfl, a5, trivial, M.c, t5, .cons (.own CF) (.cons (.own CU) .nil), kitAny_cons (b := false) M.sF (fun _ => kitAny_cons (b := false) M.sU (fun _ => rfl) (fun z => by cases z)) (fun z => by cases z), false, rfl, iteF ?_⟩
      refine ⟨by show 3 ≤ sizeLine; decide, fun p hp => ?_⟩
      have kp := Ext.new (o := .lst [.str "claims", .str "spent", .str "balances"]) hp
      have l6 := kp _ _ l5
      have p6 : (upd H5 p (.lst [.str "claims", .str "spent", .str "balances"])) p = some (.lst [.str "claims", .str "spent", .str "balances"]) := upd_same
      have k6 := k5.trans kp
      generalize upd H5 p (.lst [.str "claims", .str "spent", .str "balances"]) = H6 at l6 p6 k6 ⊢
      have hjl := (List.getElem?_eq_some_iff.mp hj).1
      refine ⟨_, rfl, .inl ⟨rfl, _, SqL.of l6⟩, l, _, _, j, .bl true, rfl, rfl, SqL.of l6, rfl, rfl, ?_, rfl, fun m z' hm hz' => ?_, p, _, _, _, rfl, rfl, SqL.of p6, (show atI _ ((j : Nat) : Int) = _ from atI_nat hstr), k _ k6⟩
      · have e : ([V.bl b1, .bl b2, .bl b3] : List V)[j]? = ([b1, b2, b3][j]?).map V.bl := by rw [← List.getElem?_map]; rfl
        rw [e, hj]
        rfl
      · have e : ([V.bl b1, .bl b2, .bl b3] : List V)[m]? = ([b1, b2, b3][m]?).map V.bl := by rw [← List.getElem?_map]; rfl
        rw [e, hbef m hm] at hz'
        cases hz'
        rfl
end
end Lw

set_option Elab.async false
set_option linter.all false
set_option maxRecDepth 100000
set_option maxHeartbeats 8000000
namespace Lw
open L2 hiding Ext
open PySem PySem.Spec PyProof.Rows Gn Gr Gk Go Gt Gf Gu Gx Gdo LamX Ge Ga
/-! ### what stands, where only tables may grow -/
theorem tabs_kp {T : List (Addr × Str)} {ns : List Int} {d g c : Addr} {b : Nat} {H H' : Hp} (D : Dw ns d g c b H) (k : Kp d g H H') (h : Tabs T H) : Tabs T H' := fun p hp => by
  obtain ⟨⟨gs, l, t, hd, hg, _, _⟩, _⟩ := D
  obtain ⟨ps, h1, h2, h3⟩ := h p hp
  refine ⟨ps, k _ _ (ne_of h1 hd (by intro z; cases z)) (ne_of h1 hg (by intro z; cases z)) h1, h2, fun pos cv hc => ?_⟩
  obtain ⟨c0, e1, e2⟩ := h3 pos cv hc
  exact ⟨c0, e1, k _ _ (ne_of e2 hd (by unfold CodeO; intro z; cases z)) (ne_of e2 hg (by unfold CodeO; intro z; cases z)) e2⟩
theorem dw_n {ns : List Int} {d g c : Addr} {b : Nat} {H H' : Hp} (h : Dw ns d g c b H) (k : ExtN H H') : Dw ns d g c b H' := by
  obtain ⟨⟨gs, l, t, h1, h2, h3, h4⟩, h5, h6, h7⟩ := h
  exact ⟨⟨gs, l, t, k _ _ h1 (by intro z q; cases q), k _ _ h2 (by intro z q; cases q), h3, h4⟩, k _ _ h5 (by intro z q; cases q), h6, h7⟩
theorem fo_n {C a : Addr} {H H' : Hp} {rs : List FRow} (h : FoAt C H a rs) (k : ExtN H H') : FoAt C H' a rs := by
  obtain ⟨dx, q, h1, h2⟩ := h
  exact ⟨dx, q, k _ _ h1 (by intro z q; cases q), k _ _ h2 (by intro z q; cases q)⟩
mutual
theorem dk_n {d g : Addr} {H H' : Hp} (k : ExtN H H') : ∀ {v : V} {x : PyData}, Dk d g H v x → Dk d g H' v x
  | _, _, .non => .non
  | _, _, .bl b => .bl b
  | _, _, .int i => .int i
  | _, _, .str x => .str x
  | _, _, .lst h n1 n2 a => .lst (k _ _ h (by intro z q; cases q)) n1 n2 (dk_nAll k a)
  | _, _, .tup h n1 n2 a => .tup (k _ _ h (by intro z q; cases q)) n1 n2 (dk_nAll k a)
  | _, _, .dct h n1 n2 => .dct (k _ _ h (by intro z q; cases q)) n1 n2
theorem dk_nAll {d g : Addr} {H H' : Hp} (k : ExtN H H') : ∀ {vs : List V} {ds : List PyData}, DkAll d g H vs ds → DkAll d g H' vs ds
  | _, _, .nil => .nil
  | _, _, .cons h a => .cons (dk_n k h) (dk_nAll k a)
end
theorem ClAt.n {H H' : Hp} {a : Addr} {xs : List V} (h : ClAt H a xs) (k : ExtN H H') : ClAt H' a xs := by
  rcases h with h | h
  · exact .inl (k _ _ h (by intro z q; cases q))
  · exact .inr (k _ _ h (by intro z q; cases q))
theorem Kn.n {d g : Addr} {H H' : Hp} {v : V} {s : Option (List PyData)} (h : Kn d g H v s) (k : ExtN H H') : Kn d g H' v s := by
  cases h with
  | seq h n1 n2 hd hl => exact .seq (ClAt.n h k) n1 n2 (dk_nAll k hd) hl
  | @oth v t h =>
    refine .oth (t := t) ?_
    cases h with
    | non => exact .non
    | bl b => exact .bl b
    | int i => exact .int i
    | str x => exact .str x
    | dct h n1 n2 => exact .dct (k _ _ h (by intro z q; cases q)) n1 n2
    | raw h n1 n2 => exact .raw (k _ _ h (by unfold RawO; intro z q; cases q)) n1 n2
theorem Bx.n {P : Program} {w : World} {d g : Addr} {ns : List Str} {H H' : Hp} {v : V} (h : Bx P w d g ns H v) (k : ExtN H H') : Bx P w d g ns H' v := by
  cases h with
  | nd h =>
    refine .nd ?_
    cases h with
    | non => exact .non
    | bl b => exact .bl b
    | int i => exact .int i
    | str x => exact .str x
    | lst h n1 n2 => exact .lst (k _ _ h (by intro z q; cases q)) n1 n2
    | tup h n1 n2 => exact .tup (k _ _ h (by intro z q; cases q)) n1 n2
  | raw h n1 n2 hk hd hb hl => exact .raw (k _ _ h (by unfold RawV; intro z q; cases q)) n1 n2 (hk.ext fun a xs e => k _ _ e (by intro z q; cases q)) (fun z hz => dk_n k (hd z hz)) hb hl
/-- balances: right or not -/
def BalW (P : Program) (w : World) (d g : Addr) (rs : List FRow) (H : Hp) (v : V) (b : Bool) : Prop := (b = false ∧ Bx P w d g (fNames rs) H v) ∨ (b = true ∧ ∃ p bs, v = .ref p ∧ H p = some (.dK (dB bs)) ∧ BsOk rs bs ∧ p ≠ d ∧ p ≠ g ∧ bs.length ≤ 90)
theorem BalV.w {P : Program} {w : World} {d g : Addr} {rs : List FRow} {H : Hp} {v : V} (h : BalV P w d g rs H v) : ∃ b, BalW P w d g rs H v b :=
  h.elim (fun h => ⟨false, .inl ⟨rfl, h⟩⟩) fun h => ⟨true, .inr ⟨rfl, h⟩⟩
theorem BalW.n {P : Program} {w : World} {d g : Addr} {rs : List FRow} {H H' : Hp} {v : V} {b : Bool} (h : BalW P w d g rs H v b) (k : ExtN H H') : BalW P w d g rs H' v b := by
  rcases h with ⟨e, h⟩ | ⟨e, p, bs, h1, h2, h3⟩
  · exact .inl ⟨e, h.n k⟩
  · exact .inr ⟨e, p, bs, h1, k _ _ h2 (by intro z q; cases q), h3⟩
/-- all that the calls read -/
structure LSt (P : Program) (w : World) (C : Addr) (T : List (Addr × Str)) (ns : List Int) (d g c y ln : Addr) (bn : Nat) (rs : List FRow) (vc vs vb : V) (sc ss : Option (List PyData)) (bg : Bool) (H : Hp) : Prop where
  fo : FoAt C H y rs
  nm : H ln = some (.lst ((fNames rs).map V.str))
  kc : Kn d g H vc sc
  ks : Kn d g H vs ss
  ba : BalW P w d g rs H vb bg
  tb : Tabs T H
  dw : Dw ns d g c bn H
section
variable {P : Program} {w : World} {C CC CS CB : Addr} {T : List (Addr × Str)} {ns : List Int} {d g c y ln : Addr} {bn : Nat} {rs : List FRow} {vc vs vb : V} {sc ss : Option (List PyData)} {bg : Bool} {H H' : Hp}
theorem LSt.n (L : LSt P w C T ns d g c y ln bn rs vc vs vb sc ss bg H) (k : ExtN H H') (t : Tabs T H') : LSt P w C T ns d g c y ln bn rs vc vs vb sc ss bg H' :=
  ⟨fo_n L.fo k, k _ _ L.nm (by intro z q; cases q), L.kc.n k, L.ks.n k, L.ba.n k, t, dw_n L.dw k⟩
theorem LSt.ext (L : LSt P w C T ns d g c y ln bn rs vc vs vb sc ss bg H) (k : Ext H H') : LSt P w C T ns d g c y ln bn rs vc vs vb sc ss bg H' := L.n (ExtN.of k) (L.tb.ext k)
def dueB (bg : Bool) : Str := if bg then "" else "balances"
def dueC (rs : List FRow) (sc : Option (List PyData)) (bg : Bool) : Str := if claimsB (fNames rs) sc then dueB bg else "claims"
def spEntE (P : Program) (w : World) (C CC CB : Addr) : Sp := fun vs H Q E => spEnt C vs H Q E ∨ spEntX P w C CC CB vs H Q E
def spCertE (P : Program) (w : World) (C CC CB : Addr) : Sp := fun vs H Q E => spCert C vs H Q E ∨ spCertX P w C CC CB vs H Q E
def spShowsE (P : Program) (w : World) (C CC CB : Addr) : Sp := fun vs H Q E => spShowsN C vs H Q E ∨ spShowsX P w C CC CB vs H Q E
def spTotE (P : Program) (w : World) (C CB : Addr) : Sp := fun vs H Q E => spTotals C vs H Q E ∨ spTotX P w C CB vs H Q E
variable {R : VK} {E' : XK} {Q' : VK}
theorem bad_of (L : LSt P w C T ns d g c y ln bn rs vc vs vb sc ss bg H) (hE : ∀ cls H' z, Wd CC CS CB cls z → (∀ H2, Ext H' H2 → R (.str z) H2) → E' cls none H') (hR : ∀ H2, Ext H H2 → R (.str (dueC rs sc bg)) H2) (h : claimsB (fNames rs) sc = false ∨ bg = false) : BadCB P w C CC CB y vc vb H E' := by
  refine ⟨d, g, sc, rs, L.fo, L.kc, ?_⟩
  cases hc : claimsB (fNames rs) sc with
  | false =>
    refine .inl ⟨rfl, fun H' k => hE _ _ _ (.inl ⟨rfl, rfl⟩) fun H2 k2 => ?_⟩
    have := hR H2 (k.trans k2)
    unfold dueC at this
    rw [hc] at this
    exact this
  | true =>
    rcases h with h | rfl
    · rw [hc] at h; cases h
    · rcases L.ba with ⟨_, hb⟩ | ⟨h, _⟩
      · refine .inr ⟨rfl, hb, fun H' k => hE _ _ _ (.inr (.inr ⟨rfl, rfl⟩)) fun H2 k2 => ?_⟩
        have := hR H2 (k.trans k2)
        unfold dueC at this
        rw [hc] at this
        exact this
      · cases h
theorem good_of (L : LSt P w C T ns d g c y ln bn rs vc vs vb sc ss bg H) (hQ : ∀ v H', R (.str "") H' → Q' v H') (hR : ∀ H2, Ext H H2 → R (.str (dueC rs sc bg)) H2) (h : ¬ (claimsB (fNames rs) sc = false ∨ bg = false)) :
    claimsB (fNames rs) sc = true ∧ (∃ p bs, vb = .ref p ∧ H p = some (.dK (dB bs)) ∧ BsOk rs bs) ∧ ∀ v H2, Ext H H2 → Q' v H2 := by
  have hc : claimsB (fNames rs) sc = true := by
    cases e : claimsB (fNames rs) sc with
    | true => rfl
    | false => exact absurd (.inl e) h
  have hb : bg = true := by
    cases e : bg with
    | true => rfl
    | false => exact absurd (.inr e) h
  subst hb
  refine ⟨hc, ?_, fun v H2 k => hQ v H2 ?_⟩
  · rcases L.ba with ⟨e, _⟩ | ⟨_, p, bs, h1, h2, h3, _⟩
    · cases e
    · exact ⟨p, bs, h1, h2, h3⟩
  · have := hR H2 k
    unfold dueC at this
    rw [hc] at this
    exact this
theorem call_ent (G : Good rs) (L : LSt P w C T ns d g c y ln bn rs vc vs vb sc ss bg H) (hE : ∀ cls H' z, Wd CC CS CB cls z → (∀ H2, Ext H' H2 → R (.str z) H2) → E' cls none H') (hQ : ∀ v H', R (.str "") H' → Q' v H') (hR : ∀ H2, Ext H H2 → R (.str (dueC rs sc bg)) H2) :
    spEntE P w C CC CB [.ref y, vc, vb] H Q' E' := by
  by_cases h : claimsB (fNames rs) sc = false ∨ bg = false
  · exact .inr ⟨y, vc, vb, rfl, bad_of L hE hR h⟩
  · obtain ⟨hc, ⟨p, bs, rfl, hp, hB⟩, hq⟩ := good_of L hQ hR h
    obtain ⟨l, xs, cs, rfl, hcl, hcs, hco, _⟩ := good_claims L.kc hc
    exact .inl ⟨y, l, p, rs, bs, cs, xs, rfl, L.fo, G, hcl, hcs, hco, hp, hB, fun H' q k _ _ => hq _ _ k⟩
theorem call_cert (G : Good rs) (L : LSt P w C T ns d g c y ln bn rs vc vs vb sc ss bg H) (hE : ∀ cls H' z, Wd CC CS CB cls z → (∀ H2, Ext H' H2 → R (.str z) H2) → E' cls none H') (hQ : ∀ v H', R (.str "") H' → Q' v H') (hR : ∀ H2, Ext H H2 → R (.str (dueC rs sc bg)) H2) :
    spCertE P w C CC CB [.ref y, vc, vb] H Q' E' := by
  by_cases h : claimsB (fNames rs) sc = false ∨ bg = false
  · exact .inr ⟨y, vc, vb, rfl, bad_of L hE hR h⟩
  · obtain ⟨hc, ⟨p, bs, rfl, hp, hB⟩, hq⟩ := good_of L hQ hR h
    obtain ⟨l, xs, cs, rfl, hcl, hcs, hco, _⟩ := good_claims L.kc hc
    exact .inl ⟨y, l, p, rs, bs, cs, xs, rfl, L.fo, G, hcl, hcs, hco, hp, hB, fun H' q k _ _ => hq _ _ k⟩
theorem call_shows (G : Good rs) (q : V) (L : LSt P w C T ns d g c y ln bn rs vc vs vb sc ss bg H) (hE : ∀ cls H' z, Wd CC CS CB cls z → (∀ H2, Ext H' H2 → R (.str z) H2) → E' cls none H') (hQ : ∀ v H', R (.str "") H' → Q' v H') (hR : ∀ H2, Ext H H2 → R (.str (dueC rs sc bg)) H2) :
    spShowsE P w C CC CB [.ref y, vc, vb, .non, q] H Q' E' := by
  by_cases h : claimsB (fNames rs) sc = false ∨ bg = false
  · exact .inr ⟨y, vc, vb, .non, q, rfl, bad_of L hE hR h⟩
  · obtain ⟨hc, ⟨p, bs, rfl, hp, hB⟩, hq⟩ := good_of L hQ hR h
    exact .inl ⟨y, p, d, g, vc, q, sc, rs, bs, rfl, L.fo, G, L.kc, hc, hp, hB, fun H' k => hq _ _ k⟩
theorem call_tot (G : Good rs) (L : LSt P w C T ns d g c y ln bn rs vc vs vb sc ss bg H) (hE : ∀ cls H' z, Wd CC CS CB cls z → (∀ H2, Ext H' H2 → R (.str z) H2) → E' cls none H') (hQ : ∀ v H', R (.str "") H' → Q' v H') (hR : ∀ H2, Ext H H2 → R (.str (dueB bg)) H2) :
    spTotE P w C CB [.ref y, vb] H Q' E' := by
  rcases L.ba with ⟨rfl, hb⟩ | ⟨rfl, p, bs, rfl, h2, h3, _⟩
  · exact .inr ⟨y, d, g, vb, rs, rfl, L.fo, hb, fun H' k => hE _ _ _ (.inr (.inr ⟨rfl, rfl⟩)) fun H2 k2 => hR H2 (k.trans k2)⟩
  · exact .inl ⟨y, p, rs, bs, rfl, L.fo, G, h2, h3, fun H' q k _ _ => hQ _ _ (hR _ k)⟩
/-- what is due of overdrawn -/
def dueO (rs : List FRow) (sc ss : Option (List PyData)) (bg : Bool) : Str := match sc with
  | some ds => if claimsB (fNames rs) (some ds) then (if spentB ds.length ss then dueB bg else "spent") else "claims"
  | none => "claims"
theorem call_over (G : Good rs) (L : LSt P w C T ns d g c y ln bn rs vc vs vb sc ss bg H) (hE : ∀ cls H' z, Wd CC CS CB cls z → (∀ H2, Ext H' H2 → R (.str z) H2) → E' cls none H') (hQ : ∀ v H', R (.str "") H' → Q' v H') (hR : ∀ H2, Ext H H2 → R (.str (dueO rs sc ss bg)) H2) :
    spOverX P w C CC CS CB [.ref y, vc, vs, vb] H Q' E' := by
  refine ⟨y, d, g, vc, vs, vb, sc, ss, rs, rfl, L.fo, G, L.kc, L.ks, ?_⟩
  cases sc with
  | none => exact .inl ⟨rfl, fun H' k => hE _ _ _ (.inl ⟨rfl, rfl⟩) fun H2 k2 => hR H2 (k.trans k2)⟩
  | some ds =>
    have e : dueO rs (some ds) ss bg = if claimsB (fNames rs) (some ds) then (if spentB ds.length ss then dueB bg else "spent") else "claims" := rfl
    rw [e] at hR
    cases hc : claimsB (fNames rs) (some ds) with
    | false =>
      rw [hc] at hR
      exact .inl ⟨rfl, fun H' k => hE _ _ _ (.inl ⟨rfl, rfl⟩) fun H2 k2 => hR H2 (k.trans k2)⟩
    | true =>
      rw [hc] at hR
      refine .inr ⟨ds, rfl, rfl, ?_⟩
      cases hs : spentB ds.length ss with
      | false =>
        rw [hs] at hR
        exact .inl ⟨rfl, fun H' k => hE _ _ _ (.inr (.inl ⟨rfl, rfl⟩)) fun H2 k2 => hR H2 (k.trans k2)⟩
      | true =>
        rw [hs] at hR
        refine .inr ⟨rfl, ?_⟩
        rcases L.ba with ⟨rfl, hb⟩ | ⟨rfl, p, bs, rfl, h2, h3, _⟩
        · exact .inl ⟨hb, fun H' k => hE _ _ _ (.inr (.inr ⟨rfl, rfl⟩)) fun H2 k2 => hR H2 (k.trans k2)⟩
        · exact .inr ⟨p, bs, rfl, h2, h3, fun v H' k => hQ _ _ (hR _ k)⟩
end
end Lw

set_option Elab.async false
set_option linter.all false
set_option maxRecDepth 100000
set_option maxHeartbeats 16000000
namespace Lw
open L2 hiding Ext
open PySem PySem.Spec PyProof.Rows Gn Gr Gk Go Gt Gf Gu Gx Gdo LamX Ge Ga
abbrev nLaw : List Str := ["_law_script", "_law_state", "_law_turn", "_law_rows", "_law_forest_here", "_law_names", "_law_claims_here", "_law_balances_here", "_law_good", "_law_spent", "_law_last", "_law_due", "_law_row"]
theorem scLaw : FnScope nLaw ["_law_script"] (defScope sLaw) := ⟨rfl, rfl, rfl, by decide +kernel, rfl, by decide +kernel, by decide +kernel⟩
abbrev T0 (t : Addr) : List (Addr × Str) := [(t, (envOfC "law" (defScope sLaw) 0 0 Value.none).qual ++ "<lambda>")]
theorem cs_vs {d g c : Addr} {ns : List Int} {b : Nat} {H : Hp} {l : Addr} {xs : List V} {cs : List (Str × Int)} (D : Dw ns d g c b H) (h : H l = some (.lst xs)) (n1 : l ≠ d) (n2 : l ≠ g) (hcs : CsAt H xs cs) (h20 : cs.length ≤ 20) : Vs d g H (.ref l) := by
  obtain ⟨⟨gs, l', t, hd, hg, _, _⟩, _⟩ := D
  refine .inr ⟨l, xs, rfl, .inl h, n1, n2, fun y hy => ?_, by rw [hcs.1]; omega⟩
  obtain ⟨i, hi⟩ := List.mem_iff_getElem?.mp hy
  obtain ⟨cc, p, _, rfl, hp⟩ := hcs.get hi
  exact ⟨_, .tup hp (ne_of hp hd (by intro z; cases z)) (ne_of hp hg (by intro z; cases z)) (.cons (.str _) (.cons (.int _) .nil)), fun i e => by cases e⟩
theorem Kn.kp {d g : Addr} {H H' : Hp} {v : V} {s : Option (List PyData)} (h : Kn d g H v s) (k : Kp d g H H') : Kn d g H' v s := by
  cases h with
  | seq h n1 n2 hd hl =>
    refine .seq ?_ n1 n2 (DkAll.kp k hd) hl
    rcases h with h | h
    · exact .inl (k _ _ n1 n2 h)
    · exact .inr (k _ _ n1 n2 h)
  | oth h => exact .oth (h.kp fun a o n1 n2 e => k _ _ n1 n2 e)
theorem ttr_gen {CC CS CB : Addr} {tl : XK → Hp → VK → Prop} {Ha : Hp} {R : VK} (due : Str) (hd : ∀ H2, Ext Ha H2 → R (.str due) H2)
    (h : ∀ (R' : VK), (∀ H2, Ext Ha H2 → R' (.str due) H2) → ∀ (E' : XK) (Q' : VK), (∀ cls H' z, Wd CC CS CB cls z → (∀ H2, Ext H' H2 → R' (.str z) H2) → E' cls none H') → (∀ v H', R' (.str "") H' → Q' v H') → tl E' Ha Q') : TTR CC CS CB tl Ha R :=
  fun E' Q' a b => h R hd E' Q' a b
theorem iteB {b : Bool} {A B : Prop} (h : b = true) (k : A) : if b = true then A else B := by rw [if_pos h]; exact k
theorem iteBn {b : Bool} {A B : Prop} (h : ¬ b = true) (k : B) : if b = true then A else B := by rw [if_neg h]; exact k
theorem seq_len {K : PySem.W.Frag} {d g : Addr} {H : Hp} {v : V} {ds : List PyData} (h : Kn d g H v (some ds)) : ∃ l xs, v = .ref l ∧ ClAt H l xs ∧ xs.length = ds.length ∧ ds.length ≤ 100 := by
  cases h with
  | seq h n1 n2 hd hl => exact ⟨_, _, rfl, h, hd.len, hl⟩
theorem BalV.kp {P : Program} {w : World} {d g c : Addr} {n : List Int} {b : Nat} {rs : List FRow} {H H' : Hp} {v : V} (h : BalV P w d g rs H v) (D : Dw n d g c b H) (k : Kp d g H H') : BalV P w d g rs H' v := by
  rcases h with h | ⟨p, bs, e, h1, h2, h3, h4, h5⟩
  · exact .inl (h.kp D k)
  · exact .inr ⟨p, bs, e, k _ _ h3 h4 h1, h2, h3, h4, h5⟩
section
variable {P : Program} {w : World} {K : PySem.W.Frag} {mg : Str → Option Value} {base : Heap} {C fI pN fN fA : Addr} {mc : Value} {fdN fdA : FuncData}
theorem ok_law {CP CF CU CC CS CB fT fP fRf cc tt f fB fF fCl fBa fOc fOs fOb fAc fAs fAb fEn fCe fSh fTt fOv : Addr} {fdT fdP fdI fdB fdF fdCl fdBa fdOc fdOs fdOb fdAc fdAs fdAb fdEn fdCe fdSh fdTt fdOv : FuncData} {ns : List Int} {a : Addr} {A : Around} {s : Shared} {H : Hp} (hl : ns.length ≤ 63) (B : Bed K mg base A) (hr : Room 9 (A.deeper (envOfC "law" (defScope sLaw) s.heap.objs.size f (.ref cc)))) (hS : SqL K H a (ns.map V.int))
    (TB : TabB base mg cc tt) (hT : H tt = some (.tbl #[])) (Y : XRc K mg CP CF CU CC CS CB)
    {dV kV doc pm cdv ct oc : Value} {an od : Option Addr} {osl : Array (Option Value)} (lRf : K.lookup fRf = some ⟨oc, od, .func (PySem.W.fnOf "_law_refusal" "_law_refusal" (defArgs sLRefusal) (defBody sLRefusal) (defScope sLRefusal) dV kV doc pm an cdv ct), osl⟩) (cRf : PySem.W.codeIn K cdv "_law_refusal" = true)
    (bRf : L2.Binds K (PySem.W.fnOf "_law_refusal" "_law_refusal" (defArgs sLRefusal) (defBody sLRefusal) (defScope sLRefusal) dV kV doc pm an cdv ct) ["_law_work"] []) (kRf : PySem.W.keepIn K (.ref fRf) = true) (mRf : mg "_law_refusal" = some (.ref fRf))
    (R : Draw P w K mg base ns fT fP fdT fdP) (T : Names mg) (Z : Fo P w K mg base C fI pN fN fA mc fdN fdA)
    (GI : FnOk P w K mg base CX0 4 fI fdI ["self", "rows"] (spInit C)) (bI : Binds K fdI ["self", "rows"] [])
    (GB : FnOk P w K mg base CX0 1 fB fdB ["_law_script"] (spBegun K ns)) (bB : Binds K fdB ["_law_script"] []) (kB : PySem.W.keepIn K (.ref fB) = true) (mB : mg "_law_begun" = some (.ref fB))
    (GF : FnOk P w K mg base CX0 5 fF fdF ["_law_state", "_law_most"] (spForest ns)) (bF : Binds K fdF ["_law_state", "_law_most"] []) (kF : PySem.W.keepIn K (.ref fF) = true) (mF : mg "_law_forest" = some (.ref fF))
    (GCl : FnOk P w K mg base CX0 4 fCl fdCl ["_law_state", "_law_names", "_law_numbers"] (spClaims ns)) (bCl : Binds K fdCl ["_law_state", "_law_names", "_law_numbers"] []) (kCl : PySem.W.keepIn K (.ref fCl) = true) (mCl : mg "_law_claims" = some (.ref fCl))
    (GBa : FnOk P w K mg base CX0 4 fBa fdBa ["_law_state", "_law_names", "_law_numbers"] (spBal ns)) (bBa : Binds K fdBa ["_law_state", "_law_names", "_law_numbers"] []) (kBa : PySem.W.keepIn K (.ref fBa) = true) (mBa : mg "_law_balances" = some (.ref fBa))
    (GOc : FnOk P w K mg base CX0 4 fOc fdOc ["_law_state", "_law_names", "_law_value"] (spLOC ns)) (bOc : Binds K fdOc ["_law_state", "_law_names", "_law_value"] []) (kOc : PySem.W.keepIn K (.ref fOc) = true) (mOc : mg "_law_other_claims" = some (.ref fOc))
    (GOs : FnOk P w K mg base CX0 4 fOs fdOs ["_law_state", "_law_value"] (spLOS ns)) (bOs : Binds K fdOs ["_law_state", "_law_value"] []) (kOs : PySem.W.keepIn K (.ref fOs) = true) (mOs : mg "_law_other_spent" = some (.ref fOs))
    (GOb : FnOk P w K mg base CX0 4 fOb fdOb ["_law_state", "_law_names", "_law_value"] (spLOB P w ns)) (bOb : Binds K fdOb ["_law_state", "_law_names", "_law_value"] []) (kOb : PySem.W.keepIn K (.ref fOb) = true) (mOb : mg "_law_other_balances" = some (.ref fOb))
    (GAc : FnOk P w K mg base CX0 2 fAc fdAc ["_law_names", "_law_value"] spLCl) (bAc : Binds K fdAc ["_law_names", "_law_value"] []) (kAc : PySem.W.keepIn K (.ref fAc) = true) (mAc : mg "_law_are_claims" = some (.ref fAc))
    (GAs : FnOk P w K mg base CX0 2 fAs fdAs ["_law_claims_here", "_law_value"] spLSp) (bAs : Binds K fdAs ["_law_claims_here", "_law_value"] []) (kAs : PySem.W.keepIn K (.ref fAs) = true) (mAs : mg "_law_are_spent" = some (.ref fAs))
    (GAb : FnOk P w K mg base CX0 2 fAb fdAb ["_law_names", "_law_value"] (spLBl P w)) (bAb : Binds K fdAb ["_law_names", "_law_value"] []) (kAb : PySem.W.keepIn K (.ref fAb) = true) (mAb : mg "_law_are_balances" = some (.ref fAb))
    (GEn : FnOk P w K mg base (L2.CX P w) 6 fEn fdEn ["forest", "claims", "balances"] (spEntE P w C CC CB)) (bEn : Binds K fdEn ["forest", "claims", "balances"] []) (kEn : PySem.W.keepIn K (.ref fEn) = true) (mEn : mg "entitlements" = some (.ref fEn))
    (GCe : FnOk P w K mg base (L2.CX P w) 6 fCe fdCe ["forest", "claims", "balances"] (spCertE P w C CC CB)) (bCe : Binds K fdCe ["forest", "claims", "balances"] []) (kCe : PySem.W.keepIn K (.ref fCe) = true) (mCe : mg "certificate" = some (.ref fCe))
    (GSh : FnOk P w K mg base (L2.CX P w) 7 fSh fdSh ["forest", "claims", "balances", "result", "witness"] (spShowsE P w C CC CB)) (bSh : Binds K fdSh ["forest", "claims", "balances", "result", "witness"] []) (kSh : PySem.W.keepIn K (.ref fSh) = true) (mSh : mg "shows_entitlements" = some (.ref fSh))
    (GTt : FnOk P w K mg base (L2.CX P w) 5 fTt fdTt ["forest", "balances"] (spTotE P w C CB)) (bTt : Binds K fdTt ["forest", "balances"] []) (kTt : PySem.W.keepIn K (.ref fTt) = true) (mTt : mg "totals" = some (.ref fTt))
    (GOv : FnOk P w K mg base (L2.CX P w) 7 fOv fdOv ["forest", "claims", "spent", "balances"] (spOverX P w C CC CS CB)) (bOv : Binds K fdOv ["forest", "claims", "spent", "balances"] []) (kOv : PySem.W.keepIn K (.ref fOv) = true) (mOv : mg "overdrawn" = some (.ref fOv)) :
    ∃ t, PSs (cxOf CX0 P w K mg base nLaw "law" (defScope sLaw) f (.ref cc) A [] s H E0).nox (defBody sLaw) t ∧ t { nx := fun _ _ => False, rt := fun v _ => v = .bl true } (L2.start nLaw [.ref a]) H := by
  have nd := scLaw.nd
  have hu := hu_of hr
  have hr5 : Room 5 (A.deeper (envOfC "law" (defScope sLaw) s.heap.objs.size f (.ref cc))) := hr.mono (by decide)
  have hr4 : Room 4 (A.deeper (envOfC "law" (defScope sLaw) s.heap.objs.size f (.ref cc))) := hr.mono (by decide)
  have hr3 : Room 3 (A.deeper (envOfC "law" (defScope sLaw) s.heap.objs.size f (.ref cc))) := hr.mono (by decide)
  have hr2 : Room 2 (A.deeper (envOfC "law" (defScope sLaw) s.heap.objs.size f (.ref cc))) := hr.mono (by decide)
  have hr1 : Room 1 (A.deeper (envOfC "law" (defScope sLaw) s.heap.objs.size f (.ref cc))) := hr.mono (by decide)
  refine ⟨_, pss_cons (ps_set (i := 1) nd rfl (.inl rfl) (pe_call GB hr1 rfl mB kB bB .nil pass0 (pa_cons (pv 0) pa_nil)))
(pss_cons (ps_for PassesOwn.never rfl (pi_range1 rfl T.range (pa_cons pe_int pa_nil)) (pg_name (i := 2) nd rfl (.inl rfl))
(pss_cons (ps_set (i := 3) nd rfl (.inl rfl) (pe_call GF hr5 rfl mF kF bF .nil pass0 (pa_cons (pv 1) (pa_cons pe_int pa_nil))))
(pss_cons (ps_asg (pe_tup (pa_cons (pe_make Z.Z.make GI hr5 rfl Z.Z.g bI .nil pass0 (pa_cons (pv 3) pa_nil)) (pa_cons (pe_lc (own := [("_law_row", 12)]) (g := gName 12) (tt := tYes) rfl nd (pi_list (pv 3)) (blkOk_by (N := nLaw) (sc := defScope sLaw) (by decide +kernel))
(fun _ _ _ _ _ => pg_name (i := 12) nd rfl (.inl rfl)) (fun _ _ _ _ _ => pts_nil) (fun _ _ _ _ _ => pe_ix (r := rIxT K) ix_tup (pv 12) pe_int (fun _ _ => rfl))) pa_nil))) (by exact (pg_tup rfl (pgs_cons (pg_name (i := 4) nd rfl (.inr rfl)) (pgs_cons (pg_name (i := 5) nd rfl (.inl rfl)) pgs_nil)))))
(pss_cons (ps_asg (pe_tup (pa_cons (pe_call GCl hr4 rfl mCl kCl bCl .nil pass0 (pa_cons (pv 1) (pa_cons (pv 5) (pa_cons pe_int pa_nil)))) (pa_cons (pe_call GBa hr4 rfl mBa kBa bBa .nil pass0 (pa_cons (pv 1) (pa_cons (pv 5) (pa_cons pe_int pa_nil)))) pa_nil))) (by exact (pg_tup rfl (pgs_cons (pg_name (i := 6) nd rfl (.inr rfl)) (pgs_cons (pg_name (i := 7) nd rfl (.inr rfl)) pgs_nil)))))
(pss_cons (ps_if (pt_cmpR op_eq (pe_call R.GT hr2 rfl R.mT R.kT R.bT .nil pass0 (pa_cons (pv 1) (pa_cons pe_int pa_nil))) pe_int (nomark _)) (pss_one (ps_set (i := 6) nd rfl (.inr rfl) (pe_call GOc hr4 rfl mOc kOc bOc .nil pass0 (pa_cons (pv 1) (pa_cons (pv 5) (pa_cons (pv 6) pa_nil)))))) pss_nil)
(pss_cons (ps_set (i := 8) nd rfl (.inl rfl) (pe_call GAc hr2 rfl mAc kAc bAc .nil pass0 (pa_cons (pv 5) (pa_cons (pv 6) pa_nil))))
(pss_cons (ps_set (i := 9) nd rfl (.inr rfl) (pe_op op_rep (pe_lst (pa_cons pe_int pa_nil)) (pe_ifExp (pt_val (pv 8)) (pe_callB call_len_seq rfl T.len PySem.boot_len (pa_cons (pv 6) pa_nil)) pe_int)))
(pss_cons (ps_if (pt_cmpR op_eq (pe_call R.GT hr2 rfl R.mT R.kT R.bT .nil pass0 (pa_cons (pv 1) (pa_cons pe_int pa_nil))) pe_int (nomark _)) (pss_one (ps_set (i := 9) nd rfl (.inr rfl) (pe_call GOs hr4 rfl mOs kOs bOs .nil pass0 (pa_cons (pv 1) (pa_cons (pv 9) pa_nil))))) pss_nil)
(pss_cons (ps_if (pt_cmpR op_eq (pe_call R.GT hr2 rfl R.mT R.kT R.bT .nil pass0 (pa_cons (pv 1) (pa_cons pe_int pa_nil))) pe_int (nomark _)) (pss_one (ps_set (i := 7) nd rfl (.inr rfl) (pe_call GOb hr4 rfl mOb kOb bOb .nil pass0 (pa_cons (pv 1) (pa_cons (pv 5) (pa_cons (pv 7) pa_nil)))))) pss_nil)
(pss_cons (ps_set (i := 10) nd rfl (.inl rfl) (pe_ifExp (pt_val (pe_call GAb hr2 rfl mAb kAb bAb .nil pass0 (pa_cons (pv 5) (pa_cons (pv 7) pa_nil)))) pe_str pe_str))
(pss_cons (ps_set (i := 11) nd rfl (.inl rfl) (pe_ifExp (pt_val (pv 8)) (pv 10) pe_str))
(pss_cons (ps_if (pt_cmpR op_ne (pe_lamcall (T := T0 tt) (TT := TTR CC CS CB) (k := 7) rfl mRf kRf lRf cRf bRf scRef rfl (.inl rfl) (ref_gives (CP := CP) (CF := CF) (CU := CU) hr.units T Y) TB rfl (List.mem_singleton.mpr rfl) (fun p hp _ => by cases List.mem_singleton.mp hp; rfl) hr (lamS_by (by show lamSB (defScope sLaw) _ = true; decide +kernel)) rfl (fun _ _ _ _ _ => rfl) (fun A outer s H E f c' hr2 => pe_call GEn (hr2.mono (by decide)) rfl mEn kEn bEn .nil (passes_call (takes_of rfl rfl rfl rfl) fun _ _ _ _ h => h) (pa_cons (pe_var (i := 4) rfl (.inr (.inr rfl)) rfl rfl) (pa_cons (pe_var (i := 6) rfl (.inr (.inr rfl)) rfl rfl) (pa_cons (pe_var (i := 7) rfl (.inr (.inr rfl)) rfl rfl) pa_nil))))) (pv 11) (nomark _)) (pss_one (ps_ret pe_bl)) pss_nil)
(pss_cons (ps_if (pt_cmpR op_ne (pe_lamcall (T := T0 tt) (TT := TTR CC CS CB) (k := 7) rfl mRf kRf lRf cRf bRf scRef rfl (.inl rfl) (ref_gives (CP := CP) (CF := CF) (CU := CU) hr.units T Y) TB rfl (List.mem_singleton.mpr rfl) (fun p hp _ => by cases List.mem_singleton.mp hp; rfl) hr (lamS_by (by show lamSB (defScope sLaw) _ = true; decide +kernel)) rfl (fun _ _ _ _ _ => rfl) (fun A outer s H E f c' hr2 => pe_call GCe (hr2.mono (by decide)) rfl mCe kCe bCe .nil (passes_call (takes_of rfl rfl rfl rfl) fun _ _ _ _ h => h) (pa_cons (pe_var (i := 4) rfl (.inr (.inr rfl)) rfl rfl) (pa_cons (pe_var (i := 6) rfl (.inr (.inr rfl)) rfl rfl) (pa_cons (pe_var (i := 7) rfl (.inr (.inr rfl)) rfl rfl) pa_nil))))) (pv 11) (nomark _)) (pss_one (ps_ret pe_bl)) pss_nil)
(pss_cons (ps_if (pt_cmpR op_ne (pe_lamcall (T := T0 tt) (TT := TTR CC CS CB) (k := 7) rfl mRf kRf lRf cRf bRf scRef rfl (.inl rfl) (ref_gives (CP := CP) (CF := CF) (CU := CU) hr.units T Y) TB rfl (List.mem_singleton.mpr rfl) (fun p hp _ => by cases List.mem_singleton.mp hp; rfl) hr (lamS_by (by show lamSB (defScope sLaw) _ = true; decide +kernel)) rfl (fun _ _ _ _ _ => rfl) (fun A outer s H E f c' hr2 => pe_call GSh hr2 rfl mSh kSh bSh .nil (passes_call (takes_of rfl rfl rfl rfl) fun _ _ _ _ h => h) (pa_cons (pe_var (i := 4) rfl (.inr (.inr rfl)) rfl rfl) (pa_cons (pe_var (i := 6) rfl (.inr (.inr rfl)) rfl rfl) (pa_cons (pe_var (i := 7) rfl (.inr (.inr rfl)) rfl rfl) (pa_cons pe_non (pa_cons (pe_var (i := 9) rfl (.inr (.inr rfl)) rfl rfl) pa_nil))))))) (pv 11) (nomark _)) (pss_one (ps_ret pe_bl)) pss_nil)
(pss_cons (ps_if (pt_cmpR op_ne (pe_lamcall (T := T0 tt) (TT := TTR CC CS CB) (k := 7) rfl mRf kRf lRf cRf bRf scRef rfl (.inl rfl) (ref_gives (CP := CP) (CF := CF) (CU := CU) hr.units T Y) TB rfl (List.mem_singleton.mpr rfl) (fun p hp _ => by cases List.mem_singleton.mp hp; rfl) hr (lamS_by (by show lamSB (defScope sLaw) _ = true; decide +kernel)) rfl (fun _ _ _ _ _ => rfl) (fun A outer s H E f c' hr2 => pe_call GTt (hr2.mono (by decide)) rfl mTt kTt bTt .nil (passes_call (takes_of rfl rfl rfl rfl) fun _ _ _ _ h => h) (pa_cons (pe_var (i := 4) rfl (.inr (.inr rfl)) rfl rfl) (pa_cons (pe_var (i := 7) rfl (.inr (.inr rfl)) rfl rfl) pa_nil)))) (pv 10) (nomark _)) (pss_one (ps_ret pe_bl)) pss_nil)
(pss_cons (ps_if (PW.pt (pw_and (pt_val (pv 8)) (pw_and1 (pt_not (pt_val (pe_call GAs hr2 rfl mAs kAs bAs .nil pass0 (pa_cons (pv 6) (pa_cons (pv 9) pa_nil)))))))) (pss_one (ps_set (i := 11) nd rfl (.inl rfl) pe_str)) pss_nil)
(pss_one (ps_if (pt_cmpR op_ne (pe_lamcall (T := T0 tt) (TT := TTR CC CS CB) (k := 7) rfl mRf kRf lRf cRf bRf scRef rfl (.inl rfl) (ref_gives (CP := CP) (CF := CF) (CU := CU) hr.units T Y) TB rfl (List.mem_singleton.mpr rfl) (fun p hp _ => by cases List.mem_singleton.mp hp; rfl) hr (lamS_by (by show lamSB (defScope sLaw) _ = true; decide +kernel)) rfl (fun _ _ _ _ _ => rfl) (fun A outer s H E f c' hr2 => pe_call GOv hr2 rfl mOv kOv bOv .nil (passes_call (takes_of rfl rfl rfl rfl) fun _ _ _ _ h => h) (pa_cons (pe_var (i := 4) rfl (.inr (.inr rfl)) rfl rfl) (pa_cons (pe_var (i := 6) rfl (.inr (.inr rfl)) rfl rfl) (pa_cons (pe_var (i := 9) rfl (.inr (.inr rfl)) rfl rfl) (pa_cons (pe_var (i := 7) rfl (.inr (.inr rfl)) rfl rfl) pa_nil)))))) (pv 11) (nomark _)) (pss_one (ps_ret pe_bl)) pss_nil))))))))))))))))))
(pss_one (ps_ret pe_bl))), ?_⟩
  refine ⟨_, rfl, a, rfl, hS, hl, fun d g c H1 D1 x1 fd fg fc => ?_⟩
  have hT1 : Tabs (T0 tt) H1 := fun p hp => by
    cases List.mem_singleton.mp hp
    exact TabS.nil (x1 _ _ hT)
  refine ⟨6, rfl, by decide, by decide, for_range (lo := 0) (n := 6) (fun i σ H' => ∃ (v2 v3 v4 v5 v6 v7 v8 v9 v10 v11 : Option V), σ = [some (.ref a), some (.ref d), v2, v3, v4, v5, v6, v7, v8, v9, v10, v11, none] ∧ Dw ns d g c (i * 2000) H' ∧ Tabs (T0 tt) H') ⟨none, none, none, none, none, none, none, none, none, none, rfl, D1, hT1⟩ ?_ ?_⟩
  · rintro i σ H2 hi ⟨v2, v3, v4, v5, v6, v7, v8, v9, v10, v11, rfl, D2, tb2⟩
    refine ⟨_, rfl, d, g, c, _, 8, rfl, D2, by omega, by decide, by decide, fun lr rx rs H3 lr0 nrd nrg hr3' R3 G D3 k3 => ?_⟩
    have tb3 := tabs_kp D2 k3 tb2
    refine ⟨_, rfl, fun y dx hy hdx ne => ?_⟩
    have kx : Ext H3 (upd (upd H3 dx (.own y)) y (.ins C dx [])) := fun b o hb => by
      rw [upd_ne (ne_of_none hb hy), upd_ne (ne_of_none hb hdx)]
      exact hb
    refine ⟨y, lr, dx, rx, rs, rfl, upd_same, kx _ _ hr3', R3.ext kx, G, fun H5 q k5 i5 q5 => ⟨rfl, ?_⟩⟩
    have k45 : Ext H3 H5 := fun b o hb => k5 _ _ (ne_of_none hb hy) (kx _ _ hb)
    have f5 : FoAt C H5 y rs := ⟨dx, q, i5, q5⟩
    obtain ⟨nm0, nm8, nmo, nmn⟩ := good_names G
    refine ⟨_, rfl, lr, rfl, ⟨_, SqL.of (k45 _ _ hr3')⟩, fun ln hln => ?_⟩
    have D5 := D3.keep k45
    have nnd := D5.nd hln
    have nng := D5.ng hln
    refine lc_it walk_list (fun i H' => H' ln = some (.lst (((fNames rs).take i).map V.str)) ∧ Ext H5 H') ⟨upd_same, Ext.new hln⟩ (fun i H' _ ⟨_, e⟩ => SqL.of (e _ _ (k45 _ _ hr3'))) ?_ ?_
    · rintro i' z H6 H6' hi' ⟨d6, k6⟩ ⟨rfl, hz⟩
      obtain ⟨r, p, hr1', rfl, hp⟩ := R3.get hz
      have hrn : (fNames rs)[i']? = some r.1 := by unfold fNames; rw [List.getElem?_map, hr1']; rfl
      refine ⟨rfl, yes_of ?_⟩
      refine ⟨_, rfl, p, _, _, _, rfl, rfl, SqT.of (k6 _ _ (k45 _ _ hp)), (show atI [V.str r.1, parV r.2] ((0 : Nat) : Int) = some (V.str r.1) from atI_nat rfl), _, d6, ?_, ?_, fun x o e => ?_⟩
      · rw [List.length_map, List.length_take]
        exact small1000 (by omega)
      · rw [upd_same, List.take_add_one, hrn, List.map_append]
        rfl
      · rw [upd_ne (ne_of_none e hln)]
        exact k6 _ _ e
    rintro H6 ⟨d6, k6⟩
    have e6 : (fNames rs).take rx.length = fNames rs := List.take_of_length_le (by rw [R3.1]; unfold fNames; rw [List.length_map]; exact Nat.le_refl _)
    rw [e6] at d6
    refine ⟨by show 2 ≤ sizeLine; decide, fun tp htp => ?_⟩
    have k67 : Ext H6 (upd H6 tp (.tup [.ref y, .ref ln])) := Ext.new htp
    have t7 : (upd H6 tp (.tup [.ref y, .ref ln])) tp = some (.tup [.ref y, .ref ln]) := upd_same
    have n7 := k67 _ _ d6
    have k37 : Ext H3 (upd H6 tp (.tup [.ref y, .ref ln])) := k45.trans (k6.trans k67)
    have f7 : FoAt C (upd H6 tp (.tup [.ref y, .ref ln])) y rs := f5.ext (k6.trans k67)
    generalize upd H6 tp (.tup [.ref y, .ref ln]) = H7 at t7 n7 k37 f7 ⊢
    have D7 := D3.keep k37
    have tb7 := tb3.ext k37
    refine ⟨tp, _, rfl, SqT.of t7, rfl, _, _, rfl, _, _, rfl, rfl, ?_⟩
    dsimp only [List.set]
    have NM : ∀ {H' : Hp}, H' ln = some (.lst ((fNames rs).map V.str)) → Nm H' ln (fNames rs) := fun h => ⟨h, nm0, nm8, nmo⟩
    -- claims and balances
    refine ⟨_, rfl, _, rfl, d, g, c, ln, _, 12, fNames rs, rfl, D7, by omega, nnd, nng, NM n7, by decide, by decide, fun lc xc cs H8 lc0 ncd ncg hlc hcs c20 hcq D8 k8 => ?_⟩
    have n8 := k8 _ _ nnd nng n7
    refine ⟨_, rfl, _, rfl, d, g, c, ln, _, 12, fNames rs, rfl, D8, by omega, nnd, nng, NM n8, nmn, by decide, by decide, fun lb bs H9 lb0 nbd nbg hlb bn hbq D9 k9 => ?_⟩
    have n9 := k9 _ _ nnd nng n8
    refine ⟨by show 2 ≤ sizeLine; decide, fun tq htq => ?_⟩
    have kq : Ext H9 (upd H9 tq (.tup [.ref lc, .ref lb])) := Ext.new htq
    have t10 : (upd H9 tq (.tup [.ref lc, .ref lb])) tq = some (.tup [.ref lc, .ref lb]) := upd_same
    have k79 := k8.trans k9
    have k70 := k79.trans (Kp.of (d := d) (g := g) kq)
    have f9 := (f7.kp G D7 k79).ext kq
    have tb9 := (tabs_kp D7 k79 tb7).ext kq
    have D10 := D9.keep kq
    have n10 := kq _ _ n9
    have lc10 := kq _ _ (k9 _ _ ncd ncg hlc)
    have lb10 := kq _ _ hlb
    have cs10 := (hcs.kp D8 k9).ext kq
    generalize upd H9 tq (.tup [.ref lc, .ref lb]) = H10 at t10 k70 f9 tb9 D10 n10 lc10 lb10 cs10 ⊢
    refine ⟨tq, _, rfl, SqT.of t10, rfl, _, _, rfl, _, _, rfl, rfl, ?_⟩
    dsimp only [List.set]
    have hB : BsOk rs bs := ⟨⟨bn, fun p hp => (hbq p hp).1⟩, fun p hp => ⟨(hbq p hp).2.1, by have := (hbq p hp).2.2; omega⟩⟩
    have b8 : bs.length ≤ 8 := by
      have : (bs.map (·.1)).length ≤ (fNames rs).length := pigeon bn fun x hx => by
        obtain ⟨p, hp, rfl⟩ := List.mem_map.mp hx
        exact (hbq p hp).1
      rw [List.length_map] at this
      omega
    -- claims changed
    refine ⟨_, rfl, d, g, c, _, 3, rfl, D10, by omega, by decide, by decide, fun r H11 r0 r1 D11 k11 => ⟨rfl, _, rfl, ?_⟩⟩
    refine (fun (rest : ∀ (vc : V) (H' : Hp), Vs d g H' vc → Kp d g H10 H' → Dw ns d g c (i * 2000 + 800) H' → (?R1 : V → Hp → Prop) vc H') => ?first1) ?second1
    case first1 =>
      refine ite2 (fun _ => ?_) (fun _ => ?_)
      · refine ⟨_, rfl, _, rfl, _, rfl, d, g, c, ln, lc, _, fNames rs, xc, cs, rfl, D11, by omega, k11 _ _ nnd nng n10, nnd, nng, List.length_pos_iff.mpr nm0, nm8, k11 _ _ ncd ncg lc10, ncd, ncg, cs10.kp D10 k11, by rw [hcs.1]; exact c20, fun v H12 hv D12 k12 => ?_⟩
        exact rest v H12 hv (k11.trans k12) (D12.mono (by omega))
      · exact rest (.ref lc) H11 (cs_vs D11 (k11 _ _ ncd ncg lc10) ncd ncg (cs10.kp D10 k11) c20) k11 (D11.mono (by omega))
    case second1 =>
    intro vc H12 hvc k12 D12
    have n12 := k12 _ _ nnd nng n10
    have lb12 := k12 _ _ nbd nbg lb10
    have f12 := f9.kp G D10 k12
    have tb12 := tabs_kp D10 k12 tb9
    obtain ⟨sc, kc12, _⟩ := hvc.kn
    refine ⟨_, rfl, _, rfl, ln, d, g, vc, sc, fNames rs, rfl, n12, kc12, fun H13 k13 => ?_⟩
    have D13 := D12.keep k13
    have vc13 := hvc.kp (Kp.of (d := d) (g := g) k13)
    have kc13 := kc12.ext k13
    dsimp only [List.set]
    refine ⟨by show 1 ≤ sizeLine; decide, fun z1 hz1 => ?_⟩
    refine (fun (rest : ∀ (q : Addr) (n : Nat) (H' : Hp), H13 q = none → H' q = some (.lst (List.replicate n [V.int 0]).flatten) → n ≤ 50 → Ext H13 H' → (?R2 : Addr → Hp → Prop) q H') => ?first2) ?second2
    case first2 =>
      have kz := Ext.new (o := .lst [.int 0]) hz1
      refine ⟨_, rfl, _, rfl, ?_⟩
      by_cases hg : claimsB (fNames rs) sc = true
      · refine iteB hg ?_
        obtain ⟨lcc, xcc, ccs, e, hcl, hcs', hco, _⟩ := good_claims kc13 hg
        have : xcc.length ≤ 20 := by rw [hcs'.1]; exact hco.1
        refine ⟨_, rfl, lcc, xcc, by rw [e], (hcl.ext kz).sq, z1, _, _, rfl, rfl, upd_same, by omega, by omega, Nat.le_of_lt (small1000 (by show 1 * _ ≤ _; omega)), fun q hq => ?_⟩
        exact rest q (Int.toNat (xcc.length : Nat)) _ (none_of kz hq) upd_same (by omega) (kz.trans (Ext.new hq))
      · refine iteBn hg ?_
        refine ⟨z1, _, _, rfl, rfl, upd_same, by decide, by decide, Nat.le_of_lt (small1000 (by show 1 * _ ≤ _; decide)), fun q hq => ?_⟩
        exact rest q (Int.toNat 1) _ (none_of kz hq) upd_same (by decide) (kz.trans (Ext.new hq))
    case second2 =>
    intro q n H14 hq13 hq n50 k14
    have nqd := D13.nd hq13
    have nqg := D13.ng hq13
    have D14 := D13.keep k14
    have hql : (List.replicate n [V.int 0]).flatten.length ≤ 50 := by rw [flat_len]; exact n50
    have hqi : ∀ y ∈ (List.replicate n [V.int 0]).flatten, ∃ i : Int, y = .int i ∧ i ≤ 10 ^ 40 := fun y hy => by
      obtain ⟨l, h1, h2⟩ := List.mem_flatten.mp hy
      rw [(List.mem_replicate.mp h1).2, List.mem_singleton] at h2
      exact ⟨0, h2, by decide⟩
    generalize (List.replicate n [V.int 0]).flatten = zs at hq hql hqi
    have K14 : Kp d g H12 H14 := (Kp.of k13).trans (Kp.of k14)
    dsimp only [List.set]
    -- spent changed
    refine ⟨_, rfl, d, g, c, _, 3, rfl, D14, by omega, by decide, by decide, fun r2 H15 _ _ D15 k15 => ⟨rfl, _, rfl, ?_⟩⟩
    have q15 := k15 _ _ nqd nqg hq
    refine (fun (rest : ∀ (v : V) (H' : Hp), Vs d g H' v → Kp d g H14 H' → Dw ns d g c (i * 2000 + 900) H' → (?R3 : V → Hp → Prop) v H') => ?first3) ?second3
    case first3 =>
      refine ite2 (fun _ => ?_) (fun _ => ?_)
      · refine ⟨_, rfl, _, rfl, d, g, c, q, _, zs, rfl, D15, by omega, q15, hql, hqi, fun v H16 hv D16 k16 => ?_⟩
        exact rest v H16 hv (k15.trans k16) (D16.mono (by omega))
      · refine rest (.ref q) H15 (.inr ⟨q, zs, rfl, .inl q15, nqd, nqg, fun y hy => ?_, by omega⟩) k15 (D15.mono (by omega))
        obtain ⟨j, rfl, hj⟩ := hqi y hy
        exact ⟨_, .int j, fun i' e => by cases e; exact hj⟩
    case second3 =>
    intro vs H16 hvs k16 D16
    dsimp only [List.set]
    -- balances changed
    refine ⟨_, rfl, d, g, c, _, 3, rfl, D16, by omega, by decide, by decide, fun r3 H17 _ _ D17 k17 => ⟨rfl, _, rfl, ?_⟩⟩
    have K17 : Kp d g H12 H17 := K14.trans (k16.trans k17)
    have lb17 := K17 _ _ nbd nbg lb12
    have n17 := K17 _ _ nnd nng n12
    refine (fun (rest : ∀ (v : V) (H' : Hp), BalV P w d g rs H' v → Kp d g H17 H' → Dw ns d g c (i * 2000 + 950) H' → (?R4 : V → Hp → Prop) v H') => ?first4) ?second4
    case first4 =>
      refine ite2 (fun _ => ?_) (fun _ => ?_)
      · refine ⟨_, rfl, _, rfl, _, rfl, d, g, c, ln, lb, _, rs, bs, rfl, D17, by omega, nnd, nng, n17, G, nmo, lb17, nbd, nbg, hB, by omega, fun v H18 hv D18 k18 => ?_⟩
        exact rest v H18 hv k18 (D18.mono (by omega))
      · exact rest (.ref lb) H17 (.inr ⟨lb, bs, rfl, lb17, hB, nbd, nbg, by omega⟩) Kp.refl (D17.mono (by omega))
    case second4 =>
    intro vb H18 hvb k18 D18
    dsimp only [List.set]
    have K18 : Kp d g H12 H18 := K17.trans k18
    have n18 := K18 _ _ nnd nng n12
    have f18 := f12.kp G D12 K18
    have tb18 := tabs_kp D12 K18 tb12
    obtain ⟨bg, hbw⟩ := hvb.w
    obtain ⟨ss, ks16, hs40⟩ := hvs.kn
    have ks18 := ks16.kp (k17.trans k18)
    have kc18 := kc13.kp ((Kp.of k14).trans (k16.trans (k17.trans k18)))
    refine ⟨_, rfl, _, rfl, ln, d, g, vb, rs, rfl, n18, ?_⟩
    refine (fun (rest : ∀ (z : Str) (H' : Hp), z = dueB bg → Ext H18 H' → (?R5 : Str → Hp → Prop) z H') => ?first5) ?second5
    case first5 =>
      rcases hbw with ⟨e, hb⟩ | ⟨e, p, bs', e2, hp, hB', _, _, hl'⟩
      · refine .inl ⟨hb, fun H' k => ⟨_, rfl, iteF ?_⟩⟩
        have ez : (Str.ofString "balances") = dueB bg := by rw [e]; rfl
        show gName 10 (V.str (Str.ofString "balances")) _ _ _
        generalize (Str.ofString "balances") = z at ez ⊢
        exact rest z H' ez k
      · exact .inr ⟨p, bs', e2, hp, hB', by omega, fun H' k => ⟨_, rfl, iteT (rest "" H' (by rw [e]; rfl) k)⟩⟩
    case second5 =>
    intro z10 H19 hz10 k19
    dsimp only [List.set]
    refine ⟨_, rfl, _, rfl, ?_⟩
    refine (fun (rest : ∀ (z : Str), z = dueC rs sc bg → (?R6 : Str → Prop) z) => ?first6) ?second6
    case first6 =>
      by_cases hg : claimsB (fNames rs) sc = true
      rotate_left
      · refine iteBn hg ?_
        have ez : (Str.ofString "claims") = dueC rs sc bg := by
          unfold dueC
          rw [if_neg hg]
        show gName 11 (V.str (Str.ofString "claims")) _ _ _
        generalize (Str.ofString "claims") = z at ez ⊢
        exact rest z ez
      · refine iteB hg ⟨_, rfl, rest z10 ?_⟩
        unfold dueC
        rw [if_pos hg]
        exact hz10
    case second6 =>
    intro z11 hz11
    dsimp only [List.set]
    have L0 : LSt P w C (T0 tt) ns d g c y ln (i * 2000 + 950) rs vc vs vb sc ss bg H18 := ⟨f18, n18, kc18, ks18, hbw, tb18, D18⟩
    have L1 := L0.ext k19
    refine ⟨L1.tb, fun Ha ea ta => ttr_gen (dueC rs sc bg) (fun Hb kb => ?_) fun R hR E' Q' hE hQ => ⟨_, rfl, _, rfl, _, rfl, call_ent G (L1.n ea ta) hE hQ hR⟩⟩
    have L2 := (L1.n ea ta).ext kb
    refine ⟨_, rfl, rfl, _, rfl, iteNS (by rw [hz11]) ?_⟩
    refine ⟨L2.tb, fun Ha ea ta => ttr_gen (dueC rs sc bg) (fun Hb kb => ?_) fun R hR E' Q' hE hQ => ⟨_, rfl, _, rfl, _, rfl, call_cert G (L2.n ea ta) hE hQ hR⟩⟩
    have L3 := (L2.n ea ta).ext kb
    refine ⟨_, rfl, rfl, _, rfl, iteNS (by rw [hz11]) ?_⟩
    refine ⟨L3.tb, fun Ha ea ta => ttr_gen (dueC rs sc bg) (fun Hb kb => ?_) fun R hR E' Q' hE hQ => ⟨_, rfl, _, rfl, _, rfl, _, rfl, call_shows G _ (L3.n ea ta) hE hQ hR⟩⟩
    have L4 := (L3.n ea ta).ext kb
    refine ⟨_, rfl, rfl, _, rfl, iteNS (by rw [hz11]) ?_⟩
    refine ⟨L4.tb, fun Ha ea ta => ttr_gen (dueB bg) (fun Hb kb => ?_) fun R hR E' Q' hE hQ => ⟨_, rfl, _, rfl, call_tot (CC := CC) (CS := CS) G (L4.n ea ta) hE hQ hR⟩⟩
    have L5 := (L4.n ea ta).ext kb
    refine ⟨_, rfl, rfl, _, rfl, iteNS (by rw [hz10]) ?_⟩
    -- what overdrawn is due
    refine ⟨_, rfl, _, rfl, ?_⟩
    refine (fun (rest : ∀ (z : Str) (H' : Hp), z = dueO rs sc ss bg → Ext Hb H' → (?R7 : Str → Hp → Prop) z H') => ?first7) ?second7
    case first7 =>
      by_cases hg : claimsB (fNames rs) sc = true
      · refine iteB hg ?_
        obtain ⟨lcc, xcc, ccs, e, hcl, hcs', hco, ds, e2, hl2⟩ := good_claims L5.kc hg
        refine ⟨_, rfl, _, rfl, lcc, d, g, vs, xcc, ss, by rw [e]; rfl, hcl, L5.ks, hs40, fun H' k => ⟨_, rfl, ?_⟩⟩
        have eO : dueO rs sc ss bg = if spentB xcc.length ss then dueB bg else "spent" := by
          unfold dueO
          rw [e2] at hg ⊢
          show (if claimsB (fNames rs) (some ds) = true then _ else _) = _
          rw [if_pos hg, hl2]
        cases hs : spentB xcc.length ss with
        | false =>
          refine iteT ?_
          have ez : (Str.ofString "spent") = dueO rs sc ss bg := by
            rw [eO, hs]
            rfl
          show gName 11 (V.str (Str.ofString "spent")) _ _ _
          generalize (Str.ofString "spent") = z at ez ⊢
          exact rest z H' ez k
        | true =>
          refine iteF (rest z11 H' ?_ k)
          rw [eO, hs, hz11]
          unfold dueC
          rw [if_pos hg]
          rfl
      · refine iteBn hg (iteF (rest z11 Hb ?_ Ext.refl))
        rw [hz11]
        unfold dueC dueO
        rw [if_neg hg]
        cases sc with
        | none => rfl
        | some ds =>
          show _ = if claimsB (fNames rs) (some ds) = true then _ else _
          rw [if_neg hg]
    case second7 =>
    intro z12 H20 hz12 k20
    dsimp only [List.set]
    have L6 := L5.ext k20
    refine ⟨L6.tb, fun Ha ea ta => ttr_gen (dueO rs sc ss bg) (fun Hb kb => ?_) fun R hR E' Q' hE hQ => ⟨_, rfl, _, rfl, _, rfl, _, rfl, call_over G (L6.n ea ta) hE hQ hR⟩⟩
    have L7 := (L6.n ea ta).ext kb
    refine ⟨_, rfl, rfl, _, rfl, iteNS (by rw [hz12]) ?_⟩
    exact ⟨_, _, _, _, _, _, _, _, _, _, rfl, L7.dw.mono (by omega), L7.tb⟩
  · rintro σ H2 ⟨v2, v3, v4, v5, v6, v7, v8, v9, v10, v11, rfl, D2, _⟩
    rfl
end
end Lw

set_option Elab.async false
set_option linter.all false
set_option maxRecDepth 100000
set_option maxHeartbeats 8000000
namespace Lw
open L2 hiding Ext
open PySem PySem.Spec PyProof.Rows Gn Gr Gk Go Gt Gf Gu Ge Gx Gdo LamX
theorem kit_self {K : PySem.W.Frag} {C : Addr} : PySem.W.kitOne K (.ref C) (.ref C) = some true := by
  unfold PySem.W.kitOne
  rw [if_pos (by simp)]
theorem kit_ref {K : PySem.W.Frag} {A B : Addr} (d : PySem.W.hasDictIn K B = true) (u : PySem.W.typeIn K (.ref B) = some (.type "type")) (n : ((Value.ref A) == (Value.ref B)) = false) (s : PySem.W.subIn K (.ref A) (.ref B) = some false) : PySem.W.kitOne K (.ref A) (.ref B) = some false := by
  obtain ⟨cd, hc, _⟩ := PySem.W.any_some d
  have e2 : ((PySem.W.clsIn K B).isSome && PySem.W.typeIn K (.ref B) == some (.type "type")) = true := by rw [hc, u] <;> rfl
  show (if ((Value.ref A) == (Value.ref B)) = true then some true else (if ((PySem.W.clsIn K B).isSome && PySem.W.typeIn K (.ref B) == some (.type "type")) = true then PySem.W.subIn K (.ref A) (.ref B) else none)) = some false
  rw [n, if_pos e2]
  exact s
/-- what the top has left, def by def -/
theorem all_mk {P : Program} {w : World} {K : PySem.W.Frag} {h : Heap} {mg : Str → Option Value} {fa : Addr} (X : K.In h) (G : h.Ns mainGlobals mg) (hfa : mg "law" = some (.ref fa))
    {fq0 : Addr} {odq0 anq0 : Option Addr} {slq0 : Array (Option Value)} {ocq0 kVq0 dcq0 pmq0 cdq0 ctq0 : Value}
    (aq0 : PySem.W.nsIn K mainGlobals "_law_begun" = some (some (.ref fq0))) (lq0 : K.lookup fq0 = some ⟨ocq0, odq0, .func (PySem.W.fnOf "_law_begun" "_law_begun" (defArgs sBegun) (defBody sBegun) (defScope sBegun) .none kVq0 dcq0 pmq0 anq0 cdq0 ctq0), slq0⟩) (cq0 : PySem.W.codeIn K cdq0 "_law_begun" = true) (kq0 : PySem.W.keepIn K (.ref fq0) = true)
    {fq1 : Addr} {odq1 anq1 : Option Addr} {slq1 : Array (Option Value)} {ocq1 kVq1 dcq1 pmq1 cdq1 ctq1 : Value}
    (aq1 : PySem.W.nsIn K mainGlobals "_law_mixed" = some (some (.ref fq1))) (lq1 : K.lookup fq1 = some ⟨ocq1, odq1, .func (PySem.W.fnOf "_law_mixed" "_law_mixed" (defArgs sMixed) (defBody sMixed) (defScope sMixed) .none kVq1 dcq1 pmq1 anq1 cdq1 ctq1), slq1⟩) (cq1 : PySem.W.codeIn K cdq1 "_law_mixed" = true) (kq1 : PySem.W.keepIn K (.ref fq1) = true)
    {fq2 : Addr} {odq2 anq2 : Option Addr} {slq2 : Array (Option Value)} {ocq2 kVq2 dcq2 pmq2 cdq2 ctq2 : Value}
    (aq2 : PySem.W.nsIn K mainGlobals "_law_take" = some (some (.ref fq2))) (lq2 : K.lookup fq2 = some ⟨ocq2, odq2, .func (PySem.W.fnOf "_law_take" "_law_take" (defArgs sTake) (defBody sTake) (defScope sTake) .none kVq2 dcq2 pmq2 anq2 cdq2 ctq2), slq2⟩) (cq2 : PySem.W.codeIn K cdq2 "_law_take" = true) (kq2 : PySem.W.keepIn K (.ref fq2) = true)
    {fq3 : Addr} {odq3 anq3 : Option Addr} {slq3 : Array (Option Value)} {ocq3 kVq3 dcq3 pmq3 cdq3 ctq3 : Value}
    (aq3 : PySem.W.nsIn K mainGlobals "_law_pick" = some (some (.ref fq3))) (lq3 : K.lookup fq3 = some ⟨ocq3, odq3, .func (PySem.W.fnOf "_law_pick" "_law_pick" (defArgs sPick) (defBody sPick) (defScope sPick) .none kVq3 dcq3 pmq3 anq3 cdq3 ctq3), slq3⟩) (cq3 : PySem.W.codeIn K cdq3 "_law_pick" = true) (kq3 : PySem.W.keepIn K (.ref fq3) = true)
    {fq4 : Addr} {odq4 anq4 : Option Addr} {slq4 : Array (Option Value)} {ocq4 kVq4 dcq4 pmq4 cdq4 ctq4 : Value}
    (aq4 : PySem.W.nsIn K mainGlobals "_law_words" = some (some (.ref fq4))) (lq4 : K.lookup fq4 = some ⟨ocq4, odq4, .func (PySem.W.fnOf "_law_words" "_law_words" (defArgs sWords) (defBody sWords) (defScope sWords) .none kVq4 dcq4 pmq4 anq4 cdq4 ctq4), slq4⟩) (cq4 : PySem.W.codeIn K cdq4 "_law_words" = true) (kq4 : PySem.W.keepIn K (.ref fq4) = true)
    {fq5 : Addr} {odq5 anq5 : Option Addr} {slq5 : Array (Option Value)} {ocq5 kVq5 dcq5 pmq5 cdq5 ctq5 : Value}
    (aq5 : PySem.W.nsIn K mainGlobals "_law_forest" = some (some (.ref fq5))) (lq5 : K.lookup fq5 = some ⟨ocq5, odq5, .func (PySem.W.fnOf "_law_forest" "_law_forest" (defArgs sForest) (defBody sForest) (defScope sForest) .none kVq5 dcq5 pmq5 anq5 cdq5 ctq5), slq5⟩) (cq5 : PySem.W.codeIn K cdq5 "_law_forest" = true) (kq5 : PySem.W.keepIn K (.ref fq5) = true)
    {fq6 : Addr} {odq6 anq6 : Option Addr} {slq6 : Array (Option Value)} {ocq6 kVq6 dcq6 pmq6 cdq6 ctq6 : Value}
    (aq6 : PySem.W.nsIn K mainGlobals "is_int" = some (some (.ref fq6))) (lq6 : K.lookup fq6 = some ⟨ocq6, odq6, .func (PySem.W.fnOf "is_int" "is_int" (defArgs sInt) (defBody sInt) (defScope sInt) .none kVq6 dcq6 pmq6 anq6 cdq6 ctq6), slq6⟩) (cq6 : PySem.W.codeIn K cdq6 "is_int" = true) (kq6 : PySem.W.keepIn K (.ref fq6) = true)
    {fq7 : Addr} {odq7 anq7 : Option Addr} {slq7 : Array (Option Value)} {ocq7 kVq7 dcq7 pmq7 cdq7 ctq7 : Value}
    (aq7 : PySem.W.nsIn K mainGlobals "is_name" = some (some (.ref fq7))) (lq7 : K.lookup fq7 = some ⟨ocq7, odq7, .func (PySem.W.fnOf "is_name" "is_name" (defArgs sName) (defBody sName) (defScope sName) .none kVq7 dcq7 pmq7 anq7 cdq7 ctq7), slq7⟩) (cq7 : PySem.W.codeIn K cdq7 "is_name" = true) (kq7 : PySem.W.keepIn K (.ref fq7) = true)
    {fq8 : Addr} {odq8 anq8 : Option Addr} {slq8 : Array (Option Value)} {ocq8 kVq8 dcq8 pmq8 cdq8 ctq8 : Value}
    (aq8 : PySem.W.nsIn K mainGlobals "is_amount" = some (some (.ref fq8))) (lq8 : K.lookup fq8 = some ⟨ocq8, odq8, .func (PySem.W.fnOf "is_amount" "is_amount" (defArgs sAmount) (defBody sAmount) (defScope sAmount) .none kVq8 dcq8 pmq8 anq8 cdq8 ctq8), slq8⟩) (cq8 : PySem.W.codeIn K cdq8 "is_amount" = true) (kq8 : PySem.W.keepIn K (.ref fq8) = true)
    {fq9 : Addr} {odq9 anq9 : Option Addr} {slq9 : Array (Option Value)} {ocq9 kVq9 dcq9 pmq9 cdq9 ctq9 : Value}
    (aq9 : PySem.W.nsIn K mainGlobals "is_row" = some (some (.ref fq9))) (lq9 : K.lookup fq9 = some ⟨ocq9, odq9, .func (PySem.W.fnOf "is_row" "is_row" (defArgs sRow) (defBody sRow) (defScope sRow) .none kVq9 dcq9 pmq9 anq9 cdq9 ctq9), slq9⟩) (cq9 : PySem.W.codeIn K cdq9 "is_row" = true) (kq9 : PySem.W.keepIn K (.ref fq9) = true)
    {fq10 : Addr} {odq10 anq10 : Option Addr} {slq10 : Array (Option Value)} {ocq10 kVq10 dcq10 pmq10 cdq10 ctq10 : Value}
    (aq10 : PySem.W.nsIn K mainGlobals "first_wrong" = some (some (.ref fq10))) (lq10 : K.lookup fq10 = some ⟨ocq10, odq10, .func (PySem.W.fnOf "first_wrong" "first_wrong" (defArgs sWrong) (defBody sWrong) (defScope sWrong) .none kVq10 dcq10 pmq10 anq10 cdq10 ctq10), slq10⟩) (cq10 : PySem.W.codeIn K cdq10 "first_wrong" = true) (kq10 : PySem.W.keepIn K (.ref fq10) = true)
    {fq11 : Addr} {odq11 anq11 : Option Addr} {slq11 : Array (Option Value)} {ocq11 kVq11 dcq11 pmq11 ctq11 : Value} {cc tt : Addr}
    (aq11 : PySem.W.nsIn K mainGlobals "law" = some (some (.ref fq11))) (lq11 : K.lookup fq11 = some ⟨ocq11, odq11, .func (PySem.W.fnOf "law" "law" (defArgs sLaw) (defBody sLaw) (defScope sLaw) .none kVq11 dcq11 pmq11 anq11 (.ref cc) ctq11), slq11⟩) (cq11 : PySem.W.codeIn K (.ref cc) "law" = true) (kq11 : PySem.W.keepIn K (.ref fq11) = true)
    {fq12 : Addr} {odq12 anq12 : Option Addr} {slq12 : Array (Option Value)} {ocq12 kVq12 dcq12 pmq12 cdq12 ctq12 : Value}
    (aq12 : PySem.W.nsIn K mainGlobals "is_claim" = some (some (.ref fq12))) (lq12 : K.lookup fq12 = some ⟨ocq12, odq12, .func (PySem.W.fnOf "is_claim" "is_claim" (defArgs sIsClaim) (defBody sIsClaim) (defScope sIsClaim) .none kVq12 dcq12 pmq12 anq12 cdq12 ctq12), slq12⟩) (cq12 : PySem.W.codeIn K cdq12 "is_claim" = true) (kq12 : PySem.W.keepIn K (.ref fq12) = true)
    {fq13 : Addr} {odq13 anq13 : Option Addr} {slq13 : Array (Option Value)} {ocq13 kVq13 dcq13 pmq13 cdq13 ctq13 : Value}
    (aq13 : PySem.W.nsIn K mainGlobals "check_claims" = some (some (.ref fq13))) (lq13 : K.lookup fq13 = some ⟨ocq13, odq13, .func (PySem.W.fnOf "check_claims" "check_claims" (defArgs sCheckClaims) (defBody sCheckClaims) (defScope sCheckClaims) .none kVq13 dcq13 pmq13 anq13 cdq13 ctq13), slq13⟩) (cq13 : PySem.W.codeIn K cdq13 "check_claims" = true) (kq13 : PySem.W.keepIn K (.ref fq13) = true)
    {fq14 : Addr} {odq14 anq14 : Option Addr} {slq14 : Array (Option Value)} {ocq14 kVq14 dcq14 pmq14 cdq14 ctq14 : Value}
    (aq14 : PySem.W.nsIn K mainGlobals "check_balances" = some (some (.ref fq14))) (lq14 : K.lookup fq14 = some ⟨ocq14, odq14, .func (PySem.W.fnOf "check_balances" "check_balances" (defArgs sCheckBalances) (defBody sCheckBalances) (defScope sCheckBalances) .none kVq14 dcq14 pmq14 anq14 cdq14 ctq14), slq14⟩) (cq14 : PySem.W.codeIn K cdq14 "check_balances" = true) (kq14 : PySem.W.keepIn K (.ref fq14) = true)
    {fq15 : Addr} {odq15 anq15 : Option Addr} {slq15 : Array (Option Value)} {ocq15 kVq15 dcq15 pmq15 cdq15 ctq15 : Value}
    (aq15 : PySem.W.nsIn K mainGlobals "check_spent" = some (some (.ref fq15))) (lq15 : K.lookup fq15 = some ⟨ocq15, odq15, .func (PySem.W.fnOf "check_spent" "check_spent" (defArgs sCheckSpent) (defBody sCheckSpent) (defScope sCheckSpent) .none kVq15 dcq15 pmq15 anq15 cdq15 ctq15), slq15⟩) (cq15 : PySem.W.codeIn K cdq15 "check_spent" = true) (kq15 : PySem.W.keepIn K (.ref fq15) = true)
    {fq16 : Addr} {odq16 anq16 : Option Addr} {slq16 : Array (Option Value)} {ocq16 kVq16 dcq16 pmq16 cdq16 ctq16 : Value}
    (aq16 : PySem.W.nsIn K mainGlobals "totals_of" = some (some (.ref fq16))) (lq16 : K.lookup fq16 = some ⟨ocq16, odq16, .func (PySem.W.fnOf "totals_of" "totals_of" (defArgs sTotalsOf) (defBody sTotalsOf) (defScope sTotalsOf) .none kVq16 dcq16 pmq16 anq16 cdq16 ctq16), slq16⟩) (cq16 : PySem.W.codeIn K cdq16 "totals_of" = true) (kq16 : PySem.W.keepIn K (.ref fq16) = true)
    {fq17 : Addr} {odq17 anq17 : Option Addr} {slq17 : Array (Option Value)} {ocq17 kVq17 dcq17 pmq17 cdq17 ctq17 : Value}
    (aq17 : PySem.W.nsIn K mainGlobals "unspent" = some (some (.ref fq17))) (lq17 : K.lookup fq17 = some ⟨ocq17, odq17, .func (PySem.W.fnOf "unspent" "unspent" (defArgs sUnspent) (defBody sUnspent) (defScope sUnspent) .none kVq17 dcq17 pmq17 anq17 cdq17 ctq17), slq17⟩) (cq17 : PySem.W.codeIn K cdq17 "unspent" = true) (kq17 : PySem.W.keepIn K (.ref fq17) = true)
    {fq18 : Addr} {odq18 anq18 : Option Addr} {slq18 : Array (Option Value)} {ocq18 kVq18 dcq18 pmq18 cdq18 ctq18 : Value}
    (aq18 : PySem.W.nsIn K mainGlobals "first_overdrawn" = some (some (.ref fq18))) (lq18 : K.lookup fq18 = some ⟨ocq18, odq18, .func (PySem.W.fnOf "first_overdrawn" "first_overdrawn" (defArgs sFirstOverdrawn) (defBody sFirstOverdrawn) (defScope sFirstOverdrawn) .none kVq18 dcq18 pmq18 anq18 cdq18 ctq18), slq18⟩) (cq18 : PySem.W.codeIn K cdq18 "first_overdrawn" = true) (kq18 : PySem.W.keepIn K (.ref fq18) = true)
    {fq19 : Addr} {odq19 anq19 : Option Addr} {slq19 : Array (Option Value)} {ocq19 kVq19 dcq19 pmq19 cdq19 ctq19 : Value}
    (aq19 : PySem.W.nsIn K mainGlobals "grants" = some (some (.ref fq19))) (lq19 : K.lookup fq19 = some ⟨ocq19, odq19, .func (PySem.W.fnOf "grants" "grants" (defArgs sGrants) (defBody sGrants) (defScope sGrants) .none kVq19 dcq19 pmq19 anq19 cdq19 ctq19), slq19⟩) (cq19 : PySem.W.codeIn K cdq19 "grants" = true) (kq19 : PySem.W.keepIn K (.ref fq19) = true)
    {fq20 : Addr} {odq20 anq20 : Option Addr} {slq20 : Array (Option Value)} {ocq20 kVq20 dcq20 pmq20 cdq20 ctq20 : Value}
    (aq20 : PySem.W.nsIn K mainGlobals "tight_above" = some (some (.ref fq20))) (lq20 : K.lookup fq20 = some ⟨ocq20, odq20, .func (PySem.W.fnOf "tight_above" "tight_above" (defArgs sTightAbove) (defBody sTightAbove) (defScope sTightAbove) .none kVq20 dcq20 pmq20 anq20 cdq20 ctq20), slq20⟩) (cq20 : PySem.W.codeIn K cdq20 "tight_above" = true) (kq20 : PySem.W.keepIn K (.ref fq20) = true)
    {fq21 : Addr} {odq21 anq21 : Option Addr} {slq21 : Array (Option Value)} {ocq21 kVq21 dcq21 pmq21 cdq21 ctq21 : Value}
    (aq21 : PySem.W.nsIn K mainGlobals "is_result" = some (some (.ref fq21))) (lq21 : K.lookup fq21 = some ⟨ocq21, odq21, .func (PySem.W.fnOf "is_result" "is_result" (defArgs sIsResult) (defBody sIsResult) (defScope sIsResult) .none kVq21 dcq21 pmq21 anq21 cdq21 ctq21), slq21⟩) (cq21 : PySem.W.codeIn K cdq21 "is_result" = true) (kq21 : PySem.W.keepIn K (.ref fq21) = true)
    {fq22 : Addr} {odq22 anq22 : Option Addr} {slq22 : Array (Option Value)} {ocq22 kVq22 dcq22 pmq22 cdq22 ctq22 : Value}
    (aq22 : PySem.W.nsIn K mainGlobals "is_witness" = some (some (.ref fq22))) (lq22 : K.lookup fq22 = some ⟨ocq22, odq22, .func (PySem.W.fnOf "is_witness" "is_witness" (defArgs sIsWitness) (defBody sIsWitness) (defScope sIsWitness) .none kVq22 dcq22 pmq22 anq22 cdq22 ctq22), slq22⟩) (cq22 : PySem.W.codeIn K cdq22 "is_witness" = true) (kq22 : PySem.W.keepIn K (.ref fq22) = true)
    {fq23 : Addr} {odq23 anq23 : Option Addr} {slq23 : Array (Option Value)} {ocq23 kVq23 dcq23 pmq23 cdq23 ctq23 : Value}
    (aq23 : PySem.W.nsIn K mainGlobals "totals" = some (some (.ref fq23))) (lq23 : K.lookup fq23 = some ⟨ocq23, odq23, .func (PySem.W.fnOf "totals" "totals" (defArgs sTotals) (defBody sTotals) (defScope sTotals) .none kVq23 dcq23 pmq23 anq23 cdq23 ctq23), slq23⟩) (cq23 : PySem.W.codeIn K cdq23 "totals" = true) (kq23 : PySem.W.keepIn K (.ref fq23) = true)
    {fq24 : Addr} {odq24 anq24 : Option Addr} {slq24 : Array (Option Value)} {ocq24 kVq24 dcq24 pmq24 cdq24 ctq24 : Value}
    (aq24 : PySem.W.nsIn K mainGlobals "overdrawn" = some (some (.ref fq24))) (lq24 : K.lookup fq24 = some ⟨ocq24, odq24, .func (PySem.W.fnOf "overdrawn" "overdrawn" (defArgs sOverdrawn) (defBody sOverdrawn) (defScope sOverdrawn) .none kVq24 dcq24 pmq24 anq24 cdq24 ctq24), slq24⟩) (cq24 : PySem.W.codeIn K cdq24 "overdrawn" = true) (kq24 : PySem.W.keepIn K (.ref fq24) = true)
    {fq25 : Addr} {odq25 anq25 : Option Addr} {slq25 : Array (Option Value)} {ocq25 kVq25 dcq25 pmq25 cdq25 ctq25 : Value}
    (aq25 : PySem.W.nsIn K mainGlobals "entitlements" = some (some (.ref fq25))) (lq25 : K.lookup fq25 = some ⟨ocq25, odq25, .func (PySem.W.fnOf "entitlements" "entitlements" (defArgs sEntitlements) (defBody sEntitlements) (defScope sEntitlements) .none kVq25 dcq25 pmq25 anq25 cdq25 ctq25), slq25⟩) (cq25 : PySem.W.codeIn K cdq25 "entitlements" = true) (kq25 : PySem.W.keepIn K (.ref fq25) = true)
    {fq26 : Addr} {odq26 anq26 : Option Addr} {slq26 : Array (Option Value)} {ocq26 kVq26 dcq26 pmq26 cdq26 ctq26 : Value}
    (aq26 : PySem.W.nsIn K mainGlobals "certificate" = some (some (.ref fq26))) (lq26 : K.lookup fq26 = some ⟨ocq26, odq26, .func (PySem.W.fnOf "certificate" "certificate" (defArgs sCertificate) (defBody sCertificate) (defScope sCertificate) .none kVq26 dcq26 pmq26 anq26 cdq26 ctq26), slq26⟩) (cq26 : PySem.W.codeIn K cdq26 "certificate" = true) (kq26 : PySem.W.keepIn K (.ref fq26) = true)
    {fq27 : Addr} {odq27 anq27 : Option Addr} {slq27 : Array (Option Value)} {ocq27 kVq27 dcq27 pmq27 cdq27 ctq27 : Value}
    (aq27 : PySem.W.nsIn K mainGlobals "shows_entitlements" = some (some (.ref fq27))) (lq27 : K.lookup fq27 = some ⟨ocq27, odq27, .func (PySem.W.fnOf "shows_entitlements" "shows_entitlements" (defArgs sShowsEntitlements) (defBody sShowsEntitlements) (defScope sShowsEntitlements) .none kVq27 dcq27 pmq27 anq27 cdq27 ctq27), slq27⟩) (cq27 : PySem.W.codeIn K cdq27 "shows_entitlements" = true) (kq27 : PySem.W.keepIn K (.ref fq27) = true)
    {fq28 : Addr} {odq28 anq28 : Option Addr} {slq28 : Array (Option Value)} {ocq28 kVq28 dcq28 pmq28 cdq28 ctq28 : Value}
    (aq28 : PySem.W.nsIn K mainGlobals "_law_order" = some (some (.ref fq28))) (lq28 : K.lookup fq28 = some ⟨ocq28, odq28, .func (PySem.W.fnOf "_law_order" "_law_order" (defArgs sLOrder) (defBody sLOrder) (defScope sLOrder) .none kVq28 dcq28 pmq28 anq28 cdq28 ctq28), slq28⟩) (cq28 : PySem.W.codeIn K cdq28 "_law_order" = true) (kq28 : PySem.W.keepIn K (.ref fq28) = true)
    {fq29 : Addr} {odq29 anq29 : Option Addr} {slq29 : Array (Option Value)} {ocq29 kVq29 dcq29 pmq29 cdq29 ctq29 : Value}
    (aq29 : PySem.W.nsIn K mainGlobals "_law_claims" = some (some (.ref fq29))) (lq29 : K.lookup fq29 = some ⟨ocq29, odq29, .func (PySem.W.fnOf "_law_claims" "_law_claims" (defArgs sLClaims) (defBody sLClaims) (defScope sLClaims) .none kVq29 dcq29 pmq29 anq29 cdq29 ctq29), slq29⟩) (cq29 : PySem.W.codeIn K cdq29 "_law_claims" = true) (kq29 : PySem.W.keepIn K (.ref fq29) = true)
    {fq30 : Addr} {odq30 anq30 : Option Addr} {slq30 : Array (Option Value)} {ocq30 kVq30 dcq30 pmq30 cdq30 ctq30 : Value}
    (aq30 : PySem.W.nsIn K mainGlobals "_law_balances" = some (some (.ref fq30))) (lq30 : K.lookup fq30 = some ⟨ocq30, odq30, .func (PySem.W.fnOf "_law_balances" "_law_balances" (defArgs sLBalances) (defBody sLBalances) (defScope sLBalances) .none kVq30 dcq30 pmq30 anq30 cdq30 ctq30), slq30⟩) (cq30 : PySem.W.codeIn K cdq30 "_law_balances" = true) (kq30 : PySem.W.keepIn K (.ref fq30) = true)
    {fq31 : Addr} {odq31 anq31 : Option Addr} {slq31 : Array (Option Value)} {ocq31 kVq31 dcq31 pmq31 cdq31 ctq31 : Value}
    (aq31 : PySem.W.nsIn K mainGlobals "_law_is_between" = some (some (.ref fq31))) (lq31 : K.lookup fq31 = some ⟨ocq31, odq31, .func (PySem.W.fnOf "_law_is_between" "_law_is_between" (defArgs sLIsBetween) (defBody sLIsBetween) (defScope sLIsBetween) .none kVq31 dcq31 pmq31 anq31 cdq31 ctq31), slq31⟩) (cq31 : PySem.W.codeIn K cdq31 "_law_is_between" = true) (kq31 : PySem.W.keepIn K (.ref fq31) = true)
    {fq32 : Addr} {odq32 anq32 : Option Addr} {slq32 : Array (Option Value)} {ocq32 kVq32 dcq32 pmq32 cdq32 ctq32 : Value}
    (aq32 : PySem.W.nsIn K mainGlobals "_law_are_claims" = some (some (.ref fq32))) (lq32 : K.lookup fq32 = some ⟨ocq32, odq32, .func (PySem.W.fnOf "_law_are_claims" "_law_are_claims" (defArgs sLAreClaims) (defBody sLAreClaims) (defScope sLAreClaims) .none kVq32 dcq32 pmq32 anq32 cdq32 ctq32), slq32⟩) (cq32 : PySem.W.codeIn K cdq32 "_law_are_claims" = true) (kq32 : PySem.W.keepIn K (.ref fq32) = true)
    {fq33 : Addr} {odq33 anq33 : Option Addr} {slq33 : Array (Option Value)} {ocq33 kVq33 dcq33 pmq33 cdq33 ctq33 : Value}
    (aq33 : PySem.W.nsIn K mainGlobals "_law_are_spent" = some (some (.ref fq33))) (lq33 : K.lookup fq33 = some ⟨ocq33, odq33, .func (PySem.W.fnOf "_law_are_spent" "_law_are_spent" (defArgs sLAreSpent) (defBody sLAreSpent) (defScope sLAreSpent) .none kVq33 dcq33 pmq33 anq33 cdq33 ctq33), slq33⟩) (cq33 : PySem.W.codeIn K cdq33 "_law_are_spent" = true) (kq33 : PySem.W.keepIn K (.ref fq33) = true)
    {fq34 : Addr} {odq34 anq34 : Option Addr} {slq34 : Array (Option Value)} {ocq34 kVq34 dcq34 pmq34 cdq34 ctq34 : Value}
    (aq34 : PySem.W.nsIn K mainGlobals "_law_are_balances" = some (some (.ref fq34))) (lq34 : K.lookup fq34 = some ⟨ocq34, odq34, .func (PySem.W.fnOf "_law_are_balances" "_law_are_balances" (defArgs sLAreBalances) (defBody sLAreBalances) (defScope sLAreBalances) .none kVq34 dcq34 pmq34 anq34 cdq34 ctq34), slq34⟩) (cq34 : PySem.W.codeIn K cdq34 "_law_are_balances" = true) (kq34 : PySem.W.keepIn K (.ref fq34) = true)
    {fq35 : Addr} {odq35 anq35 : Option Addr} {slq35 : Array (Option Value)} {ocq35 kVq35 dcq35 pmq35 cdq35 ctq35 : Value}
    (aq35 : PySem.W.nsIn K mainGlobals "_law_other_claims" = some (some (.ref fq35))) (lq35 : K.lookup fq35 = some ⟨ocq35, odq35, .func (PySem.W.fnOf "_law_other_claims" "_law_other_claims" (defArgs sLOtherClaims) (defBody sLOtherClaims) (defScope sLOtherClaims) .none kVq35 dcq35 pmq35 anq35 cdq35 ctq35), slq35⟩) (cq35 : PySem.W.codeIn K cdq35 "_law_other_claims" = true) (kq35 : PySem.W.keepIn K (.ref fq35) = true)
    {fq36 : Addr} {odq36 anq36 : Option Addr} {slq36 : Array (Option Value)} {ocq36 kVq36 dcq36 pmq36 cdq36 ctq36 : Value}
    (aq36 : PySem.W.nsIn K mainGlobals "_law_other_spent" = some (some (.ref fq36))) (lq36 : K.lookup fq36 = some ⟨ocq36, odq36, .func (PySem.W.fnOf "_law_other_spent" "_law_other_spent" (defArgs sLOtherSpent) (defBody sLOtherSpent) (defScope sLOtherSpent) .none kVq36 dcq36 pmq36 anq36 cdq36 ctq36), slq36⟩) (cq36 : PySem.W.codeIn K cdq36 "_law_other_spent" = true) (kq36 : PySem.W.keepIn K (.ref fq36) = true)
    {fq37 : Addr} {odq37 anq37 : Option Addr} {slq37 : Array (Option Value)} {ocq37 kVq37 dcq37 pmq37 cdq37 ctq37 : Value}
    (aq37 : PySem.W.nsIn K mainGlobals "_law_other_balances" = some (some (.ref fq37))) (lq37 : K.lookup fq37 = some ⟨ocq37, odq37, .func (PySem.W.fnOf "_law_other_balances" "_law_other_balances" (defArgs sLOtherBalances) (defBody sLOtherBalances) (defScope sLOtherBalances) .none kVq37 dcq37 pmq37 anq37 cdq37 ctq37), slq37⟩) (cq37 : PySem.W.codeIn K cdq37 "_law_other_balances" = true) (kq37 : PySem.W.keepIn K (.ref fq37) = true)
    {fq38 : Addr} {odq38 anq38 : Option Addr} {slq38 : Array (Option Value)} {ocq38 kVq38 dcq38 pmq38 cdq38 ctq38 : Value}
    (aq38 : PySem.W.nsIn K mainGlobals "_law_refusal" = some (some (.ref fq38))) (lq38 : K.lookup fq38 = some ⟨ocq38, odq38, .func (PySem.W.fnOf "_law_refusal" "_law_refusal" (defArgs sLRefusal) (defBody sLRefusal) (defScope sLRefusal) .none kVq38 dcq38 pmq38 anq38 cdq38 ctq38), slq38⟩) (cq38 : PySem.W.codeIn K cdq38 "_law_refusal" = true) (kq38 : PySem.W.keepIn K (.ref fq38) = true)
    {C : Addr} (aC : PySem.W.nsIn K mainGlobals "Forest" = some (some (.ref C)))
    {fI : Addr} {odI anI : Option Addr} {slI : Array (Option Value)} {ocI kVI dcI pmI cdI ctI : Value}
    (aI : PySem.W.findIn K (.ref C) "__init__" = some (some (.ref fI))) (iI : PySem.W.isFn K (.ref fI) = true)
    (lI : K.lookup fI = some ⟨ocI, odI, .func (PySem.W.fnOf "__init__" "Forest.__init__" (defArgs sInit) (defBody sInit) (defScope sInit) .none kVI dcI pmI anI cdI ctI), slI⟩) (cI : PySem.W.codeIn K cdI "Forest.__init__" = true) (kI : PySem.W.keepIn K (.ref fI) = true)
    {fS : Addr} {odS anS : Option Addr} {slS : Array (Option Value)} {ocS kVS dcS pmS cdS ctS : Value}
    {pS : Addr} {rrS : List Value} (aS : PySem.W.findIn K (.ref C) "names" = some (some (.ref pS))) (gS : PySem.W.specialIn K (.ref pS) "__get__" = some (some (.builtin "property.__get__"))) (tS : PySem.W.takesIn K (.ref pS) = some true) (rS : PySem.W.recIn K pS "property" = some (.ref fS :: rrS))
    (lS : K.lookup fS = some ⟨ocS, odS, .func (PySem.W.fnOf "names" "Forest.names" (defArgs sNames) (defBody sNames) (defScope sNames) .none kVS dcS pmS anS cdS ctS), slS⟩) (cS : PySem.W.codeIn K cdS "Forest.names" = true) (kS : PySem.W.keepIn K (.ref fS) = true)
    {fA : Addr} {odA anA : Option Addr} {slA : Array (Option Value)} {ocA kVA dcA pmA cdA ctA : Value}
    (aA : PySem.W.findIn K (.ref C) "ancestors" = some (some (.ref fA))) (iA : PySem.W.isFn K (.ref fA) = true)
    (lA : K.lookup fA = some ⟨ocA, odA, .func (PySem.W.fnOf "ancestors" "Forest.ancestors" (defArgs sAnc) (defBody sAnc) (defScope sAnc) .none kVA dcA pmA anA cdA ctA), slA⟩) (cA : PySem.W.codeIn K cdA "Forest.ancestors" = true) (kA : PySem.W.keepIn K (.ref fA) = true)
    {tM : Tok}
    (pg : PySem.W.plainGet K C Str.empty = true)
    (hd : PySem.W.hasDictIn K C = true)
    (po : PySem.W.plainOver K C = true)
    (sa : PySem.W.findIn K (.ref C) "__setattr__" = some (some (.builtin "object.__setattr__")))
    (mk : PySem.W.makesIn K C = true)
    (kc : PySem.W.keepIn K (.ref C) = true)
    (nP : PySem.W.findIn K (.ref C) "_parents" = some none)
    (rd : PySem.W.readsIn K C (.type "type") = true)
    (ga : PySem.W.specialIn K (.ref C) "__getattribute__" = some (some (.builtin "type.__getattribute__")))
    (mo : PySem.W.findCls K (.ref C) (.type "type") "MOST" = some (.val (.int 8 tM)))
    (ha : PySem.W.findIn K (.ref C) "__class__" = some (some (.builtin "object.__class__")))
    (hn : PySem.W.specialIn K (.builtin "object.__class__") "__get__" = some (some (.builtin "getset_descriptor.__get__")))
    (ht : PySem.W.takesIn K (.builtin "object.__class__") = some true)
    (hm : PySem.W.mroIn K C (.type "object") = some true)
    {tk0 : Tok} (kg0 : PySem.W.nsIn K mainGlobals "LETTERS" = some (some (.str letters tk0)))
    {tk1 : Tok} (kg1 : PySem.W.nsIn K mainGlobals "LONGEST" = some (some (.int 8 tk1)))
    {tk2 : Tok} (kg2 : PySem.W.nsIn K mainGlobals "LARGEST" = some (some (.int 1000000000 tk2)))
    {tk3 : Tok} (kg3 : PySem.W.nsIn K mainGlobals "MOST_CLAIMS" = some (some (.int 20 tk3)))
    {tk4 : Tok} (kg4 : PySem.W.nsIn K mainGlobals "MOST_BALANCE" = some (some (.int 1000000000000 tk4)))
    (z0 : PySem.W.nsIn K mainGlobals "isinstance" = some none)
    (z1 : PySem.W.nsIn K mainGlobals "str" = some none)
    (z2 : PySem.W.nsIn K mainGlobals "int" = some none)
    (z3 : PySem.W.nsIn K mainGlobals "bool" = some none)
    (z4 : PySem.W.nsIn K mainGlobals "list" = some none)
    (z5 : PySem.W.nsIn K mainGlobals "tuple" = some none)
    (z6 : PySem.W.nsIn K mainGlobals "dict" = some none)
    (z7 : PySem.W.nsIn K mainGlobals "len" = some none)
    (z8 : PySem.W.nsIn K mainGlobals "all" = some none)
    (z9 : PySem.W.nsIn K mainGlobals "enumerate" = some none)
    (z10 : PySem.W.nsIn K mainGlobals "range" = some none)
    (z11 : PySem.W.nsIn K mainGlobals "min" = some none)
    (z12 : PySem.W.nsIn K mainGlobals "zip" = some none)
    (z13 : PySem.W.nsIn K mainGlobals "repr" = some none)
    {CC CS CB CF CU CP : Addr}
    (CC_a : PySem.W.nsIn K mainGlobals "InvalidClaims" = some (some (.ref CC)))
    (CS_a : PySem.W.nsIn K mainGlobals "InvalidSpent" = some (some (.ref CS)))
    (CB_a : PySem.W.nsIn K mainGlobals "InvalidBalances" = some (some (.ref CB)))
    (CF_a : PySem.W.nsIn K mainGlobals "InvalidForest" = some (some (.ref CF)))
    (CU_a : PySem.W.nsIn K mainGlobals "UnknownAccount" = some (some (.ref CU)))
    (CP_a : PySem.W.nsIn K mainGlobals "PurseError" = some (some (.ref CP)))
    (eCC : PySem.W.excIn K CC [.type "ValueError", .type "Exception", .type "BaseException", .type "object"] "ValueError.__new__" = true)
    (qCC : PySem.W.keepIn K (.ref CC) = true)
    (sCC : PySem.W.subIn K (.ref CC) (.type "BaseException") = some true)
    (gCC : PySem.W.findIn K (.ref CC) "__getattribute__" = some (some (.builtin "BaseException.__getattribute__")))
    (hCC : PySem.W.findIn K (.ref CC) "__getattr__" = some none)
    (xCC : PySem.W.findIn K (.ref CC) "__class__" = some (some (.builtin "object.__class__")))
    (yCC : PySem.W.mroIn K CC (.type "object") = some true)
    (sCCP : PySem.W.subIn K (.ref CC) (.ref CP) = some true)
    (nCCCS : ((Value.ref CC) == (Value.ref CS)) = false)
    (sCCCS : PySem.W.subIn K (.ref CC) (.ref CS) = some false)
    (nCCCB : ((Value.ref CC) == (Value.ref CB)) = false)
    (sCCCB : PySem.W.subIn K (.ref CC) (.ref CB) = some false)
    (nCCCF : ((Value.ref CC) == (Value.ref CF)) = false)
    (sCCCF : PySem.W.subIn K (.ref CC) (.ref CF) = some false)
    (nCCCU : ((Value.ref CC) == (Value.ref CU)) = false)
    (sCCCU : PySem.W.subIn K (.ref CC) (.ref CU) = some false)
    (eCS : PySem.W.excIn K CS [.type "ValueError", .type "Exception", .type "BaseException", .type "object"] "ValueError.__new__" = true)
    (qCS : PySem.W.keepIn K (.ref CS) = true)
    (sCS : PySem.W.subIn K (.ref CS) (.type "BaseException") = some true)
    (gCS : PySem.W.findIn K (.ref CS) "__getattribute__" = some (some (.builtin "BaseException.__getattribute__")))
    (hCS : PySem.W.findIn K (.ref CS) "__getattr__" = some none)
    (xCS : PySem.W.findIn K (.ref CS) "__class__" = some (some (.builtin "object.__class__")))
    (yCS : PySem.W.mroIn K CS (.type "object") = some true)
    (sCSP : PySem.W.subIn K (.ref CS) (.ref CP) = some true)
    (nCSCC : ((Value.ref CS) == (Value.ref CC)) = false)
    (sCSCC : PySem.W.subIn K (.ref CS) (.ref CC) = some false)
    (nCSCB : ((Value.ref CS) == (Value.ref CB)) = false)
    (sCSCB : PySem.W.subIn K (.ref CS) (.ref CB) = some false)
    (nCSCF : ((Value.ref CS) == (Value.ref CF)) = false)
    (sCSCF : PySem.W.subIn K (.ref CS) (.ref CF) = some false)
    (nCSCU : ((Value.ref CS) == (Value.ref CU)) = false)
    (sCSCU : PySem.W.subIn K (.ref CS) (.ref CU) = some false)
    (eCB : PySem.W.excIn K CB [.type "ValueError", .type "Exception", .type "BaseException", .type "object"] "ValueError.__new__" = true)
    (qCB : PySem.W.keepIn K (.ref CB) = true)
    (sCB : PySem.W.subIn K (.ref CB) (.type "BaseException") = some true)
    (gCB : PySem.W.findIn K (.ref CB) "__getattribute__" = some (some (.builtin "BaseException.__getattribute__")))
    (hCB : PySem.W.findIn K (.ref CB) "__getattr__" = some none)
    (xCB : PySem.W.findIn K (.ref CB) "__class__" = some (some (.builtin "object.__class__")))
    (yCB : PySem.W.mroIn K CB (.type "object") = some true)
    (sCBP : PySem.W.subIn K (.ref CB) (.ref CP) = some true)
    (nCBCC : ((Value.ref CB) == (Value.ref CC)) = false)
    (sCBCC : PySem.W.subIn K (.ref CB) (.ref CC) = some false)
    (nCBCS : ((Value.ref CB) == (Value.ref CS)) = false)
    (sCBCS : PySem.W.subIn K (.ref CB) (.ref CS) = some false)
    (nCBCF : ((Value.ref CB) == (Value.ref CF)) = false)
    (sCBCF : PySem.W.subIn K (.ref CB) (.ref CF) = some false)
    (nCBCU : ((Value.ref CB) == (Value.ref CU)) = false)
    (sCBCU : PySem.W.subIn K (.ref CB) (.ref CU) = some false)
    (dCC : PySem.W.hasDictIn K CC = true)
    (uCC : PySem.W.typeIn K (.ref CC) = some (.type "type"))
    (dCS : PySem.W.hasDictIn K CS = true)
    (uCS : PySem.W.typeIn K (.ref CS) = some (.type "type"))
    (dCB : PySem.W.hasDictIn K CB = true)
    (uCB : PySem.W.typeIn K (.ref CB) = some (.type "type"))
    (dCF : PySem.W.hasDictIn K CF = true)
    (uCF : PySem.W.typeIn K (.ref CF) = some (.type "type"))
    (dCU : PySem.W.hasDictIn K CU = true)
    (uCU : PySem.W.typeIn K (.ref CU) = some (.type "type"))
    (sP : PySem.W.subIn K (.ref CP) (.type "BaseException") = some true)
    (dP : PySem.W.hasDictIn K CP = true)
    (uP : PySem.W.typeIn K (.ref CP) = some (.type "type"))
    (tabl : PySem.W.tabIn K "law" = some (cc, tt))
    (ntt : K.lookup tt = none)
    : ∃ (fd : FuncData) (c t : Addr), PySem.W.tabIn K "law" = some (c, t) ∧ K.lookup t = none ∧ Fun K "law" "law" sLaw fa fd ∧ fd.code = .ref c ∧ (∀ (s : Shared) (u : Value), BindsTo s fd ⟨[u], []⟩ [("_law_script", u)]) ∧
      ∀ (base : Heap) (A : Around) (s : Shared) (H : Hp) (a : Addr) (ns : List Int), ns.length ≤ 63 → Bed K mg base A → TabB base mg c t → H t = some (.tbl #[]) → Room 9 (A.deeper (envOfC "law" (defScope sLaw) s.heap.objs.size fa (.ref c))) → SqL K H a (ns.map V.int) →
        ∃ q, PSs (cxOf CX0 P w K mg base nLaw "law" (defScope sLaw) fa (.ref c) A [] s H E0).nox (defBody sLaw) q ∧ q { nx := fun _ _ => False, rt := fun v _ => v = .bl true } (L2.start nLaw [.ref a]) H := by
  have e := hfa.symm.trans (PySem.W.mg_of X G aq11)
  cases e
  have Fq0 := fun_mk (st := sBegun) lq0 cq0 kq0
  have mq0 := PySem.W.mg_of X G aq0
  have bq0 := Fq0.binds (ps := ["_law_script"]) fun _ _ _ _ _ _ us hl => match us, hl with | [_], _ => rfl
  have Fq1 := fun_mk (st := sMixed) lq1 cq1 kq1
  have mq1 := PySem.W.mg_of X G aq1
  have bq1 := Fq1.binds (ps := ["_law_state"]) fun _ _ _ _ _ _ us hl => match us, hl with | [_], _ => rfl
  have Fq2 := fun_mk (st := sTake) lq2 cq2 kq2
  have mq2 := PySem.W.mg_of X G aq2
  have bq2 := Fq2.binds (ps := ["_law_state", "_law_size"]) fun _ _ _ _ _ _ us hl => match us, hl with | [_, _], _ => rfl
  have Fq3 := fun_mk (st := sPick) lq3 cq3 kq3
  have mq3 := PySem.W.mg_of X G aq3
  have bq3 := Fq3.binds (ps := ["_law_state", "_law_some"]) fun _ _ _ _ _ _ us hl => match us, hl with | [_, _], _ => rfl
  have Fq4 := fun_mk (st := sWords) lq4 cq4 kq4
  have mq4 := PySem.W.mg_of X G aq4
  have bq4 := Fq4.binds (ps := ["_law_state", "_law_size"]) fun _ _ _ _ _ _ us hl => match us, hl with | [_, _], _ => rfl
  have Fq5 := fun_mk (st := sForest) lq5 cq5 kq5
  have mq5 := PySem.W.mg_of X G aq5
  have bq5 := Fq5.binds (ps := ["_law_state", "_law_most"]) fun _ _ _ _ _ _ us hl => match us, hl with | [_, _], _ => rfl
  have Fq6 := fun_mk (st := sInt) lq6 cq6 kq6
  have mq6 := PySem.W.mg_of X G aq6
  have bq6 := Fq6.binds (ps := ["value"]) fun _ _ _ _ _ _ us hl => match us, hl with | [_], _ => rfl
  have Fq7 := fun_mk (st := sName) lq7 cq7 kq7
  have mq7 := PySem.W.mg_of X G aq7
  have bq7 := Fq7.binds (ps := ["value"]) fun _ _ _ _ _ _ us hl => match us, hl with | [_], _ => rfl
  have Fq8 := fun_mk (st := sAmount) lq8 cq8 kq8
  have mq8 := PySem.W.mg_of X G aq8
  have bq8 := Fq8.binds (ps := ["value"]) fun _ _ _ _ _ _ us hl => match us, hl with | [_], _ => rfl
  have Fq9 := fun_mk (st := sRow) lq9 cq9 kq9
  have mq9 := PySem.W.mg_of X G aq9
  have bq9 := Fq9.binds (ps := ["value", "earlier"]) fun _ _ _ _ _ _ us hl => match us, hl with | [_, _], _ => rfl
  have Fq10 := fun_mk (st := sWrong) lq10 cq10 kq10
  have mq10 := PySem.W.mg_of X G aq10
  have bq10 := Fq10.binds (ps := ["rows"]) fun _ _ _ _ _ _ us hl => match us, hl with | [_], _ => rfl
  have Fq11 := fun_mk (st := sLaw) lq11 cq11 kq11
  have mq11 := PySem.W.mg_of X G aq11
  have bq11 := Fq11.binds (ps := ["_law_script"]) fun _ _ _ _ _ _ us hl => match us, hl with | [_], _ => rfl
  have Fq12 := fun_mk (st := sIsClaim) lq12 cq12 kq12
  have mq12 := PySem.W.mg_of X G aq12
  have bq12 := Fq12.binds (ps := ["forest", "value"]) fun _ _ _ _ _ _ us hl => match us, hl with | [_, _], _ => rfl
  have Fq13 := fun_mk (st := sCheckClaims) lq13 cq13 kq13
  have mq13 := PySem.W.mg_of X G aq13
  have bq13 := Fq13.binds (ps := ["forest", "claims"]) fun _ _ _ _ _ _ us hl => match us, hl with | [_, _], _ => rfl
  have Fq14 := fun_mk (st := sCheckBalances) lq14 cq14 kq14
  have mq14 := PySem.W.mg_of X G aq14
  have bq14 := Fq14.binds (ps := ["forest", "balances"]) fun _ _ _ _ _ _ us hl => match us, hl with | [_, _], _ => rfl
  have Fq15 := fun_mk (st := sCheckSpent) lq15 cq15 kq15
  have mq15 := PySem.W.mg_of X G aq15
  have bq15 := Fq15.binds (ps := ["claims", "spent"]) fun _ _ _ _ _ _ us hl => match us, hl with | [_, _], _ => rfl
  have Fq16 := fun_mk (st := sTotalsOf) lq16 cq16 kq16
  have mq16 := PySem.W.mg_of X G aq16
  have bq16 := Fq16.binds (ps := ["forest", "balances"]) fun _ _ _ _ _ _ us hl => match us, hl with | [_, _], _ => rfl
  have Fq17 := fun_mk (st := sUnspent) lq17 cq17 kq17
  have mq17 := PySem.W.mg_of X G aq17
  have bq17 := Fq17.binds (ps := ["forest", "claims", "spent", "balances"]) fun _ _ _ _ _ _ us hl => match us, hl with | [_, _, _, _], _ => rfl
  have Fq18 := fun_mk (st := sFirstOverdrawn) lq18 cq18 kq18
  have mq18 := PySem.W.mg_of X G aq18
  have bq18 := Fq18.binds (ps := ["forest", "claims", "spent", "balances"]) fun _ _ _ _ _ _ us hl => match us, hl with | [_, _, _, _], _ => rfl
  have Fq19 := fun_mk (st := sGrants) lq19 cq19 kq19
  have mq19 := PySem.W.mg_of X G aq19
  have bq19 := Fq19.binds (ps := ["forest", "claims", "balances"]) fun _ _ _ _ _ _ us hl => match us, hl with | [_, _, _], _ => rfl
  have Fq20 := fun_mk (st := sTightAbove) lq20 cq20 kq20
  have mq20 := PySem.W.mg_of X G aq20
  have bq20 := Fq20.binds (ps := ["forest", "claims", "spent", "balances"]) fun _ _ _ _ _ _ us hl => match us, hl with | [_, _, _, _], _ => rfl
  have Fq21 := fun_mk (st := sIsResult) lq21 cq21 kq21
  have mq21 := PySem.W.mg_of X G aq21
  have bq21 := Fq21.binds (ps := ["claims", "value"]) fun _ _ _ _ _ _ us hl => match us, hl with | [_, _], _ => rfl
  have Fq22 := fun_mk (st := sIsWitness) lq22 cq22 kq22
  have mq22 := PySem.W.mg_of X G aq22
  have bq22 := Fq22.binds (ps := ["claims", "result", "tight", "value"]) fun _ _ _ _ _ _ us hl => match us, hl with | [_, _, _, _], _ => rfl
  have Fq23 := fun_mk (st := sTotals) lq23 cq23 kq23
  have mq23 := PySem.W.mg_of X G aq23
  have bq23 := Fq23.binds (ps := ["forest", "balances"]) fun _ _ _ _ _ _ us hl => match us, hl with | [_, _], _ => rfl
  have Fq24 := fun_mk (st := sOverdrawn) lq24 cq24 kq24
  have mq24 := PySem.W.mg_of X G aq24
  have bq24 := Fq24.binds (ps := ["forest", "claims", "spent", "balances"]) fun _ _ _ _ _ _ us hl => match us, hl with | [_, _, _, _], _ => rfl
  have Fq25 := fun_mk (st := sEntitlements) lq25 cq25 kq25
  have mq25 := PySem.W.mg_of X G aq25
  have bq25 := Fq25.binds (ps := ["forest", "claims", "balances"]) fun _ _ _ _ _ _ us hl => match us, hl with | [_, _, _], _ => rfl
  have Fq26 := fun_mk (st := sCertificate) lq26 cq26 kq26
  have mq26 := PySem.W.mg_of X G aq26
  have bq26 := Fq26.binds (ps := ["forest", "claims", "balances"]) fun _ _ _ _ _ _ us hl => match us, hl with | [_, _, _], _ => rfl
  have Fq27 := fun_mk (st := sShowsEntitlements) lq27 cq27 kq27
  have mq27 := PySem.W.mg_of X G aq27
  have bq27 := Fq27.binds (ps := ["forest", "claims", "balances", "result", "witness"]) fun _ _ _ _ _ _ us hl => match us, hl with | [_, _, _, _, _], _ => rfl
  have Fq28 := fun_mk (st := sLOrder) lq28 cq28 kq28
  have mq28 := PySem.W.mg_of X G aq28
  have bq28 := Fq28.binds (ps := ["_law_state", "_law_some"]) fun _ _ _ _ _ _ us hl => match us, hl with | [_, _], _ => rfl
  have Fq29 := fun_mk (st := sLClaims) lq29 cq29 kq29
  have mq29 := PySem.W.mg_of X G aq29
  have bq29 := Fq29.binds (ps := ["_law_state", "_law_names", "_law_numbers"]) fun _ _ _ _ _ _ us hl => match us, hl with | [_, _, _], _ => rfl
  have Fq30 := fun_mk (st := sLBalances) lq30 cq30 kq30
  have mq30 := PySem.W.mg_of X G aq30
  have bq30 := Fq30.binds (ps := ["_law_state", "_law_names", "_law_numbers"]) fun _ _ _ _ _ _ us hl => match us, hl with | [_, _, _], _ => rfl
  have Fq31 := fun_mk (st := sLIsBetween) lq31 cq31 kq31
  have mq31 := PySem.W.mg_of X G aq31
  have bq31 := Fq31.binds (ps := ["_law_value", "_law_least", "_law_most"]) fun _ _ _ _ _ _ us hl => match us, hl with | [_, _, _], _ => rfl
  have Fq32 := fun_mk (st := sLAreClaims) lq32 cq32 kq32
  have mq32 := PySem.W.mg_of X G aq32
  have bq32 := Fq32.binds (ps := ["_law_names", "_law_value"]) fun _ _ _ _ _ _ us hl => match us, hl with | [_, _], _ => rfl
  have Fq33 := fun_mk (st := sLAreSpent) lq33 cq33 kq33
  have mq33 := PySem.W.mg_of X G aq33
  have bq33 := Fq33.binds (ps := ["_law_claims_here", "_law_value"]) fun _ _ _ _ _ _ us hl => match us, hl with | [_, _], _ => rfl
  have Fq34 := fun_mk (st := sLAreBalances) lq34 cq34 kq34
  have mq34 := PySem.W.mg_of X G aq34
  have bq34 := Fq34.binds (ps := ["_law_names", "_law_value"]) fun _ _ _ _ _ _ us hl => match us, hl with | [_, _], _ => rfl
  have Fq35 := fun_mk (st := sLOtherClaims) lq35 cq35 kq35
  have mq35 := PySem.W.mg_of X G aq35
  have bq35 := Fq35.binds (ps := ["_law_state", "_law_names", "_law_value"]) fun _ _ _ _ _ _ us hl => match us, hl with | [_, _, _], _ => rfl
  have Fq36 := fun_mk (st := sLOtherSpent) lq36 cq36 kq36
  have mq36 := PySem.W.mg_of X G aq36
  have bq36 := Fq36.binds (ps := ["_law_state", "_law_value"]) fun _ _ _ _ _ _ us hl => match us, hl with | [_, _], _ => rfl
  have Fq37 := fun_mk (st := sLOtherBalances) lq37 cq37 kq37
  have mq37 := PySem.W.mg_of X G aq37
  have bq37 := Fq37.binds (ps := ["_law_state", "_law_names", "_law_value"]) fun _ _ _ _ _ _ us hl => match us, hl with | [_, _, _], _ => rfl
  have Fq38 := fun_mk (st := sLRefusal) lq38 cq38 kq38
  have mq38 := PySem.W.mg_of X G aq38
  have bq38 := Fq38.binds (ps := ["_law_work"]) fun _ _ _ _ _ _ us hl => match us, hl with | [_], _ => rfl
  have FI := fun_mk (st := sInit) lI cI kI
  have bI := FI.binds (ps := ["self", "rows"]) fun _ _ _ _ _ _ us hl => match us, hl with | [_, _], _ => rfl
  have FS := fun_mk (st := sNames) lS cS kS
  have bS := FS.binds (ps := ["self"]) fun _ _ _ _ _ _ us hl => match us, hl with | [_], _ => rfl
  have FA := fun_mk (st := sAnc) lA cA kA
  have bA := FA.binds (ps := ["self", "name"]) fun _ _ _ _ _ _ us hl => match us, hl with | [_, _], _ => rfl
  have Z0 : FC K mg C fI (.type "type") := ⟨⟨pg, hd, po, sa⟩, ⟨mk, aI, iI, kc⟩, nP, ⟨rd, ga⟩, ⟨_, mo, ⟨_, rfl⟩⟩, ha, hn, ht, hm, kit_self, PySem.W.mg_of X G aC⟩
  have T : Names mg := ⟨(PySem.W.mg_none_of X G z0), (PySem.W.mg_none_of X G z1), (PySem.W.mg_none_of X G z2), (PySem.W.mg_none_of X G z3), (PySem.W.mg_none_of X G z4), (PySem.W.mg_none_of X G z5), (PySem.W.mg_none_of X G z6), (PySem.W.mg_none_of X G z7), (PySem.W.mg_none_of X G z8), (PySem.W.mg_none_of X G z9), (PySem.W.mg_none_of X G z10), (PySem.W.mg_none_of X G z11), (PySem.W.mg_none_of X G z12), (PySem.W.mg_none_of X G z13), ⟨_, PySem.W.mg_of X G kg0⟩, ⟨_, PySem.W.mg_of X G kg1⟩, ⟨_, PySem.W.mg_of X G kg2⟩⟩
  refine ⟨_, cc, tt, tabl, ntt, Fq11, rfl, fun s v => .of_eq rfl, fun base A s H a ns hl B TB hTt hr hS => ?_⟩
  have GM : FnOk P w K mg base CX0 1 _ _ ["_law_state"] (spMixed ns) := ok_mixed ns Fq1
  have GT : FnOk P w K mg base CX0 2 _ _ ["_law_state", "_law_size"] (spTake ns) := ok_take ns Fq2 GM bq1 kq1 mq1
  have GP : FnOk P w K mg base CX0 3 _ _ ["_law_state", "_law_some"] (spPick K ns) := ok_pick ns Fq3 GT bq2 kq2 mq2 T.len
  have R : Draw P w K mg base ns fq2 fq3 _ _ := ⟨GT, bq2, kq2, mq2, GP, bq3, kq3, mq3, T.len, T.range⟩
  have GW := ok_words (P := P) (w := w) (base := base) ns Fq4 R
  have GF := ok_forest (P := P) (w := w) (base := base) ns Fq5 R GW bq4 kq4 mq4
  have GN : FnOk P w K mg base CX0 1 _ _ ["value"] spName := ok_name Fq7 T
  have GO := ok_row (P := P) (w := w) (base := base) Fq9 T GN bq7 kq7 mq7
  have GX := ok_wrong (P := P) (w := w) (base := base) Fq10 T GO bq9 kq9 mq9
  have GI := ok_init (P := P) (w := w) (base := base) FI T Z0 GX bq10 kq10 mq10
  have GS := ok_names (P := P) (w := w) (base := base) FS T Z0
  have hS' : PropOf K C "names" pS fS := ⟨aS, gS, tS, ⟨_, rS⟩⟩
  have GA := ok_anc (P := P) (w := w) (base := base) FA T Z0 hS' GS bS
  have Z : Fo P w K mg base C fI pS fS fA (.type "type") _ _ := ⟨Z0, hS', GS, bS, ⟨aA, iA, kA⟩, GA, bA⟩
  have GJ := ok_int (P := P) (w := w) (base := base) Fq6 T
  have GQ := ok_amount (P := P) (w := w) (base := base) Fq8 T GJ bq6 kq6 mq6
  have YCC : XE1 K mg "InvalidClaims" CC := ⟨eCC, PySem.W.mg_of X G CC_a, qCC, sCC, uCC⟩
  have YCS : XE1 K mg "InvalidSpent" CS := ⟨eCS, PySem.W.mg_of X G CS_a, qCS, sCS, uCS⟩
  have YCB : XE1 K mg "InvalidBalances" CB := ⟨eCB, PySem.W.mg_of X G CB_a, qCB, sCB, uCB⟩
  have Y : XRc K mg CP CF CU CC CS CB := ⟨PySem.W.mg_of X G CP_a, PySem.W.mg_of X G CF_a, PySem.W.mg_of X G CU_a, PySem.W.mg_of X G CC_a, PySem.W.mg_of X G CS_a, PySem.W.mg_of X G CB_a, ⟨⟨gCC, hCC, sCC, dCC, xCC, hn, ht, yCC⟩, PySem.W.exm_ref sP dP uP sCCP, kit_self, kit_ref dCS uCS nCCCS sCCCS, kit_ref dCB uCB nCCCB sCCCB, kit_ref dCF uCF nCCCF sCCCF, kit_ref dCU uCU nCCCU sCCCU⟩, ⟨⟨gCS, hCS, sCS, dCS, xCS, hn, ht, yCS⟩, PySem.W.exm_ref sP dP uP sCSP, kit_ref dCC uCC nCSCC sCSCC, kit_self, kit_ref dCB uCB nCSCB sCSCB, kit_ref dCF uCF nCSCF sCSCF, kit_ref dCU uCU nCSCU sCSCU⟩, ⟨⟨gCB, hCB, sCB, dCB, xCB, hn, ht, yCB⟩, PySem.W.exm_ref sP dP uP sCBP, kit_ref dCC uCC nCBCC sCBCC, kit_ref dCS uCS nCBCS sCBCS, kit_self, kit_ref dCF uCF nCBCF sCBCF, kit_ref dCU uCU nCBCU sCBCU⟩⟩
  have GCg := ok_isClaim (P := P) (w := w) (base := base) Fq12 T Z GJ bq6 kq6 mq6 GQ bq8 kq8 mq8
  have GCCg := ok_ckClaims (P := P) (w := w) (base := base) Fq13 T ⟨_, PySem.W.mg_of X G kg3⟩ GCg bq12 kq12 mq12
  have GCBg := ok_ckBal (P := P) (w := w) (base := base) Fq14 T Z ⟨_, PySem.W.mg_of X G kg4⟩ GJ bq6 kq6 mq6
  have GTO := ok_totOf (P := P) (w := w) (base := base) Fq16 Z
  have GG := ok_grants (P := P) (w := w) (base := base) Fq19 T Z GTO bq16 kq16 mq16
  have GWt := ok_tight (P := P) (w := w) (base := base) Fq20 T Z GTO bq16 kq16 mq16
  have GUn := ok_unsp (P := P) (w := w) (base := base) Fq17 T Z GTO bq16 kq16 mq16
  have GFi := ok_first (P := P) (w := w) (base := base) Fq18 T Z GUn bq17 kq17 mq17
  have GEn := ok_ent (P := P) (w := w) (base := base) Fq25 GCCg bq13 kq13 mq13 GCBg bq14 kq14 mq14 GG bq19 kq19 mq19
  have GCe := ok_cert (P := P) (w := w) (base := base) Fq26 T GCCg bq13 kq13 mq13 GCBg bq14 kq14 mq14 GG bq19 kq19 mq19 GWt bq20 kq20 mq20
  have GTt := ok_totals (P := P) (w := w) (base := base) Fq23 GCBg bq14 kq14 mq14 GTO bq16 kq16 mq16
  have GCX := ok_claimX (P := P) (w := w) (base := base) Fq12 T Z GJ bq6 kq6 mq6 GQ bq8 kq8 mq8
  have GCCX := ok_ckClX (P := P) (w := w) (base := base) Fq13 T YCC ⟨_, PySem.W.mg_of X G kg3⟩ GCX bq12 kq12 mq12
  have GCSX := ok_ckSpX (P := P) (w := w) (base := base) Fq15 T YCS GJ bq6 kq6 mq6
  have GCBX := ok_ckBalX (P := P) (w := w) (base := base) Fq14 T YCB Z ⟨_, PySem.W.mg_of X G kg4⟩ GJ bq6 kq6 mq6
  have GCBE : FnOk P w K mg base (L2.CX P w) 3 _ _ ["forest", "balances"] (spCkBalE P w C CB) := FnOk.or (FnOk.up GCBg) GCBX
  have GEX := ok_EntX (P := P) (w := w) (base := base) Fq25 T GCCX bq13 kq13 mq13 GCBE bq14 kq14 mq14 GG bq19 kq19 mq19
  have GEE : FnOk P w K mg base (L2.CX P w) 6 _ _ ["forest", "claims", "balances"] (spEntE P w C CC CB) := FnOk.or (FnOk.up GEn) GEX
  have GCX2 := ok_CertX (P := P) (w := w) (base := base) Fq26 T GCCX bq13 kq13 mq13 GCBE bq14 kq14 mq14 GG bq19 kq19 mq19 GWt bq20 kq20 mq20
  have GCE : FnOk P w K mg base (L2.CX P w) 6 _ _ ["forest", "claims", "balances"] (spCertE P w C CC CB) := FnOk.or (FnOk.up GCe) GCX2
  have GRn := ok_isResN (P := P) (w := w) (base := base) Fq21 T GJ bq6 kq6 mq6
  have GIw := ok_isWit (P := P) (w := w) (base := base) Fq22 T
  have GSN := ok_ShowsN (P := P) (w := w) (base := base) Fq27 T GCCX bq13 kq13 mq13 GCBE bq14 kq14 mq14 GRn bq21 kq21 mq21 GIw bq22 kq22 mq22 GFi bq18 kq18 mq18 GWt bq20 kq20 mq20
  have GSX := ok_ShowsX (P := P) (w := w) (base := base) Fq27 T GCCX bq13 kq13 mq13 GCBE bq14 kq14 mq14 GRn bq21 kq21 mq21 GIw bq22 kq22 mq22 GFi bq18 kq18 mq18 GWt bq20 kq20 mq20
  have GSE : FnOk P w K mg base (L2.CX P w) 7 _ _ ["forest", "claims", "balances", "result", "witness"] (spShowsE P w C CC CB) := FnOk.or GSN GSX
  have GTX := ok_TotX (P := P) (w := w) (base := base) Fq23 GCBE bq14 kq14 mq14 GTO bq16 kq16 mq16
  have GTE : FnOk P w K mg base (L2.CX P w) 5 _ _ ["forest", "balances"] (spTotE P w C CB) := FnOk.or (FnOk.up GTt) GTX
  have GOX := ok_OverX (P := P) (w := w) (base := base) Fq24 GCCX bq13 kq13 mq13 GCSX bq15 kq15 mq15 GCBE bq14 kq14 mq14 GFi bq18 kq18 mq18
  have GOr := ok_order (P := P) (w := w) (base := base) ns Fq28 T R
  have GCl := ok_claims (P := P) (w := w) (base := base) ns Fq29 T R
  have GBa := ok_balances (P := P) (w := w) (base := base) ns Fq30 T R GOr bq28 kq28 mq28
  have GBt := ok_btw (P := P) (w := w) (base := base) Fq31 T
  have GAc := ok_lclm (P := P) (w := w) (base := base) Fq32 T GBt bq31 kq31 mq31
  have GAs := ok_lspn (P := P) (w := w) (base := base) Fq33 T GBt bq31 kq31 mq31
  have GAb := ok_lbal (P := P) (w := w) (base := base) Fq34 T GBt bq31 kq31 mq31
  have GOs := ok_losp (P := P) (w := w) (base := base) ns Fq36 T R
  have GOb := ok_lobal (P := P) (w := w) (base := base) ns Fq37 T R
  have GOc := ok_loc (P := P) (w := w) (base := base) ns Fq35 T R
  exact ok_law (CP := CP) (CF := CF) (CU := CU) (CC := CC) (CS := CS) (CB := CB) hl B hr hS TB hTt Y lq38 cq38 bq38 kq38 mq38 R T Z GI bI (ok_begun ns Fq0 T.list) bq0 kq0 mq0 GF bq5 kq5 mq5 GCl bq29 kq29 mq29 GBa bq30 kq30 mq30 GOc bq35 kq35 mq35 GOs bq36 kq36 mq36 GOb bq37 kq37 mq37 GAc bq32 kq32 mq32 GAs bq33 kq33 mq33 GAb bq34 kq34 mq34 GEE bq25 kq25 mq25 GCE bq26 kq26 mq26 GSE bq27 kq27 mq27 GTE bq23 kq23 mq23 GOX bq24 kq24 mq24
end Lw
open PySem PySem.W PyProof.Rows
set_option maxRecDepth 100000 in
set_option maxHeartbeats 0 in
theorem PySem.Challenge.cw_hearpurse_k09_invalid_arguments_holds : PySem.Challenge.rw_hearpurse_k09_invalid_arguments.Holds := by
  w_on; o_law; k_head; (case hw => w_witness2)
  k_fill
  refine Ga.walk_lawT (l := PySem.Challenge.rw_hearpurse_k09_invalid_arguments) (n := 63) (k := 9) (x := "_law_script") (st := Lw.sLaw) (N := Lw.nLaw) rfl (by decide) rfl rfl ⟨rfl, by decide, by decide⟩ (by decide +kernel) rfl Lw.scLaw (fun w h Y => PySem.W.km_in_of Y) ?F
  case F =>
    intro w mg fa h KX G hmg
    refine' Lw.all_mk KX G hmg ?aq0 ?lq0 ?cq0 ?kq0 ?aq1 ?lq1 ?cq1 ?kq1 ?aq2 ?lq2 ?cq2 ?kq2 ?aq3 ?lq3 ?cq3 ?kq3 ?aq4 ?lq4 ?cq4 ?kq4 ?aq5 ?lq5 ?cq5 ?kq5 ?aq6 ?lq6 ?cq6 ?kq6 ?aq7 ?lq7 ?cq7 ?kq7 ?aq8 ?lq8 ?cq8 ?kq8 ?aq9 ?lq9 ?cq9 ?kq9 ?aq10 ?lq10 ?cq10 ?kq10 ?aq11 ?lq11 ?cq11 ?kq11 ?aq12 ?lq12 ?cq12 ?kq12 ?aq13 ?lq13 ?cq13 ?kq13 ?aq14 ?lq14 ?cq14 ?kq14 ?aq15 ?lq15 ?cq15 ?kq15 ?aq16 ?lq16 ?cq16 ?kq16 ?aq17 ?lq17 ?cq17 ?kq17 ?aq18 ?lq18 ?cq18 ?kq18 ?aq19 ?lq19 ?cq19 ?kq19 ?aq20 ?lq20 ?cq20 ?kq20 ?aq21 ?lq21 ?cq21 ?kq21 ?aq22 ?lq22 ?cq22 ?kq22 ?aq23 ?lq23 ?cq23 ?kq23 ?aq24 ?lq24 ?cq24 ?kq24 ?aq25 ?lq25 ?cq25 ?kq25 ?aq26 ?lq26 ?cq26 ?kq26 ?aq27 ?lq27 ?cq27 ?kq27 ?aq28 ?lq28 ?cq28 ?kq28 ?aq29 ?lq29 ?cq29 ?kq29 ?aq30 ?lq30 ?cq30 ?kq30 ?aq31 ?lq31 ?cq31 ?kq31 ?aq32 ?lq32 ?cq32 ?kq32 ?aq33 ?lq33 ?cq33 ?kq33 ?aq34 ?lq34 ?cq34 ?kq34 ?aq35 ?lq35 ?cq35 ?kq35 ?aq36 ?lq36 ?cq36 ?kq36 ?aq37 ?lq37 ?cq37 ?kq37 ?aq38 ?lq38 ?cq38 ?kq38 ?aC ?aI ?iI ?lI ?cI ?kI ?aS ?gS ?tS ?rS ?lS ?cS ?kS ?aA ?iA ?lA ?cA ?kA ?pg ?hd ?po ?sa ?mk ?kc ?nP ?rd ?ga ?mo ?ha ?hn ?ht ?hm ?kg0 ?kg1 ?kg2 ?kg3 ?kg4 ?z0 ?z1 ?z2 ?z3 ?z4 ?z5 ?z6 ?z7 ?z8 ?z9 ?z10 ?z11 ?z12 ?z13 ?CC_a ?CS_a ?CB_a ?CF_a ?CU_a ?CP_a ?eCC ?qCC ?sCC ?gCC ?hCC ?xCC ?yCC ?sCCP ?nCCCS ?sCCCS ?nCCCB ?sCCCB ?nCCCF ?sCCCF ?nCCCU ?sCCCU ?eCS ?qCS ?sCS ?gCS ?hCS ?xCS ?yCS ?sCSP ?nCSCC ?sCSCC ?nCSCB ?sCSCB ?nCSCF ?sCSCF ?nCSCU ?sCSCU ?eCB ?qCB ?sCB ?gCB ?hCB ?xCB ?yCB ?sCBP ?nCBCC ?sCBCC ?nCBCS ?sCBCS ?nCBCF ?sCBCF ?nCBCU ?sCBCU ?dCC ?uCC ?dCS ?uCS ?dCB ?uCB ?dCF ?uCF ?dCU ?uCU ?sP ?dP ?uP ?tabl ?ntt
    (case aq0 => k_is)
    (case lq0 => k_is)
    (case cq0 => k_is)
    (case kq0 => k_is)
    (case aq1 => k_is)
    (case lq1 => k_is)
    (case cq1 => k_is)
    (case kq1 => k_is)
    (case aq2 => k_is)
    (case lq2 => k_is)
    (case cq2 => k_is)
    (case kq2 => k_is)
    (case aq3 => k_is)
    (case lq3 => k_is)
    (case cq3 => k_is)
    (case kq3 => k_is)
    (case aq4 => k_is)
    (case lq4 => k_is)
    (case cq4 => k_is)
    (case kq4 => k_is)
    (case aq5 => k_is)
    (case lq5 => k_is)
    (case cq5 => k_is)
    (case kq5 => k_is)
    (case aq6 => k_is)
    (case lq6 => k_is)
    (case cq6 => k_is)
    (case kq6 => k_is)
    (case aq7 => k_is)
    (case lq7 => k_is)
    (case cq7 => k_is)
    (case kq7 => k_is)
    (case aq8 => k_is)
    (case lq8 => k_is)
    (case cq8 => k_is)
    (case kq8 => k_is)
    (case aq9 => k_is)
    (case lq9 => k_is)
    (case cq9 => k_is)
    (case kq9 => k_is)
    (case aq10 => k_is)
    (case lq10 => k_is)
    (case cq10 => k_is)
    (case kq10 => k_is)
    (case aq11 => k_is)
    (case lq11 => k_is)
    (case cq11 => k_is)
    (case kq11 => k_is)
    (case aq12 => k_is)
    (case lq12 => k_is)
    (case cq12 => k_is)
    (case kq12 => k_is)
    (case aq13 => k_is)
    (case lq13 => k_is)
    (case cq13 => k_is)
    (case kq13 => k_is)
    (case aq14 => k_is)
    (case lq14 => k_is)
    (case cq14 => k_is)
    (case kq14 => k_is)
    (case aq15 => k_is)
    (case lq15 => k_is)
    (case cq15 => k_is)
    (case kq15 => k_is)
    (case aq16 => k_is)
    (case lq16 => k_is)
    (case cq16 => k_is)
    (case kq16 => k_is)
    (case aq17 => k_is)
    (case lq17 => k_is)
    (case cq17 => k_is)
    (case kq17 => k_is)
    (case aq18 => k_is)
    (case lq18 => k_is)
    (case cq18 => k_is)
    (case kq18 => k_is)
    (case aq19 => k_is)
    (case lq19 => k_is)
    (case cq19 => k_is)
    (case kq19 => k_is)
    (case aq20 => k_is)
    (case lq20 => k_is)
    (case cq20 => k_is)
    (case kq20 => k_is)
    (case aq21 => k_is)
    (case lq21 => k_is)
    (case cq21 => k_is)
    (case kq21 => k_is)
    (case aq22 => k_is)
    (case lq22 => k_is)
    (case cq22 => k_is)
    (case kq22 => k_is)
    (case aq23 => k_is)
    (case lq23 => k_is)
    (case cq23 => k_is)
    (case kq23 => k_is)
    (case aq24 => k_is)
    (case lq24 => k_is)
    (case cq24 => k_is)
    (case kq24 => k_is)
    (case aq25 => k_is)
    (case lq25 => k_is)
    (case cq25 => k_is)
    (case kq25 => k_is)
    (case aq26 => k_is)
    (case lq26 => k_is)
    (case cq26 => k_is)
    (case kq26 => k_is)
    (case aq27 => k_is)
    (case lq27 => k_is)
    (case cq27 => k_is)
    (case kq27 => k_is)
    (case aq28 => k_is)
    (case lq28 => k_is)
    (case cq28 => k_is)
    (case kq28 => k_is)
    (case aq29 => k_is)
    (case lq29 => k_is)
    (case cq29 => k_is)
    (case kq29 => k_is)
    (case aq30 => k_is)
    (case lq30 => k_is)
    (case cq30 => k_is)
    (case kq30 => k_is)
    (case aq31 => k_is)
    (case lq31 => k_is)
    (case cq31 => k_is)
    (case kq31 => k_is)
    (case aq32 => k_is)
    (case lq32 => k_is)
    (case cq32 => k_is)
    (case kq32 => k_is)
    (case aq33 => k_is)
    (case lq33 => k_is)
    (case cq33 => k_is)
    (case kq33 => k_is)
    (case aq34 => k_is)
    (case lq34 => k_is)
    (case cq34 => k_is)
    (case kq34 => k_is)
    (case aq35 => k_is)
    (case lq35 => k_is)
    (case cq35 => k_is)
    (case kq35 => k_is)
    (case aq36 => k_is)
    (case lq36 => k_is)
    (case cq36 => k_is)
    (case kq36 => k_is)
    (case aq37 => k_is)
    (case lq37 => k_is)
    (case cq37 => k_is)
    (case kq37 => k_is)
    (case aq38 => k_is)
    (case lq38 => k_is)
    (case cq38 => k_is)
    (case kq38 => k_is)
    (case aC => k_is)
    (case aI => k_is)
    (case iI => k_is)
    (case lI => k_is)
    (case cI => k_is)
    (case kI => k_is)
    (case aS => k_is)
    (case gS => k_is)
    (case tS => k_is)
    (case rS => k_is)
    (case lS => k_is)
    (case cS => k_is)
    (case kS => k_is)
    (case aA => k_is)
    (case iA => k_is)
    (case lA => k_is)
    (case cA => k_is)
    (case kA => k_is)
    (case pg => k_is)
    (case hd => k_is)
    (case po => k_is)
    (case sa => k_is)
    (case mk => k_is)
    (case kc => k_is)
    (case nP => k_is)
    (case rd => k_is)
    (case ga => k_is)
    (case mo => k_is)
    (case ha => k_is)
    (case hn => k_is)
    (case ht => k_is)
    (case hm => k_is)
    (case kg0 => k_is)
    (case kg1 => k_is)
    (case kg2 => k_is)
    (case kg3 => k_is)
    (case kg4 => k_is)
    (case z0 => k_is)
    (case z1 => k_is)
    (case z2 => k_is)
    (case z3 => k_is)
    (case z4 => k_is)
    (case z5 => k_is)
    (case z6 => k_is)
    (case z7 => k_is)
    (case z8 => k_is)
    (case z9 => k_is)
    (case z10 => k_is)
    (case z11 => k_is)
    (case z12 => k_is)
    (case z13 => k_is)
    (case CC_a => k_is)
    (case CS_a => k_is)
    (case CB_a => k_is)
    (case CF_a => k_is)
    (case CU_a => k_is)
    (case CP_a => k_is)
    (case eCC => k_exc)
    (case qCC => k_is)
    (case sCC => k_is)
    (case gCC => k_is)
    (case hCC => k_is)
    (case xCC => k_is)
    (case yCC => k_is)
    (case sCCP => k_is)
    (case nCCCS => with_unfolding_all rfl)
    (case sCCCS => k_is)
    (case nCCCB => with_unfolding_all rfl)
    (case sCCCB => k_is)
    (case nCCCF => with_unfolding_all rfl)
    (case sCCCF => k_is)
    (case nCCCU => with_unfolding_all rfl)
    (case sCCCU => k_is)
    (case eCS => k_exc)
    (case qCS => k_is)
    (case sCS => k_is)
    (case gCS => k_is)
    (case hCS => k_is)
    (case xCS => k_is)
    (case yCS => k_is)
    (case sCSP => k_is)
    (case nCSCC => with_unfolding_all rfl)
    (case sCSCC => k_is)
    (case nCSCB => with_unfolding_all rfl)
    (case sCSCB => k_is)
    (case nCSCF => with_unfolding_all rfl)
    (case sCSCF => k_is)
    (case nCSCU => with_unfolding_all rfl)
    (case sCSCU => k_is)
    (case eCB => k_exc)
    (case qCB => k_is)
    (case sCB => k_is)
    (case gCB => k_is)
    (case hCB => k_is)
    (case xCB => k_is)
    (case yCB => k_is)
    (case sCBP => k_is)
    (case nCBCC => with_unfolding_all rfl)
    (case sCBCC => k_is)
    (case nCBCS => with_unfolding_all rfl)
    (case sCBCS => k_is)
    (case nCBCF => with_unfolding_all rfl)
    (case sCBCF => k_is)
    (case nCBCU => with_unfolding_all rfl)
    (case sCBCU => k_is)
    (case dCC => k_is)
    (case uCC => k_is)
    (case dCS => k_is)
    (case uCS => k_is)
    (case dCB => k_is)
    (case uCB => k_is)
    (case dCF => k_is)
    (case uCF => k_is)
    (case dCU => k_is)
    (case uCU => k_is)
    (case sP => k_is)
    (case dP => k_is)
    (case uP => k_is)
    (case tabl => first | k_is | rfl | with_unfolding_all rfl)
    (case ntt => first | k_is | rfl | with_unfolding_all rfl)

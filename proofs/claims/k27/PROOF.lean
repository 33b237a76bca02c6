import PyProof.Rows.All
import Wide.All
import OpenK.AllK
import Wide.FinOn
import HandS.Base
import HandS.Call
import HandS.List
import HandS.Comp
import HandS.Ends
import HandS.Dict
import HandS.Iter
import HandS.Words
import HandS.Wide
import PyProof.ReprRoads
import HandS.ForMost
import HandS.IsInst
import HandS.Walk
import PyProof.ReprLen
import PyProof.StrLawsRepr
import HandS.ClsMeth
import HandS.Property
import HandS.OwnEq
import HandS.DictComp
import HandS.Conv
import HandS.FStr
import PyProof.InstNe
import HandS.Text
import KE.KDictList
import HandS.Zip
import KE.GoesNew
import KE.GoesEnum
import PyProof.NeKinds
import KE.GoesEnumKw
import PyProof.Rows.CallKwBuiltin
import HandS.TupLen
import PyProof.DictFindH
import PyProof.TupleKey
import KE.DataEq
import HandS.SetBool
import HandS.NoneIn
import KE.KDictWalk
import HandS.AnyAll
import HandS.ExcOwn
import HandS.ExcInit
import HandS.Exc
import HandS.ExcValue
import HandS.ExcField
import HandS.ExcIs
import KE.KExcIs
import HandS.WordsExc
import HandS.Star
import HandS.Sort
import HandS.TupLe
import KE.KSortTupG
import PyProof.FString5
import HandS.Lambda
import HandS.EndBits
import KE.KNest
import HandS.TupAny
import HandS.MakeKwOnly
import PySem.Challenge.RW_hearpurse_k27_spenders_made
set_option Elab.async false
set_option linter.all false
set_option maxRecDepth 100000
set_option maxHeartbeats 4000000
namespace Gn
open PySem PySem.Spec PyProof.Rows L2

/-! ## heaps -/
theorem new_same {H : Hp} {p : Addr} {o : HO} (h : H p = none) : ∀ b u, H b = some u → upd H p o b = some u := by
  intro b u e
  rw [upd_ne (ne_of_none e h)]
  exact e
/-- the heap less two objects: those of the draws -/
def Rs (d g : Addr) (H : Hp) : Hp := fun a => if a = d ∨ a = g then none else H a
section
variable {d g a p : Addr} {H H' H2 : Hp} {o u : HO}
theorem rs_of (h : Rs d g H a = some o) : H a = some o ∧ a ≠ d ∧ a ≠ g := by
  unfold Rs at h
  by_cases c : a = d ∨ a = g
  · rw [if_pos c] at h; cases h
  · rw [if_neg c] at h
    exact ⟨h, fun e => c (.inl e), fun e => c (.inr e)⟩
theorem rs_to (h : H a = some o) (h1 : a ≠ d) (h2 : a ≠ g) : Rs d g H a = some o := by
  unfold Rs
  rw [if_neg (fun c => c.elim h1 h2)]
  exact h
/-- all that is no draw's stands -/
def Kp (d g : Addr) (H H' : Hp) : Prop := ∀ a o, a ≠ d → a ≠ g → H a = some o → H' a = some o
theorem Kp.refl : Kp d g H H := fun _ _ _ _ e => e
theorem Kp.trans (h : Kp d g H H') (k : Kp d g H' H2) : Kp d g H H2 := fun a o n1 n2 e => k a o n1 n2 (h a o n1 n2 e)
theorem Kp.new (hp : H p = none) : Kp d g H (upd H p o) := fun a u _ _ e => new_same hp a u e
theorem Kp.of (h : ∀ a o, H a = some o → H' a = some o) : Kp d g H H' := fun a o _ _ e => h a o e
theorem Kp.at_d : Kp d g H (upd H d o) := fun a u n1 _ e => by rw [upd_ne n1]; exact e
theorem Kp.at_g : Kp d g H (upd H g o) := fun a u _ n2 e => by rw [upd_ne n2]; exact e
end

/-! ## the draws' state -/
def kG : Key := Sum.inr ("great" : Str)
def kC : Key := Sum.inr ("cells" : Str)
def kL : Key := Sum.inr ("left" : Str)
def kT : Key := Sum.inr ("turn" : Str)
def dk (g c : Addr) (l t : Int) : List (Key × V) := [(kG, .ref g), (kC, .ref c), (kL, .int l), (kT, .int t)]
section
variable {g c : Addr} {l t z : Int} {H : Hp} {d : Addr}
theorem nGC : ¬ kG = kC := by decide +kernel
theorem nGL : ¬ kG = kL := by decide +kernel
theorem nGT : ¬ kG = kT := by decide +kernel
theorem nCL : ¬ kC = kL := by decide +kernel
theorem nCT : ¬ kC = kT := by decide +kernel
theorem nLT : ¬ kL = kT := by decide +kernel
theorem dk_g : valV (dk g c l t) kG = some (.ref g) := valV_pos rfl
theorem dk_c : valV (dk g c l t) kC = some (.ref c) := (valV_neg nGC).trans (valV_pos rfl)
theorem dk_l : valV (dk g c l t) kL = some (.int l) := (valV_neg nGL).trans ((valV_neg nCL).trans (valV_pos rfl))
theorem dk_t : valV (dk g c l t) kT = some (.int t) := (valV_neg nGT).trans ((valV_neg nCT).trans ((valV_neg nLT).trans (valV_pos rfl)))
theorem get_g (h : H d = some (.dK (dk g c l t))) : DGet H d (.str "great") (some (.ref g)) := by
  rw [← dk_g (g := g) (c := c) (l := l) (t := t)]
  exact DGet.k (k := kG) h
theorem get_c (h : H d = some (.dK (dk g c l t))) : DGet H d (.str "cells") (some (.ref c)) := by
  rw [← dk_c (g := g) (c := c) (l := l) (t := t)]
  exact DGet.k (k := kC) h
theorem get_l (h : H d = some (.dK (dk g c l t))) : DGet H d (.str "left") (some (.int l)) := by
  rw [← dk_l (g := g) (c := c) (l := l) (t := t)]
  exact DGet.k (k := kL) h
theorem get_t (h : H d = some (.dK (dk g c l t))) : DGet H d (.str "turn") (some (.int t)) := by
  rw [← dk_t (g := g) (c := c) (l := l) (t := t)]
  exact DGet.k (k := kT) h
theorem put_dk_l : putK (dk g c l t) kL (.int z) = dk g c z t := by
  unfold putK dk
  simp [nGL, nCL, Ne.symm nLT, (show ¬ kT = kL from fun e => nLT e.symm)]
theorem put_dk_t : putK (dk g c l t) kT (.int z) = dk g c l z := by
  unfold putK dk
  simp [nGT, nCT, nLT]
theorem put_l (h : H d = some (.dK (dk g c l t))) : DPut H d (.str "left") (.int z) (upd H d (.dK (dk g c z t))) := by
  rw [← put_dk_l (l := l)]
  exact DPut.k (k := kL) h (by show 4 < sizeLine; decide)
theorem put_t (h : H d = some (.dK (dk g c l t))) : DPut H d (.str "turn") (.int z) (upd H d (.dK (dk g c l z))) := by
  rw [← put_dk_t (t := t)]
  exact DPut.k (k := kT) h (by show 4 < sizeLine; decide)
theorem merge_dk : mergeK [] (dk g c l t) = dk g c l t := by
  have e1 : putK [] kG (.ref g) = [(kG, V.ref g)] := rfl
  have e2 : putK [(kG, V.ref g)] kC (.ref c) = [(kG, V.ref g), (kC, V.ref c)] := by unfold putK; simp [nGC]
  have e3 : putK [(kG, V.ref g), (kC, V.ref c)] kL (.int l) = [(kG, V.ref g), (kC, V.ref c), (kL, V.int l)] := by unfold putK; simp [nGL, nCL]
  have e4 : putK [(kG, V.ref g), (kC, V.ref c), (kL, V.int l)] kT (.int t) = [(kG, V.ref g), (kC, V.ref c), (kL, V.int l), (kT, V.int t)] := by unfold putK; simp [nGT, nCT, nLT]
  unfold mergeK dk
  simp only [List.foldl_cons, List.foldl_nil, e1, e2, e3, e4]
end
/-- the draws' dict at d, its lists at g and c; at most b turns were mixed -/
structure Dw (ns : List Int) (d g c : Addr) (b : Nat) (H : Hp) : Prop where
  st : ∃ (gs : List Int) (l t : Int), H d = some (.dK (dk g c l t)) ∧ H g = some (.lst (gs.map V.int)) ∧ 0 ≤ t ∧ t ≤ b
  cl : H c = some (.lst (ns.map V.int))
  ncd : c ≠ d
  ncg : c ≠ g
section
variable {ns : List Int} {d g c p : Addr} {b b' : Nat} {H H' : Hp} {o : HO}
theorem Dw.mono (h : Dw ns d g c b H) (k : b ≤ b') : Dw ns d g c b' H := by
  obtain ⟨⟨gs, l, t, h1, h2, h3, h4⟩, h5, h6, h7⟩ := h
  exact ⟨⟨gs, l, t, h1, h2, h3, by omega⟩, h5, h6, h7⟩
/-- what is new leaves them -/
theorem Dw.keep (h : Dw ns d g c b H) (k : ∀ a o, H a = some o → H' a = some o) : Dw ns d g c b H' := by
  obtain ⟨⟨gs, l, t, h1, h2, h3, h4⟩, h5, h6, h7⟩ := h
  exact ⟨⟨gs, l, t, k _ _ h1, k _ _ h2, h3, h4⟩, k _ _ h5, h6, h7⟩
theorem Dw.new (h : Dw ns d g c b H) (hp : H p = none) : Dw ns d g c b (upd H p o) := h.keep fun a u e => new_same hp a u e
theorem Dw.nd (h : Dw ns d g c b H) (hp : H p = none) : p ≠ d := by
  obtain ⟨⟨gs, l, t, h1, h2, h3, h4⟩, h5, h6, h7⟩ := h
  exact fun e => ne_of_none h1 hp e.symm
theorem Dw.ng (h : Dw ns d g c b H) (hp : H p = none) : p ≠ g := by
  obtain ⟨⟨gs, l, t, h1, h2, h3, h4⟩, h5, h6, h7⟩ := h
  exact fun e => ne_of_none h2 hp e.symm
theorem Dw.some (h : Dw ns d g c b H) : (∃ o, H d = some o) ∧ ∃ o, H g = some o := by
  obtain ⟨⟨gs, l, t, h1, h2, h3, h4⟩, h5, h6, h7⟩ := h
  exact ⟨⟨_, h1⟩, ⟨_, h2⟩⟩
/-- what is new behind a draw was new ahead of it -/
theorem Dw.free (h : Dw ns d g c b H) (h' : Dw ns d g c b' H') (k : Kp d g H H') (hp : H' p = none) : H p = none := by
  cases e : H p with
  | none => rfl
  | some u =>
    have q := k p u (h'.nd hp) (h'.ng hp) e
    rw [hp] at q
    cases q
theorem Dw.put (h : Dw ns d g c b H) (hp : H p = Option.some u) (n1 : p ≠ d) (n2 : p ≠ g) (n3 : p ≠ c) : Dw ns d g c b (upd H p o) := by
  obtain ⟨⟨gs, l, t, h1, h2, h3, h4⟩, h5, h6, h7⟩ := h
  exact ⟨⟨gs, l, t, by rw [upd_ne n1.symm]; exact h1, by rw [upd_ne n2.symm]; exact h2, h3, h4⟩, by rw [upd_ne n3.symm]; exact h5, h6, h7⟩
end
/-! ## small words of arithmetic -/
theorem fmod_lo {a b : Int} (h : 0 < b) : 0 ≤ a.fmod b := by rw [Int.fmod_eq_emod_of_nonneg a (by omega)]; exact Int.emod_nonneg a (by omega)
theorem fmod_hi {a b : Int} (h : 0 < b) : a.fmod b < b := by rw [Int.fmod_eq_emod_of_nonneg a (by omega)]; exact Int.emod_lt_of_pos a h
theorem at_int {xs : List V} {r : Int} (h0 : 0 ≤ r) (h1 : r < (xs.length : Int)) : ∃ v, atI xs r = some v ∧ v ∈ xs := by
  have k : r.toNat < xs.length := by omega
  have e : r = ((r.toNat : Nat) : Int) := by omega
  have q : atI xs ((r.toNat : Nat) : Int) = some xs[r.toNat] := atI_nat (List.getElem?_eq_getElem k)
  rw [← e] at q
  exact ⟨_, q, List.getElem_mem k⟩
/-! ## lists of flat data, by == -/
section
variable {K : PySem.W.Frag} {H : Hp}
theorem dp_ints : ∀ ns : List Int, DpAll K H (ns.map V.int) (ns.map PyData.int)
  | [] => .nil
  | n :: r => .cons (.int n) (dp_ints r)
theorem dp_bools : ∀ ns : List Bool, DpAll K H (ns.map V.bl) (ns.map PyData.bool)
  | [] => .nil
  | n :: r => .cons (.bl n) (dp_bools r)
theorem dp_strs : ∀ ns : List Str, DpAll K H (ns.map V.str) (ns.map PyData.str)
  | [] => .nil
  | n :: r => .cons (.str n) (dp_strs r)
/-- no list, tuple or dict -/
def flatD : PyData → Bool
  | .none => true
  | .bool _ => true
  | .int _ => true
  | .str x => PyData.strOk x
  | _ => false
theorem lay_flat {x : PyData} (h : flatD x = true) : x.canLay0 = true ∧ x.depth ≤ 1 := by
  cases x with
  | none => constructor <;> simp [PyData.canLay0, PyData.depth]
  | bool _ => constructor <;> simp [PyData.canLay0, PyData.depth]
  | int _ => constructor <;> simp [PyData.canLay0, PyData.depth]
  | str x =>
    have h' : PyData.strOk x = true := h
    constructor <;> simp [PyData.canLay0, PyData.depth, h']
  | list _ => cases h
  | tuple _ => cases h
  | dict _ => cases h
theorem lay_flats : ∀ {ds : List PyData}, (∀ x ∈ ds, flatD x = true) → PyData.canLayAll0 ds = true ∧ PyData.depthAll ds ≤ 1
  | [], _ => by constructor <;> simp [PyData.canLayAll0, PyData.depthAll]
  | x :: r, h => by
    obtain ⟨a1, a2⟩ := lay_flat (h x (List.mem_cons_self ..))
    obtain ⟨b1, b2⟩ := lay_flats (ds := r) fun y hy => h y (List.mem_cons_of_mem _ hy)
    constructor
    · simp [PyData.canLayAll0, a1, b1]
    · simp only [PyData.depthAll]
      omega
theorem shaped_flats {ds : List PyData} (h : ∀ x ∈ ds, flatD x = true) : SeqAt.shaped (.list ds) = true := by
  obtain ⟨b1, b2⟩ := lay_flats h
  have e : PyData.depth (.list ds) = PyData.depthAll ds + 1 := by simp only [PyData.depth]
  unfold SeqAt.shaped
  rw [e]
  simp only [PyData.canLay0, b1, Bool.true_and, decide_eq_true_eq]
  omega
theorem shaped_ints (ns : List Int) : SeqAt.shaped (.list (ns.map PyData.int)) = true := shaped_flats fun x hx => by
  obtain ⟨n, _, rfl⟩ := List.mem_map.mp hx
  rfl
theorem shaped_bools (ns : List Bool) : SeqAt.shaped (.list (ns.map PyData.bool)) = true := shaped_flats fun x hx => by
  obtain ⟨n, _, rfl⟩ := List.mem_map.mp hx
  rfl
theorem shaped_strs {ns : List Str} (h : ∀ x ∈ ns, PyData.strOk x = true) : SeqAt.shaped (.list (ns.map PyData.str)) = true := shaped_flats fun x hx => by
  obtain ⟨n, hn, rfl⟩ := List.mem_map.mp hx
  exact h n hn
theorem shaped_nil : SeqAt.shaped (.list []) = true := shaped_flats fun x hx => by cases hx
theorem eqv_nil {ds : List PyData} : PyData.eqv (.list ds) (.list []) = ds.isEmpty := by
  cases ds <;> simp [PyData.eqv, PyData.eqvAll]
theorem eqv_bools : ∀ xs ys : List Bool, PyData.eqvAll (xs.map PyData.bool) (ys.map PyData.bool) = decide (xs = ys)
  | [], [] => by simp [PyData.eqvAll]
  | [], _ :: _ => by simp [PyData.eqvAll]
  | _ :: _, [] => by simp [PyData.eqvAll]
  | x :: xs, y :: ys => by
    simp only [List.map_cons, PyData.eqvAll, PyData.eqv, eqv_bools xs ys]
    by_cases h : x = y <;> by_cases k : xs = ys <;> simp [h, k]
end
end Gn

set_option Elab.async false
set_option linter.all false
set_option maxRecDepth 100000
set_option maxHeartbeats 4000000
namespace Lw
open PySem PySem.Spec PyProof.Rows L2 Gn
def top (i : Nat) : Stmt := PySem.Challenge.pw_hearpurse_k27_spenders_made.main.body.getD i (.Pass ⟨0, 0, 0, 0⟩)
abbrev sWall : Stmt := top 0
abbrev sInt : Stmt := top 13
abbrev sName : Stmt := top 14
abbrev sAmount : Stmt := top 15
abbrev sIsPlace : Stmt := top 22
abbrev sIsPart : Stmt := top 23
abbrev sIsFact : Stmt := top 24
abbrev sSupposedRows : Stmt := top 25
abbrev sContradicts : Stmt := top 26
abbrev sSlot : Stmt := top 27
abbrev sTotalsOf : Stmt := top 29
abbrev sGrants : Stmt := top 30
abbrev sCountedClaim : Stmt := top 34
abbrev sCountsRequest : Stmt := top 35
abbrev sEntitlementBy : Stmt := top 36
abbrev sConsents : Stmt := top 37
abbrev sCheckPlace : Stmt := top 40
abbrev sTwinOf : Stmt := top 42
abbrev sIsOwn : Stmt := top 44
abbrev sRow : Stmt := top 47
abbrev sWrong : Stmt := top 48
abbrev sBegun : Stmt := top 51
abbrev sMixed : Stmt := top 52
abbrev sTake : Stmt := top 53
abbrev sPick : Stmt := top 54
abbrev sWords : Stmt := top 55
abbrev sForest : Stmt := top 56
abbrev sLFact : Stmt := top 57
abbrev sLIsNumber : Stmt := top 58
abbrev sLIsFact : Stmt := top 59
abbrev sLRefusal : Stmt := top 60
abbrev sLStands : Stmt := top 61
abbrev sLaw : Stmt := top 62
def cBody : Stmt → List Stmt
  | .ClassDef (body := b) .. => b
  | _ => []
def meth (i : Nat) : Stmt := (cBody (top 49)).getD i (.Pass ⟨0, 0, 0, 0⟩)
abbrev sInit : Stmt := meth 1
abbrev sEq : Stmt := meth 2
abbrev sNames : Stmt := meth 3
abbrev sText : Stmt := meth 4
abbrev sAnc : Stmt := meth 5
abbrev sSub : Stmt := meth 6
abbrev sParse : Stmt := meth 7
section
variable {P : Program} {w : World} {K : PySem.W.Frag} {mg : Str → Option Value} {base : Heap}
/-! ### _law_mixed -/
def spMixed (ns : List Int) : Sp := fun vs H Q _ => ∃ (d g c : Addr) (b : Nat), vs = [.ref d] ∧ Dw ns d g c b H ∧ b ≤ 1000000000 ∧
  ∀ (r : Int) (H' : Hp), Dw ns d g c (b + 1) H' → Kp d g H H' → Q (.int r) H'
theorem scMixed : FnScope ["_law_state", "_law_found", "_law_prime", "_law_blend", "_law_cell"] ["_law_state"] (defScope sMixed) := ⟨rfl, rfl, rfl, by decide +kernel, rfl, by decide +kernel, by decide +kernel⟩
def primes : List Int := [2147483629, 2147483587, 2147483579, 2147483563, 2147483549, 2147483543]
theorem prime_of {p : Int} (h : p ∈ primes) : 2000000000 < p ∧ p < 2147483648 := by
  unfold primes at h
  simp only [List.mem_cons, List.not_mem_nil, or_false] at h
  omega
theorem ok_mixed {f : Addr} {fd : FuncData} (ns : List Int) (F : Fun K "_law_mixed" "_law_mixed" sMixed f fd) : FnOk P w K mg base CX0 1 f fd ["_law_state"] (spMixed ns) := by
  refine F.ok scMixed (fun vs H Q E h => ?_) (fun cdv A outer s H vs Q E hr h => ?_)
  · obtain ⟨d, g, c, b, rfl, _⟩ := h
    rfl
  · obtain ⟨d, g, c, b, rfl, D, hb, k⟩ := h
    have hu := hu_of hr
    have nd := scMixed.nd
    refine ⟨_, pss_cons (ps_dput hu (pv 0) pe_str (pe_op op_add (pe_dget hu (pv 0) pe_str (fun _ _ => rfl)) pe_int) rfl)
      (pss_cons (ps_set (i := 1) nd rfl (.inl rfl) pe_int)
      (pss_cons (ps_for PassesOwn.never rfl (pi_list (pe_lst (pa_cons pe_int (pa_cons pe_int (pa_cons pe_int (pa_cons pe_int (pa_cons pe_int (pa_cons pe_int pa_nil)))))))) (pg_name (i := 2) nd rfl (.inl rfl))
        (pss_cons (ps_set (i := 3) nd rfl (.inl rfl) (pe_op op_add (pe_op op_mul pe_int (pe_dget hu (pv 0) pe_str (fun _ _ => rfl))) (pe_op op_fdivN (pv 2) pe_int)))
        (pss_cons (ps_for PassesOwn.never rfl (pi_list (pe_dget hu (pv 0) pe_str (fun _ _ => rfl))) (pg_name (i := 4) nd rfl (.inl rfl))
          (pss_one (ps_set (i := 3) nd rfl (.inl rfl) (pe_op op_modN (pe_op op_add (pe_op op_mul (pv 3) pe_int) (pv 4)) (pv 2)))))
        (pss_one (ps_set (i := 1) nd rfl (.inl rfl) (pe_op op_add (pe_op op_mul (pv 1) pe_int) (pe_op op_modN (pe_op op_pow (pv 3) pe_int) (pv 2))))))))
      (pss_one (ps_ret (pv 1))))), ?_⟩
    obtain ⟨⟨gs, l, t, hd, hg, t0, tb⟩, hc, ncd, ncg⟩ := id D
    have ndg : g ≠ d := ne_of hg hd (by intro z; cases z)
    refine ⟨_, rfl, d, _, rfl, get_t hd, t, 1, rfl, rfl, _, rfl, d, _, rfl, put_t hd, ?_⟩
    generalize hH1 : upd H d (.dK (dk g c l (t + 1))) = H1
    have hd1 : H1 d = some (.dK (dk g c l (t + 1))) := by rw [← hH1, upd_same]
    have hg1 : H1 g = some (.lst (gs.map V.int)) := by rw [← hH1, upd_ne ndg]; exact hg
    have hc1 : H1 c = some (.lst (ns.map V.int)) := by rw [← hH1, upd_ne ncd]; exact hc
    have k1 : Kp d g H H1 := by rw [← hH1]; exact Kp.at_d
    refine ⟨by show 6 ≤ sizeLine; decide, fun p hp => ?_⟩
    have hd2 := new_same (o := .lst (primes.map V.int)) hp _ _ hd1
    have hg2 := new_same (o := .lst (primes.map V.int)) hp _ _ hg1
    have hc2 := new_same (o := .lst (primes.map V.int)) hp _ _ hc1
    refine ⟨p, rfl, ⟨_, SqL.of upd_same⟩, for_list (K := K) (a := p) (xs := primes.map V.int) (fun i σ H' => H' = upd H1 p (.lst (primes.map V.int)) ∧ ∃ (f : Int) (v2 v3 v4 : Option V), σ = [some (.ref d), some (.int f), v2, v3, v4])
      ⟨rfl, 0, none, none, none, rfl⟩ (fun i σ H' _ ⟨e, _⟩ => by rw [e]; exact SqL.of upd_same) ?_ ?_⟩
    · rintro i x σ H' hx ⟨rfl, f, v2, v3, v4, rfl⟩
      obtain ⟨pr, hpr, rfl⟩ : ∃ z : Int, z ∈ primes ∧ x = V.int z := by
        obtain ⟨z, hz, e⟩ := List.mem_map.mp (List.mem_of_getElem? hx)
        exact ⟨z, hz, e.symm⟩
      obtain ⟨p1, p2⟩ := prime_of hpr
      refine ⟨_, rfl, d, _, rfl, get_t hd2, 69997, t + 1, rfl, rfl, .inl ⟨by decide, by decide⟩, _, rfl, pr, 11, rfl, rfl, ⟨by decide, by decide⟩, _, _, rfl, rfl, ?_⟩
      have q0 : 0 ≤ pr.fdiv 11 ∧ pr.fdiv 11 < 2147483648 := by
        rw [Int.fdiv_eq_ediv_of_nonneg pr (by decide)]
        omega
      refine ⟨_, rfl, d, _, rfl, get_c hd2, c, rfl, ⟨_, SqL.of hc2⟩, for_list (K := K) (a := c) (xs := ns.map V.int) (fun i σ H' => H' = upd H1 p (.lst (primes.map V.int)) ∧ ∃ (y : Int) (v4 : Option V), y.natAbs < 2 ^ 64 ∧ σ = [some (.ref d), some (.int f), some (.int pr), some (.int y), v4])
        ⟨rfl, _, v4, ?_, rfl⟩ (fun i σ H' _ ⟨e, _⟩ => by rw [e]; exact SqL.of hc2) ?_ ?_⟩
      · omega
      · rintro j x σ H' hx ⟨rfl, y, v4, hy, rfl⟩
        obtain ⟨z, rfl⟩ : ∃ z : Int, x = V.int z := by
          obtain ⟨z, hz, e⟩ := List.mem_map.mp (List.mem_of_getElem? hx)
          exact ⟨z, e.symm⟩
        refine ⟨_, rfl, y, 48271, rfl, rfl, .inr ⟨by decide, by decide⟩, _, rfl, _, z, rfl, rfl, _, rfl, _, pr, rfl, rfl, (by omega), ?_⟩
        have r1 := fmod_lo (a := y * 48271 + z) (b := pr) (by omega)
        have r2 := fmod_hi (a := y * 48271 + z) (b := pr) (by omega)
        exact ⟨rfl, _, some (.int z), by omega, rfl⟩
      · rintro σ H' ⟨rfl, y, v4, hy, rfl⟩
        refine ⟨_, rfl, f, 2147483647, rfl, rfl, .inr ⟨by decide, by decide⟩, _, rfl, y, 5, rfl, rfl, ⟨by decide, by decide, hy⟩, _, rfl, _, pr, rfl, rfl, (by omega), _, _, rfl, rfl, ?_⟩
        exact ⟨rfl, _, some (.int pr), some (.int y), v4, rfl⟩
    · rintro σ H' ⟨rfl, f, v2, v3, v4, rfl⟩
      refine ⟨_, rfl, ?_⟩
      refine k f _ ⟨⟨gs, l, t + 1, hd2, hg2, by omega, by omega⟩, hc2, ncd, ncg⟩ (k1.trans (Kp.new hp))
theorem z60 {z : Int} (h : z ≤ 10000000000000) (h0 : 0 < z := by assumption) : z.natAbs < 2 ^ 60 := by
  have : (2 : Nat) ^ 60 = 1152921504606846976 := by decide
  rw [this]
  omega
/-! ### _law_take -/
def spTake (ns : List Int) : Sp := fun vs H Q _ => ∃ (d g c : Addr) (b : Nat) (z : Int), vs = [.ref d, .int z] ∧ Dw ns d g c b H ∧ b ≤ 1000000000 ∧ 0 < z ∧ z ≤ 10000000000000 ∧
  ∀ (r : Int) (H' : Hp), 0 ≤ r → r < z → Dw ns d g c (b + 1) H' → Kp d g H H' → Q (.int r) H'
theorem scTake : FnScope ["_law_state", "_law_size", "_law_found"] ["_law_state", "_law_size"] (defScope sTake) := ⟨rfl, rfl, rfl, by decide +kernel, rfl, by decide +kernel, by decide +kernel⟩
theorem ok_take {f fM : Addr} {fd fdM : FuncData} (ns : List Int) (F : Fun K "_law_take" "_law_take" sTake f fd) (GM : FnOk P w K mg base CX0 1 fM fdM ["_law_state"] (spMixed ns)) (bM : Binds K fdM ["_law_state"] []) (kM : PySem.W.keepIn K (.ref fM) = true) (mM : mg "_law_mixed" = some (.ref fM)) :
    FnOk P w K mg base CX0 2 f fd ["_law_state", "_law_size"] (spTake ns) := by
  refine F.ok scTake (fun vs H Q E h => ?_) (fun cdv A outer s H vs Q E hr h => ?_)
  · obtain ⟨d, g, c, b, z, rfl, _⟩ := h
    rfl
  · obtain ⟨d, g, c, b, z, rfl, D, hb, z0, z1, k⟩ := h
    have hu := hu_of hr
    have nd := scTake.nd
    refine ⟨_, pss_cons (ps_if (pt_cmpR op_eq (pe_dget hu (pv 0) pe_str (fun _ _ => rfl)) pe_int (nomark _))
        (pss_one (ps_dput hu (pv 0) pe_str (pe_ifExp (pt_cmpR (op_neD hr.units) (pe_dget hu (pv 0) pe_str (fun _ _ => rfl)) (pe_lst pa_nil) (nomark _))
          (pe_bm PySem.F.plainAttrs_list PySem.F.slot_list_pop PySem.F.type_list_pop mt_popAt (pe_dget hu (pv 0) pe_str (fun _ _ => rfl)) (pa_cons pe_int pa_nil))
          (pe_call GM hr rfl mM kM bM .nil pass0 (pa_cons (pv 0) pa_nil))) rfl)) pss_nil)
      (pss_cons (ps_set (i := 2) nd rfl (.inl rfl) (pe_op op_modN (pe_dget hu (pv 0) pe_str (fun _ _ => rfl)) (pv 1)))
      (pss_cons (ps_dput hu (pv 0) pe_str (pe_op op_fdivW (pe_dget hu (pv 0) pe_str (fun _ _ => rfl)) (pv 1)) rfl)
      (pss_one (ps_ret (pv 2))))), ?_⟩
    -- behind the if: the state with a number left
    have tail : ∀ (H1 : Hp), Dw ns d g c (b + 1) H1 → Kp d g H H1 → tSeq (tAsg (tOp (rI (fun _ j => j ≠ 0) fun i j => .int (i.fmod j)) (tDGet (tVar 0) (tC (.str "left"))) (tVar 1)) (gName 2))
        (tSeq (sDPut (tVar 0) (tC (.str "left")) (tOp (rI CDivW fun i j => .int (i / j)) (tDGet (tVar 0) (tC (.str "left"))) (tVar 1))) (tRet (tVar 2))) { nx := fun _ H' => Q .non H', rt := Q } [some (.ref d), some (.int z), none] H1 := by
      intro H1 D1 k1
      obtain ⟨⟨gs, l, t, hd, hg, t0, tb⟩, hc, ncd, ncg⟩ := id D1
      have ndg : g ≠ d := ne_of hg hd (by intro z; cases z)
      refine ⟨_, rfl, d, _, rfl, get_l hd, _, rfl, l, z, rfl, rfl, (by omega), ?_⟩
      refine ⟨_, rfl, d, _, rfl, get_l hd, _, rfl, l, z, rfl, rfl, wide_div (b := 60) z0 (z60 z1) (by decide) (by decide), _, rfl, d, _, rfl, put_l hd, _, rfl, ?_⟩
      refine k _ _ (fmod_lo z0) (fmod_hi z0) ⟨⟨gs, _, t, upd_same, by rw [upd_ne ndg]; exact hg, t0, tb⟩, by rw [upd_ne ncd]; exact hc, ncd, ncg⟩ (k1.trans Kp.at_d)
    obtain ⟨⟨gs, l, t, hd, hg, t0, tb⟩, hc, ncd, ncg⟩ := id D
    have ndg : g ≠ d := ne_of hg hd (by intro z; cases z)
    refine ⟨_, rfl, d, _, rfl, get_l hd, rfl, _, rfl, ?_⟩
    refine ite2 (fun e => ?_) (fun e => tail H (D.mono (by omega)) Kp.refl)
    refine ⟨_, rfl, d, _, rfl, get_g hd, by show 0 ≤ sizeLine; decide, fun p hp => ?_⟩
    have hd1 := new_same (o := .lst []) hp _ _ hd
    have hg1 := new_same (o := .lst []) hp _ _ hg
    have hc1 := new_same (o := .lst []) hp _ _ hc
    refine ⟨_, _, .lst (SqL.of hg1) (dp_ints gs), .lst (SqL.of upd_same) .nil, shaped_ints gs, shaped_nil, _, rfl, ?_⟩
    rw [eqv_nil]
    cases gs with
    | nil =>
      refine iteF ?_
      refine ⟨_, rfl, d, g, c, b, rfl, D.new hp, hb, fun r H' D' k' => ?_⟩
      obtain ⟨⟨gs, l, t, hd', hg', t0, tb⟩, hc', ncd, ncg⟩ := id D'
      have ndg : g ≠ d := ne_of hg' hd' (by intro z; cases z)
      refine ⟨_, rfl, d, _, rfl, put_l hd', ?_⟩
      exact tail _ ⟨⟨gs, _, t, upd_same, by rw [upd_ne ndg]; exact hg', t0, tb⟩, by rw [upd_ne ncd]; exact hc', ncd, ncg⟩ (((Kp.new hp).trans k').trans Kp.at_d)
    | cons n r =>
      refine iteT ?_
      refine ⟨_, rfl, d, _, rfl, get_g hd1, .inl ⟨rfl, _, SqL.of hg1⟩, g, _, 0, 0, _, rfl, rfl, hg1, by decide, by decide, (ixN_seq (n := (List.map V.int (n :: r)).length) (i := 0) (j := 0) (by simp [ixN])).1, rfl, ?_⟩
      refine ⟨_, rfl, d, _, rfl, put_l (by rw [upd_ne ndg.symm]; exact hd1), ?_⟩
      refine tail _ ⟨⟨r, _, t, upd_same, by rw [upd_ne ndg, upd_same]; rfl, t0, by omega⟩, by rw [upd_ne ncd, upd_ne ncg]; exact hc1, ncd, ncg⟩ (((Kp.new hp).trans Kp.at_g).trans Kp.at_d)
/-! ### _law_pick, out of a list and out of a text -/
theorem scPick : FnScope ["_law_state", "_law_some"] ["_law_state", "_law_some"] (defScope sPick) := ⟨rfl, rfl, rfl, by decide +kernel, rfl, by decide +kernel, by decide +kernel⟩
/-- one of the items of a list, or one sign of a text -/
def spPick (K : PySem.W.Frag) (ns : List Int) : Sp := fun vs H Q _ => ∃ (d g c : Addr) (b : Nat), Dw ns d g c b H ∧ b ≤ 1000000000 ∧
  ((∃ (a : Addr) (xs : List V), vs = [.ref d, .ref a] ∧ H a = some (.lst xs) ∧ a ≠ d ∧ a ≠ g ∧ 0 < xs.length ∧ xs.length ≤ 1000000 ∧
    ∀ (x : V) (H' : Hp), x ∈ xs → Dw ns d g c (b + 1) H' → Kp d g H H' → Q x H') ∨
   (∃ z : Str, vs = [.ref d, .str z] ∧ 0 < z.length ∧ z.length ≤ 1000000 ∧ ∀ (x : Nat) (H' : Hp), x ∈ z.cps.toList → Dw ns d g c (b + 1) H' → Kp d g H H' → Q (.str ⟨#[x]⟩) H'))
theorem ok_pick {f fT : Addr} {fd fdT : FuncData} (ns : List Int) (F : Fun K "_law_pick" "_law_pick" sPick f fd) (GT : FnOk P w K mg base CX0 2 fT fdT ["_law_state", "_law_size"] (spTake ns)) (bT : Binds K fdT ["_law_state", "_law_size"] []) (kT : PySem.W.keepIn K (.ref fT) = true) (mT : mg "_law_take" = some (.ref fT))
    (ml : mg "len" = none) : FnOk P w K mg base CX0 3 f fd ["_law_state", "_law_some"] (spPick K ns) := by
  refine F.ok scPick (fun vs H Q E h => ?_) (fun cdv A outer s H vs Q E hr h => ?_)
  · obtain ⟨d, g, c, b, D, hb, ⟨a, xs, rfl, _⟩ | ⟨z, rfl, _⟩⟩ := h <;> rfl
  · obtain ⟨d, g, c, b, D, hb, h⟩ := h
    have hu := hu_of hr
    have nd := scPick.nd
    refine ⟨_, pss_one (ps_ret (pe_ix ix_seq (pv 1) (pe_call GT hr rfl mT kT bT .nil pass0 (pa_cons (pv 0) (pa_cons (pe_callB call_len rfl ml PySem.boot_len (pa_cons (pv 1) pa_nil)) pa_nil))) (fun _ _ => rfl))), ?_⟩
    rcases h with ⟨a, xs, rfl, ha, nad, nag, h0, h1, k⟩ | ⟨z, rfl, h0, h1, k⟩
    · refine ⟨_, rfl, _, rfl, _, rfl, _, _, rfl, .inl ⟨_, SqL.of ha, rfl⟩, d, g, c, b, _, rfl, D, hb, by omega, by omega, fun r H' r0 r1 D' k' => ?_⟩
      obtain ⟨v, hv, hm⟩ := at_int r0 r1
      exact .inl ⟨a, xs, r, v, rfl, rfl, SqL.of (k' a _ nad nag ha), hv, k v H' hm D' k'⟩
    · refine ⟨_, rfl, _, rfl, _, rfl, _, _, rfl, ⟨by rw [sizeLine_eq]; omega, rfl⟩, d, g, c, b, _, rfl, D, hb, by omega, by omega, fun r H' r0 r1 D' k' => ?_⟩
      have e : r = ((r.toNat : Nat) : Int) := by omega
      have hl : r.toNat < z.cps.toList.length := by
        have : z.cps.toList.length = z.length := by simp [Str.length]
        omega
      have q : atI z.cps.toList ((r.toNat : Nat) : Int) = some z.cps.toList[r.toNat] := atI_nat (List.getElem?_eq_getElem hl)
      rw [← e] at q
      exact .inr (.inr ⟨z, r, _, rfl, rfl, by rw [sizeLine_eq]; omega, q, k _ H' (List.getElem_mem hl) D' k'⟩)
/-! ### _law_begun -/
def spBegun (K : PySem.W.Frag) (ns : List Int) : Sp := fun vs H Q _ => ∃ (a : Addr), vs = [.ref a] ∧ SqL K H a (ns.map V.int) ∧ ns.length ≤ 63 ∧
  ∀ (d g c : Addr) (H' : Hp), Dw ns d g c 0 H' → (∀ b o, H b = some o → H' b = some o) → H d = none → H g = none → H c = none → Q (.ref d) H'
theorem scBegun : FnScope ["_law_script", "_law_great", "_law_cell"] ["_law_script"] (defScope sBegun) := ⟨rfl, rfl, rfl, by decide +kernel, rfl, by decide +kernel, by decide +kernel⟩
theorem ok_begun {f : Addr} {fd : FuncData} (ns : List Int) (F : Fun K "_law_begun" "_law_begun" sBegun f fd) (mli : mg "list" = none) : FnOk P w K mg base CX0 1 f fd ["_law_script"] (spBegun K ns) := by
  refine F.ok scBegun (fun vs H Q E h => ?_) (fun cdv A outer s H vs Q E hr h => ?_)
  · obtain ⟨a, rfl, _⟩ := h
    rfl
  · obtain ⟨a, rfl, hS, hl, k⟩ := h
    have hu := hu_of hr
    have nd := scBegun.nd
    refine ⟨_, pss_cons (ps_setLc (i := 1) (own := [("_law_cell", 2)]) (g := gName 2) rfl nd rfl rfl (sw_true rfl rfl rfl (by decide +kernel)) (pi_list (pv 0)) (blkOk_by (N := ["_law_script", "_law_great", "_law_cell"]) (sc := defScope sBegun) (by decide +kernel))
        (fun _ _ _ _ _ => pg_name (i := 2) nd rfl (.inl rfl)) (fun _ _ _ _ _ => pts_one (pt_cmpR op_ge (pv 2) (pe_op op_pow pe_int pe_int) (nomark _))) (fun _ _ _ _ _ => pe_op op_sub (pv 2) (pe_op op_pow pe_int pe_int)))
      (pss_one (ps_ret (pe_disp (pps_cons pe_str (pv 1) (pps_cons pe_str (pe_callTy call_list_of rfl mli (by decide +kernel) (pa_cons (pv 0) pa_nil)) (pps_cons pe_str pe_int (pps_cons pe_str pe_int pps_nil)))) (by rfl) (by rfl) (fun z => by cases z) (by decide)))), ?_⟩
    have keep0 : ∀ {H' : Hp} {g : Addr} {o : HO}, (∀ b o, H b = some o → H' b = some o) → H g = none → ∀ b u, H b = some u → upd H' g o b = some u := fun {H' g o} s hg b u e => by
      rw [upd_ne (ne_of_none e hg)]
      exact s b u e
    refine ⟨_, rfl, a, rfl, ⟨_, hS⟩, fun g hg => ?_⟩
    refine lc_list (K := K) (a := a) (xs := ns.map V.int) (fun i H' => (∀ b o, H b = some o → H' b = some o) ∧ ∃ gs : List Int, gs.length ≤ i ∧ H' g = some (.lst (gs.map V.int)))
      ⟨fun b o e => new_same hg b o e, [], Nat.le_refl _, upd_same⟩ (fun i H' _ ⟨s, _⟩ => Same.seq s hS) ?_ ?_
    · rintro i x H' hx ⟨s5, gs, hgl, hg'⟩
      obtain ⟨z, rfl⟩ : ∃ z : Int, x = V.int z := by
        obtain ⟨z, hz, e⟩ := List.mem_map.mp (List.mem_of_getElem? hx)
        exact ⟨z, e.symm⟩
      have hi : i < ns.length := by
        have := (List.getElem?_eq_some_iff.mp hx).1
        rw [List.length_map] at this
        exact this
      refine ⟨rfl, _, rfl, 10, 18, rfl, rfl, ⟨by decide, by decide, by decide⟩, _, _, rfl, rfl, _, rfl, ?_⟩
      refine ite2 (fun _ => ?_) (fun _ => ?_)
      · refine ⟨_, rfl, 10, 18, rfl, rfl, ⟨by decide, by decide, by decide⟩, _, _, rfl, rfl, _, hg', small1000 (by rw [List.length_map]; omega), keep0 s5 hg, gs ++ [z - 10 ^ (18 : Int).toNat], by rw [List.length_append]; show gs.length + 1 ≤ i + 1; omega, ?_⟩
        rw [upd_same, List.map_append]
        rfl
      · exact ⟨s5, gs, by omega, hg'⟩
    · rintro H1 ⟨s1, gs, hgl, hg1⟩ d hd
      refine ⟨_, rfl, _, rfl, a, _, rfl, .inl (Same.seq (new_same hd) (Same.seq s1 hS)), fun c hc => ?_⟩
      have ndc : c ≠ d := fun e => by rw [e, upd_same] at hc; cases hc
      have hd2 : (upd (upd H1 d (.dK [])) c (.lst (ns.map V.int))) d = some (.dK []) := by rw [upd_ne ndc.symm, upd_same]
      refine ⟨hd2, dk g c 0 0, rfl, (by show 4 ≤ 15; decide), ?_⟩
      rw [merge_dk]
      have ngd : g ≠ d := fun e => by rw [← e, hg1] at hd; cases hd
      have hg2 : upd H1 d (.dK []) g = some (.lst (gs.map V.int)) := by rw [upd_ne ngd]; exact hg1
      have ngc : g ≠ c := fun e => by rw [← e, hg2] at hc; cases hc
      have H1d : H d = none := by
        cases e : H d with
        | none => rfl
        | some u => rw [s1 d u e] at hd; cases hd
      have H1c : H c = none := by
        cases e : H c with
        | none => rfl
        | some u => rw [new_same hd c u (s1 c u e)] at hc; cases hc
      refine k d g c _ ⟨⟨gs, 0, 0, upd_same, by rw [upd_ne ngd, upd_ne ngc]; exact hg2, by omega, by omega⟩, by rw [upd_ne ndc, upd_same], ndc, ngc.symm⟩ (fun b o e => ?_) H1d hg H1c
      rw [upd_ne (ne_of_none e H1d), upd_ne (ne_of_none e H1c), upd_ne (ne_of_none e H1d)]
      exact s1 b o e
end
end Lw

set_option Elab.async false
set_option linter.all false
set_option maxRecDepth 100000
set_option maxHeartbeats 4000000
/-! a law's own body, run by the caller that the row names: what is around it is known there -/
namespace Ge
open PySem PySem.Spec PyProof.Rows L2 Gn
/-- what is known where a law's own body runs -/
structure Bed (K : PySem.W.Frag) (mg : Str → Option Value) (base : Heap) (A : Around) : Prop where
  kin : K.In base
  glob : base.Ns mainGlobals mg
  sys : ∃ o, base.get? sysModules = some o
  gd : A.guards = some []
section
variable {P : Program} {w : World} {K : PySem.W.Frag} {mg : Str → Option Value} {base : Heap}
/-- one call of a def of the text, by its body, at one place -/
theorem call_here {x qual : Str} {st : Stmt} {f : Addr} {fd : FuncData} {N ps : List Str} {k : Nat} {A : Around} {outer : List Env} {s : Shared} {H : Hp} {vs : List V} {us : List Value} {Q : VK}
    (F : Fun K x qual st f fd) (S : FnScope N ps (defScope st)) (hr : Room (k + 1) A) (e0 : Env0 P w K mg base A outer s H) (hb : BindsTo s fd ⟨us, []⟩ (ps.zip us)) (hl : vs.length = ps.length) (r : Vals vs us)
    (body : ∀ cdv : Value, Room k (A.deeper (envOfC qual (defScope st) s.heap.objs.size f cdv)) →
      ∃ t, PSs (cxOf CX0 P w K mg base N qual (defScope st) f cdv A outer s H E0).nox (defBody st) t ∧ t { nx := fun _ H' => Q .non H', rt := Q } (start N vs) H) :
    codeAny (model P w) A (.call (.ref f) ⟨us, []⟩) (CR CX0 outer P w H s Q E0) s := by
  obtain ⟨oc, od, kV, doc, pm, an, cdv, ct, osl, rfl, lk, hcd⟩ := F.ex
  have old : ∀ b o, base.get? b = some o → s.heap.get? b = some o := fun b o e => (e0.bs b o e).1
  have KX : K.In s.heap := e0.mod.kin.keeps old
  obtain ⟨t, ht, hq⟩ := body cdv (hr.deeper _)
  refine codeAny_call_function hr.depth (KX _ _ lk) rfl S.co S.gen rfl (PySem.W.codeRec_of KX hcd) (hb _ _ _ _ ?_)
  refine wpAny_newFunctionEnv_cells S.kind (fun ⟨n, v⟩ hy => ?_) (fun env he s1 z => ?_)
  · cases S.par n (List.of_mem_zip hy).1 with
    | inl q => exact .inl q
    | inr q => exact .inr ⟨q, PySem.W.cellsFrom_some _ _ _ (.inl q)⟩
  · subst he
    refine ⟨(e0.mod.nolimit.keeps old).keeps z.toInCall.keep, codeAny_func ?_⟩
    have I : Inv (cxOf CX0 P w K mg base N qual (defScope st) f cdv A outer s H E0) [] (start N vs) H s1 := inv_start S hr.hd e0 hl r z
    refine wpAny_mono (ht.nox.run [] s1 (start N vs) H _ I hq) (fun fl s' hs => ?_) (fun e s' hs => hs)
    match fl, hs with
    | .ret u, ⟨v, σ', H', J, rv, q⟩ => exact ⟨v, H', J.os, J.bare, J.base, J.hok, rv, q⟩
    | .next, ⟨σ', H', J, q⟩ => exact ⟨.non, H', J.os, J.bare, J.base, J.hok, rfl, q⟩
    | .brk, ⟨_, _, _, q⟩ => exact q.elim
    | .cont, ⟨_, _, _, q⟩ => exact q.elim
end
/-- nothing is tracked, or the script's list alone, as a thing that is only read -/
def Hs (a : Addr) (o : Obj) (xs : List V) : Hp := fun b => if b = a then some (.frz o (.lst xs)) else none
theorem hs_at {a : Addr} {o : Obj} {xs : List V} : Hs a o xs a = some (.frz o (.lst xs)) := if_pos rfl
theorem hs_no {a b : Addr} {o : Obj} {xs : List V} (h : b ≠ a) : Hs a o xs b = none := if_neg h
def H0 : Hp := fun _ => none
section
variable {P : Program} {w : World} {K : PySem.W.Frag} {mg mb : Str → Option Value} {s₁ : Shared} {a : Addr} {vs : List Value} {ns : List Int} {st : Stmt} {N : List Str} {x : Str} {k : Nat} {fa : Addr} {fd : FuncData}
/-- the state that the row's call begins with -/
theorem env_of {H : Hp} (KX : K.In s₁.heap) (hns : s₁.heap.Ns mainGlobals mg) (hb : s₁.heap.Ns builtinsNs mb) (hbb : ∀ x : Str, x ≠ "__name__" → mb x = bootBuiltins x) (hlim : s₁.heap.NoLimit) (hsee : ∃ mm, s₁.heap.Ns sysModules mm) (hg : s₁.gens = #[])
    (ha : s₁.heap.get? a = some { cls := .type "list", data := .seq vs.toArray }) (only : ∀ b, H b ≠ none → b = a) (hka : H a ≠ none → K.lookup a = none) (hok : HOk P w H s₁.heap) :
    Env0 P w K mg (hidT s₁.heap H) callerA [] s₁ H ∧ Bed K mg (hidT s₁.heap H) callerA := by
  have free : ∀ {b : Addr}, b ≠ a → H b = none := fun {b} n => by
    cases e : H b with
    | none => rfl
    | some u => exact absurd (only b (by rw [e]; simp)) n
  have keepNs : ∀ {b : Addr} {m : Str → Option Value}, s₁.heap.Ns b m → (hidT s₁.heap H).Ns b m := fun {b m} h => by
    obtain ⟨o, es, ep, e, dd, r⟩ := h
    refine ⟨o, es, ep, hidT_get e (free fun z => ?_), dd, r⟩
    subst z
    rw [ha] at e
    cases e
    cases dd
  have kIn : K.In (hidT s₁.heap H) := fun b o e => hidT_get (KX b o e) (by
    cases q : H b with
    | none => rfl
    | some u =>
      have z := only b (by rw [q]; simp)
      subst z
      rw [hka (by rw [q]; simp)] at e
      cases e)
  obtain ⟨mc, c1, c2⟩ := hlim
  obtain ⟨mm, o, es, ep, e1, e2, e3⟩ := hsee
  have sysf : H sysModules = none := free fun z => by
    subst z
    rw [ha] at e1
    cases e1
    cases e2
  refine ⟨⟨rfl, ⟨kIn, keepNs hns, ⟨mb, keepNs hb, hbb⟩, ⟨mc, keepNs c1, c2⟩⟩, fun b o e => of_hidT e, Nat.le_of_eq (hidT_size _ _), trivial, fun b z => absurd (show b ∈ ([] : List Addr) from z) (by simp), hok, .of_eq hg⟩, kIn, keepNs hns, ⟨o, hidT_get e1 sysf⟩, rfl⟩
/-- the law's call gives True, if its body does wherever it may run -/
theorem law_true (KX : K.In s₁.heap) (hns : s₁.heap.Ns mainGlobals mg) (hb : s₁.heap.Ns builtinsNs mb) (hbb : ∀ x : Str, x ≠ "__name__" → mb x = bootBuiltins x) (hlim : s₁.heap.NoLimit) (hsee : ∃ mm, s₁.heap.Ns sysModules mm) (hg : s₁.gens = #[])
    (ha : s₁.heap.get? a = some { cls := .type "list", data := .seq vs.toArray }) (hi : IntsAre vs ns) (hl : ns.length ≤ sizeLine) (hr : Room (k + 1) callerA)
    (F : Fun K "law" "law" st fa fd) (S : FnScope N [x] (defScope st)) (hbind : ∀ (s : Shared) (u : Value), BindsTo s fd ⟨[u], []⟩ [(x, u)])
    (body : ∀ (base : Heap) (A : Around) (s : Shared) (H : Hp) (cdv : Value), Bed K mg base A → Room k (A.deeper (envOfC "law" (defScope st) s.heap.objs.size fa cdv)) → SqL K H a (ns.map V.int) →
      ∃ t, PSs (cxOf CX0 P w K mg base N "law" (defScope st) fa cdv A [] s H E0).nox (defBody st) t ∧ t { nx := fun _ _ => False, rt := fun v _ => v = .bl true } (start N [.ref a]) H) :
    codeAny (model P w) callerA (.call (.ref fa) ⟨[.ref a], []⟩) (fun r s' => r = .ok (.ret (.bool true)) ∧ OldK s₁.heap s'.heap ∧ s'.os = s₁.os ∧ AllBare s'.gens) s₁ := by
  have rv := vals_ints hi
  have lenV := hi.length
  have go : ∀ H : Hp, (∀ b, H b = none ∨ ∃ o xs, H b = some (.frz o (.lst xs))) → SqL K H a (ns.map V.int) → Env0 P w K mg (hidT s₁.heap H) callerA [] s₁ H ∧ Bed K mg (hidT s₁.heap H) callerA →
      codeAny (model P w) callerA (.call (.ref fa) ⟨[.ref a], []⟩) (fun r s' => r = .ok (.ret (.bool true)) ∧ OldK s₁.heap s'.heap ∧ s'.os = s₁.os ∧ AllBare s'.gens) s₁ := by
    rintro H hO hS ⟨e0, B⟩
    have hok := e0.hok
    refine codeAny_mono (call_here (Q := fun v _ => v = .bl true) (vs := [.ref a]) (us := [.ref a]) F S hr e0 (hbind s₁ (.ref a)) rfl (.cons rfl .nil) fun cdv hr' => ?_) fun r s' h => ?_
    · obtain ⟨t, h1, h2⟩ := body (hidT s₁.heap H) callerA s₁ H cdv B hr' hS
      refine ⟨t, ⟨fun pins s0 σ H1 D I z => ?_⟩, ?_⟩
      · exact h1.run pins s0 σ H1 D I z
      · exact (show t { nx := fun _ _ => V.non = V.bl true, rt := fun v _ => v = V.bl true } (start N [.ref a]) H from by
          have e : (fun (_ : L2.St) (_ : Hp) => V.non = V.bl true) = fun _ _ => False := by funext _ _; simp
          rw [e]; exact h2)
    · match r, h with
      | .error e, h => exact False.elim h
      | .ok .next, h => exact False.elim h
      | .ok .brk, h => exact False.elim h
      | .ok .cont, h => exact False.elim h
      | .ok (.ret u), ⟨v, H', os, bare, un, hok', r', q⟩ =>
        subst q
        obtain rfl : u = Value.bool true := r'
        refine ⟨rfl, OldK.of_keep fun b o e => ?_, os, bare⟩
        rcases hO b with z | ⟨ob, xs, z⟩
        · exact un.keep b o e z (by intro m; exact absurd (show b ∈ ([] : List Addr) from m) (by simp)) (by simp)
        · obtain ⟨e1, _⟩ := hok b _ z
          obtain ⟨e2, _⟩ := hok' b _ (un.frzs b ob _ z)
          rw [e] at e1
          cases e1
          exact e2
  cases hk : K.lookup a with
  | some o =>
    have e := KX a o hk
    rw [ha] at e
    cases e
    refine go H0 (fun _ => .inl rfl) (.inr ⟨_, vs.toArray, _, hk, rfl, rfl, rfl, ?_, ?_⟩) (env_of KX hns hb hbb hlim hsee hg ha (fun b z => absurd rfl z) (fun z => absurd rfl z) fun b u z => nomatch (show (none : Option HO) = some u from z))
    · rw [List.size_toArray, lenV]
      exact hl
    · simpa using rv
  | none =>
    refine go (Hs a { cls := .type "list", data := .seq vs.toArray } (ns.map V.int)) (fun b => ?_) (.inl (.inr ⟨_, hs_at⟩)) (env_of KX hns hb hbb hlim hsee hg ha (fun b z => ?_) (fun _ => hk) fun b u z => ?_)
    · by_cases n : b = a
      · subst n
        exact .inr ⟨_, _, hs_at⟩
      · exact .inl (hs_no n)
    · by_cases n : b = a
      · exact n
      · exact absurd (hs_no n) z
    · by_cases n : b = a
      · subst n
        cases hs_at.symm.trans z
        exact ⟨ha, by rw [List.length_map]; exact hl, vs, _, rv, ha⟩
      · cases (hs_no n).symm.trans z
end
open PySem.W in
/-- the goal that the head leaves -/
theorem walk_law {l : PySem.W.OpenLaw} {n k : Nat} {q : Program} {loose : List Str} {XP : (Str → Option Value) → Heap → Prop} {YP : World → Heap → Prop} {d : DefRec} {K : Params → PySem.W.Frag} {x : Str} {st : Stmt} {N : List Str}
    (hn : l.most = some n) (hn2 : n ≤ sizeLine) (hdf : d.params.defaults = []) (hr : Room (k + 1) callerA) (hi : importsNone q = true) (S : FnScope N [x] (defScope st))
    (hY : ∀ (w : World) (h : Heap), YP w h → (K w.params).In h)
    (F : ∀ (w : World) (mg : Str → Option Value) (fa : Addr) (h : Heap), (K w.params).In h → h.Ns mainGlobals mg → mg d.name = some (.ref fa) →
      ∃ fd : FuncData, Fun (K w.params) "law" "law" st fa fd ∧ (∀ (s : Shared) (u : Value), BindsTo s fd ⟨[u], []⟩ [(x, u)]) ∧
        ∀ (base : Heap) (A : Around) (s : Shared) (H : Hp) (cdv : Value) (a : Addr) (ns : List Int), ns.length ≤ n → Bed (K w.params) mg base A → Room k (A.deeper (envOfC "law" (defScope st) s.heap.objs.size fa cdv)) → SqL (K w.params) H a (ns.map V.int) →
          ∃ t, PSs (cxOf CX0 l.prog w (K w.params) mg base N "law" (defScope st) fa cdv A [] s H E0).nox (defBody st) t ∧ t { nx := fun _ _ => False, rt := fun v _ => v = .bl true } (start N [.ref a]) H) :
    PySem.W.WalkO q loose XP YP l.row.toRowW d [] (fun f vs => PySem.call f vs) := by
  refine Att.attach_call hn hdf fun w s₀ s₁ mg mb fa o pm cd doc a vs ns G Y ho hd hcd hmg hobj hints hlen hg => ?_
  have KX := hY w _ Y
  obtain ⟨fd, F1, F2, F3⟩ := F w mg fa _ KX G.T.g hmg
  obtain ⟨mm, z, _⟩ := (G.T.seer hi).mods
  exact law_true KX G.T.g G.T.b G.T.builtins G.T.nolimit ⟨mm, z⟩ hg hobj hints (Nat.le_trans hlen hn2) hr F1 S F2 fun base A s H cdv B hr' hS => F3 base A s H cdv a ns hlen B hr' hS
end Ge

set_option Elab.async false
set_option linter.all false
set_option maxRecDepth 100000
set_option maxHeartbeats 4000000
/-! data that stand in the heap, dicts too; what repr says of them -/
namespace Gr
open PySem PySem.Spec PyProof.Rows L2 Gn
def keyD : Key → PyData
  | .inl i => .int i
  | .inr x => .str x
mutual
inductive Dr (H : Hp) : V → PyData → Prop
  | non : Dr H .non .none
  | bl (b : Bool) : Dr H (.bl b) (.bool b)
  | int (i : Int) : Dr H (.int i) (.int i)
  | str (x : Str) : Dr H (.str x) (.str x)
  | lst {a : Addr} {xs : List V} {ds : List PyData} : H a = some (.lst xs) → DrAll H xs ds → Dr H (.ref a) (.list ds)
  | tup {a : Addr} {xs : List V} {ds : List PyData} : H a = some (.tup xs) → DrAll H xs ds → Dr H (.ref a) (.tuple ds)
  | dct {a : Addr} {kvs : List (Key × V)} {ds : List (PyData × PyData)} : H a = some (.dK kvs) → DrKv H kvs ds → Dr H (.ref a) (.dict ds)
inductive DrAll (H : Hp) : List V → List PyData → Prop
  | nil : DrAll H [] []
  | cons {v : V} {vs : List V} {d : PyData} {ds : List PyData} : Dr H v d → DrAll H vs ds → DrAll H (v :: vs) (d :: ds)
inductive DrKv (H : Hp) : List (Key × V) → List (PyData × PyData) → Prop
  | nil : DrKv H [] []
  | cons {k : Key} {v : V} {kvs : List (Key × V)} {d : PyData} {ds : List (PyData × PyData)} : Dr H v d → DrKv H kvs ds → DrKv H ((k, v) :: kvs) ((keyD k, d) :: ds)
end
section
variable {H H' : Hp}
mutual
theorem Dr.mono (s : ∀ a o, H a = some o → H' a = some o) : ∀ (d : PyData) (v : V), Dr H v d → Dr H' v d
  | .none, _, h => by cases h; exact .non
  | .bool b, _, h => by cases h; exact .bl b
  | .int i, _, h => by cases h; exact .int i
  | .str x, _, h => by cases h; exact .str x
  | .list ds, _, h => by
    cases h with
    | lst e r => exact .lst (s _ _ e) (DrAll.mono s ds _ r)
  | .tuple ds, _, h => by
    cases h with
    | tup e r => exact .tup (s _ _ e) (DrAll.mono s ds _ r)
  | .dict ds, _, h => by
    cases h with
    | dct e r => exact .dct (s _ _ e) (DrKv.mono s ds _ r)
theorem DrAll.mono (s : ∀ a o, H a = some o → H' a = some o) : ∀ (ds : List PyData) (vs : List V), DrAll H vs ds → DrAll H' vs ds
  | [], _, h => by cases h; exact .nil
  | d :: ds, _, h => by
    cases h with
    | cons e r => exact .cons (Dr.mono s d _ e) (DrAll.mono s ds _ r)
theorem DrKv.mono (s : ∀ a o, H a = some o → H' a = some o) : ∀ (ds : List (PyData × PyData)) (vs : List (Key × V)), DrKv H vs ds → DrKv H' vs ds
  | [], _, h => by cases h; exact .nil
  | (k, d) :: ds, _, h => by
    cases h with
    | cons e r => exact .cons (Dr.mono s d _ e) (DrKv.mono s ds _ r)
end
theorem DrAll.snoc : ∀ {vs : List V} {ds : List PyData} {v : V} {d : PyData}, DrAll H vs ds → Dr H v d → DrAll H (vs ++ [v]) (ds ++ [d])
  | [], _, _, _, .nil, h => .cons h .nil
  | _ :: _, _, _, _, .cons e r, h => .cons e (DrAll.snoc r h)
theorem DrAll.length : ∀ {vs : List V} {ds : List PyData}, DrAll H vs ds → vs.length = ds.length
  | _, _, .nil => rfl
  | _, _, .cons _ r => by rw [List.length_cons, List.length_cons, DrAll.length r]
end
section
variable {X : Cx} {pins : List (Addr × Obj)} {σ : L2.St} {H : Hp} {s : Shared}
theorem rel_key {k : Key} {u : Value} (h : keyIs k u = true) {s : Heap} : Reads s u (keyD k) [] := by
  rcases keyIs_shape h with ⟨i, t, rfl, rfl⟩ | ⟨x, t, rfl, rfl⟩
  · exact .int i t
  · exact .str x t
theorem keys_read {h : Heap} {P : Program} {w : World} : ∀ (ds : List (PyData × PyData)) (kvs : List (Key × V)) (vs : List (Key × Value)) (es : List DictEntry), DrKv H kvs ds → KV kvs vs → Pairs (mixKind P w) es vs →
    ∃ as, ReadsAll h (es.map (·.key)) (ds.map (·.1)) as ∧ sysModules ∉ as
  | [], _, _, _, e, r, p => by
    cases e
    cases r
    cases p
    exact ⟨_, ReadsAll.nil, by simp⟩
  | (k, d) :: ds, _, _, _, e, r, p => by
    cases e with
    | cons h1 h2 =>
      cases r with
      | cons r1 r2 =>
        cases p with
        | cons p1 p2 p3 =>
          obtain ⟨bs, q2, n2⟩ := keys_read (h := h) ds _ _ _ h2 r2 p3
          obtain ⟨r3, _⟩ := r1
          rw [← r3] at p1
          exact ⟨_, ReadsAll.cons (rel_key p1) q2, fun m => n2 m⟩
theorem not_sys (I : Inv X pins σ H s) (hs : ∃ o, X.base.get? sysModules = some o) {a : Addr} {o : HO} (h : H a = some o) : sysModules ≠ a := fun e => by
  obtain ⟨ob, hob⟩ := hs
  have n := (I.bs _ _ hob).2
  rw [e, h] at n
  cases n
mutual
theorem Dr.reads (I : Inv X pins σ H s) (hs : ∃ o, X.base.get? sysModules = some o) : ∀ (d : PyData) (v : V) (u : Value), Dr H v d → RelV v u → ∃ as, Reads s.heap u d as ∧ sysModules ∉ as
  | .none, _, _, h, r => by
    cases h
    cases r
    exact ⟨_, Reads.none, by simp⟩
  | .bool b, _, _, h, r => by
    cases h
    cases r
    exact ⟨_, Reads.bool b, by simp⟩
  | .int i, _, _, h, r => by
    cases h
    obtain ⟨t, rfl⟩ := r
    exact ⟨_, Reads.int i t, by simp⟩
  | .str x, _, _, h, r => by
    cases h
    obtain ⟨t, rfl⟩ := r
    exact ⟨_, Reads.str x t, by simp⟩
  | .list ds, _, _, h, r => by
    cases h with
    | lst e ha =>
      cases r
      obtain ⟨its, rv, ⟨o, n, ho, hc, _, hd⟩, _⟩ := I.list (SqL.of e)
      obtain ⟨as, hr, hn⟩ := DrAll.reads I hs ds _ its ha rv
      exact ⟨_, Reads.list ho hc hd hr, fun m => by
        rcases List.mem_cons.mp m with z | z
        · exact not_sys I hs e z
        · exact hn z⟩
  | .tuple ds, _, _, h, r => by
    cases h with
    | tup e ha =>
      cases r
      obtain ⟨its, rv, ⟨o, ho, hc, n, hd⟩, _⟩ := I.tuple (SqT.of e)
      obtain ⟨as, hr, hn⟩ := DrAll.reads I hs ds _ its ha rv
      exact ⟨_, Reads.tuple ho hc hd hr, hn⟩
  | .dict ds, _, _, h, r => by
    cases h with
    | @dct a kvs _ e ha =>
      cases r
      obtain ⟨_, _, vs, kv, o, es, ep, ho, hx, hdt, _, ps, _⟩ := (show ObjOk X.prog X.w H s.heap a (.dK kvs) from I.hok a _ e)
      obtain ⟨as, hr, hn⟩ := DrKv.reads I hs ds kvs vs es.toList ha kv ps
      obtain ⟨bs, q1, q2⟩ := keys_read (h := s.heap) ds kvs vs es.toList ha kv ps
      exact ⟨_, Reads.dict ho hx.1 hdt q1 hr, fun m => by
        rcases List.mem_append.mp m with z | z
        · rcases List.mem_cons.mp z with z | z
          · exact not_sys I hs e z
          · exact q2 z
        · exact hn z⟩
theorem DrAll.reads (I : Inv X pins σ H s) (hs : ∃ o, X.base.get? sysModules = some o) : ∀ (ds : List PyData) (vs : List V) (us : List Value), DrAll H vs ds → Vals vs us → ∃ as, ReadsAll s.heap us ds as ∧ sysModules ∉ as
  | [], _, _, h, r => by
    cases h
    cases r
    exact ⟨_, ReadsAll.nil, by simp⟩
  | d :: ds, _, _, h, r => by
    cases h with
    | cons h1 h2 =>
      cases r with
      | cons r1 r2 =>
        obtain ⟨as, q1, n1⟩ := Dr.reads I hs d _ _ h1 r1
        obtain ⟨bs, q2, n2⟩ := DrAll.reads I hs ds _ _ h2 r2
        exact ⟨_, ReadsAll.cons q1 q2, fun m => (List.mem_append.mp m).elim n1 n2⟩
theorem DrKv.reads (I : Inv X pins σ H s) (hs : ∃ o, X.base.get? sysModules = some o) : ∀ (ds : List (PyData × PyData)) (kvs : List (Key × V)) (vs : List (Key × Value)) (es : List DictEntry), DrKv H kvs ds → KV kvs vs → Pairs (mixKind X.prog X.w) es vs →
    ∃ as, ReadsAll s.heap (es.map (·.val)) (ds.map (·.2)) as ∧ sysModules ∉ as
  | [], _, _, _, h, r, p => by
    cases h
    cases r
    cases p
    exact ⟨_, ReadsAll.nil, by simp⟩
  | (k, d) :: ds, _, _, _, h, r, p => by
    cases h with
    | cons h1 h2 =>
      cases r with
      | cons r1 r2 =>
        cases p with
        | cons p1 p2 p3 =>
          obtain ⟨as, q1, n1⟩ := Dr.reads I hs d _ _ h1 r1.2
          obtain ⟨bs, q2, n2⟩ := DrKv.reads I hs ds _ _ _ h2 r2 p3
          rw [← p2] at q1
          exact ⟨_, ReadsAll.cons q1 q2, fun m => (List.mem_append.mp m).elim n1 n2⟩
end
end
/-- repr(v), v any data -/
def rRepr : List V → Hp → VK → Prop := fun xs H Q => ∃ v d, xs = [v] ∧ Dr H v d ∧ d.showable = true ∧ d.depth ≤ 60 ∧ d.shown.length ≤ sizeLine ∧ Q (.str d.shown) H
theorem call_repr {X : Cx} (hg : X.A.guards = some []) (hu : X.A.units + 64 < cLine) (hs : ∃ o, X.base.get? sysModules = some o) : CallR X (.builtin "repr") rRepr := by
  intro pins s σ H xs us Q I r h
  obtain ⟨v, d, rfl, hd, sh, dp, sz, q⟩ := h
  obtain ⟨u, rfl, ru⟩ := vals1 r
  have fin : ∀ h' tk uk, (∀ b o, s.heap.get? b = some o → h'.get? b = some o) → EP X pins σ Q (.str d.shown uk) { s with heap := h', toks := tk } := fun h' tk uk k => ⟨.str d.shown, H, I.kept k, ⟨uk, rfl⟩, q⟩
  obtain ⟨as, hr, hn⟩ := Dr.reads I hs d v u hd ru
  cases hr with
  | none => exact PySem.P.repr_of_none (by have e := fin s.heap (s.toks + 1) s.toks (fun _ _ e => e); simpa only [PyData.shown] using e)
  | bool b => exact PySem.P.repr_of_bool (by have e := fin s.heap (s.toks + 1) s.toks (fun _ _ e => e); simpa only [PyData.shown] using e)
  | int i t => exact PySem.P.repr_of_int (by simpa [PyData.showable] using sh) (by have e := fin s.heap (s.toks + 1) s.toks (fun _ _ e => e); simpa only [PyData.shown] using e)
  | str x t => exact PySem.P.repr_of_str (by have e := fin s.heap (s.toks + 1) s.toks (fun _ _ e => e); simpa only [PyData.shown] using e) (by simpa only [PyData.shown] using sz)
  | list h1 h2 h3 h4 => exact repr_of_reads' (Reads.list h1 h2 h3 h4) sh (fun _ => hn) hg (by omega) (fun _ _ e => e) (fun h' u tk k => fin h' tk u k) sz
  | tuple h1 h2 h3 h4 => exact repr_of_reads' (Reads.tuple h1 h2 h3 h4) sh (fun _ => hn) hg (by omega) (fun _ _ e => e) (fun h' u tk k => fin h' tk u k) sz
  | dict h1 h2 h3 h4 h5 => exact repr_of_reads' (Reads.dict h1 h2 h3 h4 h5) sh (fun _ => hn) hg (by omega) (fun _ _ e => e) (fun h' u tk k => fin h' tk u k) sz
end Gr

set_option Elab.async false
set_option linter.all false
set_option maxRecDepth 100000
set_option maxHeartbeats 4000000
/-! more rules and words -/
namespace Gk
open PySem PySem.Spec PyProof.Rows L2 Gn Gr
section
variable {X : Cx} {CX : CXT} {k : Nat} {f : Addr} {fd : FuncData} {ps ks : List Str} {sp : Sp} {E : XK} {x : Str} {p pos : Pos} {kws : List Keyword} {tk : TA} {g : List Value → List Value → List Value} {gV : List V → List V → List V}
/-- f(k = v, ..) -/
theorem pe_kw (F : FnOk X.prog X.w X.K X.mg X.base CX k f fd ps sp) (hr : Room k X.A) (hg : Gl X x) (hm : X.mg x = some (.ref f)) (hk : PySem.W.keepIn X.K (.ref f) = true) (hb : KBinds X.K fd ps ks g gV) (hx : Passes CX X E) (hkw : PK X kws tk)
    (hall : (backToKw pos (keywordEach kws X.env)).all (·.1.isSome) = true := by rfl) (hks : (backToKw pos (keywordEach kws X.env)).filterMap (·.1) = ks := by rfl) (hdb : (x == ("__debug__" : Str)) = false := by decide)
    (hpl : ((backTo pos (starEach [] X.env)).any (·.1) || (backToKw pos (keywordEach kws X.env)).any (·.1.isNone)) = false := by rfl) :
    PE X (.Call (.Name x p) [] kws pos) (tCallK sp gV E tNil tk) := by
  refine ⟨fun pins s σ H Q I h => ?_⟩
  refine wpAny_Call_Name_kw (ld_glob I hg hm ?_ hdb)
  refine PySem.W.callWith_KW0 (h₀ := X.base) I.ok.mod.kin hk hall ?_ hpl
  refine thn (hkw.run pos pins s σ H _ I h) fun ws s2 ⟨zs, H2, I2, rz, q2⟩ => ⟨I2.kIn, ?_⟩
  rw [hks]
  exact run_fnk (us := []) (vs := []) F hr hb hx I2 .nil rz q2
/-- one parameter, given by its name or its place -/
theorem kb_one {K : PySem.W.Frag} {y : Str} (b : ∀ (s : Shared) (w : Value), BindsTo s fd ⟨[], [(y, w)]⟩ [(y, w)]) (b' : ∀ (s : Shared) (w : Value), BindsTo s fd ⟨[w], []⟩ [(y, w)]) : KBinds K fd [y] [y] (fun us ws => us ++ ws) (fun vs zs => vs ++ zs) := by
  refine ⟨fun s us ws _ hl => ?_, fun r q => Vals.append r q⟩
  match us, ws, hl with
  | [], [w], _ => exact b s w
  | [w], [], _ => exact b' s w
  | [], [], hl => exact absurd hl (by simp)
  | [], _ :: _ :: _, hl => exact absurd hl (by simp)
  | [_], _ :: _, hl => exact absurd hl (by simp)
  | _ :: _ :: _, _, hl => exact absurd hl (by simp)
end
/-- no test in a comprehension -/
theorem yes_of {σ : L2.St} {H : Hp} {A B : Hp → Prop} (h : A H) : tYes σ H (fun b H3 => if b = true then A H3 else B H3) := by
  show if true = true then A H else B H
  rw [if_pos rfl]
  exact h
/-! ## texts of signs below 128 -/
def Asc (n : Nat) (x : Str) : Prop := x.length ≤ n ∧ ∀ c ∈ x.cps.toList, c < 128
theorem len_cps (x : Str) : x.cps.toList.length = x.length := by simp [Str.length]
theorem cps_app (x y : Str) : (x ++ y).cps.toList = x.cps.toList ++ y.cps.toList := by
  show (x.cps ++ y.cps).toList = _
  simp
theorem Asc.app {n m : Nat} {x y : Str} (h : Asc n x) (k : Asc m y) : Asc (n + m) (x ++ y) := by
  refine ⟨by rw [strLen_append]; have := h.1; have := k.1; omega, fun c hc => ?_⟩
  rw [cps_app] at hc
  exact (List.mem_append.mp hc).elim (h.2 c) (k.2 c)
theorem Asc.mono {n m : Nat} {x : Str} (h : Asc n x) (k : n ≤ m) : Asc m x := ⟨Nat.le_trans h.1 k, h.2⟩
theorem Asc.one {c : Nat} (h : c < 128) : Asc 1 (⟨#[c]⟩ : Str) := ⟨Nat.le_refl _, fun b hb => by
  have : b = c := by simpa using hb
  omega⟩
theorem Asc.cut {n : Nat} {x : Str} (h : Asc n x) (lo hi : Option Int) : Asc n (cutS x lo hi) := by
  have e : (cutS x lo hi).cps.toList = (x.cps.toList.drop (HT.sIx x.length 0 lo)).take (HT.sIx x.length x.length hi - HT.sIx x.length 0 lo) := by
    unfold cutS
    simp
  refine ⟨?_, fun c hc => ?_⟩
  · rw [← len_cps, e, List.length_take, List.length_drop, len_cps]
    have := h.1
    omega
  · rw [e] at hc
    exact h.2 c (List.mem_of_mem_drop (List.mem_of_mem_take hc))
theorem Asc.ok {n : Nat} {x : Str} (h : Asc n x) : PyData.strOk x = true := by
  unfold PyData.strOk
  rw [Array.all_eq_true']
  intro c hc
  have := h.2 c (by simpa using hc)
  simp only [decide_eq_true_eq]
  omega
theorem Asc.shown {n : Nat} {x : Str} (h : Asc n x) : (reprText x).length ≤ 10 * n + 2 := by
  have := PySem.StrLaws.reprText_len x fun c hc => Nat.lt_of_lt_of_le (h.2 c hc) (by decide)
  have := h.1
  omega
/-! ## what is new since -/
def Nw (H H' : Hp) : Hp := fun a => match H a with | none => H' a | some _ => none
section
variable {H H' H2 : Hp} {a : Addr} {o : HO}
theorem nw_of (h : Nw H H' a = some o) : H a = none ∧ H' a = some o := by
  unfold Nw at h
  cases e : H a with
  | none => rw [e] at h; exact ⟨rfl, h⟩
  | some u => rw [e] at h; cases h
theorem nw_to (h : H a = none) (k : H' a = some o) : Nw H H' a = some o := by
  unfold Nw
  rw [h]
  exact k
theorem nw_sub : ∀ a o, Nw H H' a = some o → H' a = some o := fun a o h => (nw_of h).2
end
/-! ## numbers as texts -/
theorem shown_int {i : Int} (h : i.natAbs < 10 ^ 20) : (PyData.int i).showable = true ∧ (PyData.int i).shown.length ≤ 21 := by
  constructor
  · simp only [PyData.showable, decide_eq_true_eq]
    by_cases z : i.natAbs = 0
    · rw [z]; decide
    · refine (Nat.log2_lt z).mpr (Nat.lt_trans h ?_)
      decide +kernel
  · simp only [PyData.shown]
    show (Str.ofString (toString i)).length ≤ 21
    rw [PySem.ofString_length]
    exact int_text_length_le10 (by decide) h
/-! ## how much a value's text may hold -/
def Ok (n : Nat) (x : PyData) : Prop := x.showable = true ∧ x.depth ≤ n ∧ x.shown.length ≤ 200 * 4 ^ n
theorem pow_pos4 (n : Nat) : 1 ≤ 4 ^ n := Nat.pow_pos (by decide)
theorem pow_le4 {n m : Nat} (h : n ≤ m) : 4 ^ n ≤ 4 ^ m := Nat.pow_le_pow_right (by decide) h
theorem pow_s4 (n : Nat) : 4 ^ (n + 1) = 4 * 4 ^ n := by rw [Nat.pow_succ, Nat.mul_comm]
theorem Ok.mono {n m : Nat} {x : PyData} (h : Ok n x) (k : n ≤ m) : Ok m x :=
  ⟨h.1, Nat.le_trans h.2.1 k, Nat.le_trans h.2.2 (Nat.mul_le_mul_left _ (pow_le4 k))⟩
theorem Ok.flat {n : Nat} {x : PyData} (h1 : x.showable = true) (h2 : x.depth = 0) (h3 : x.shown.length ≤ 200) : Ok n x := by
  have := pow_pos4 n
  exact ⟨h1, by omega, by omega⟩
theorem ok_str {n : Nat} {x : Str} (h : Asc 19 x) : Ok n (.str x) := by
  have := h.shown
  refine Ok.flat (by simp only [PyData.showable]) (by simp only [PyData.depth]) ?_
  simp only [PyData.shown]
  omega
theorem ok_int {n : Nat} {i : Int} (h : i.natAbs < 10 ^ 20) : Ok n (.int i) := by
  obtain ⟨a, b⟩ := shown_int h
  exact Ok.flat a (by simp only [PyData.depth]) (by omega)
theorem ok_all {n : Nat} : ∀ {ds : List PyData}, (∀ x ∈ ds, Ok n x) → PyData.showableAll ds = true ∧ PyData.depthAll ds ≤ n ∧ (PyData.shownAll ds).length = ds.length ∧ ((PyData.shownAll ds).map (·.length)).sum ≤ ds.length * (200 * 4 ^ n)
  | [], _ => by
    refine ⟨by simp only [PyData.showableAll], by simp only [PyData.depthAll]; omega, by simp only [PyData.shownAll]; rfl, by simp only [PyData.shownAll]; simp⟩
  | x :: r, h => by
    obtain ⟨a1, a2, a3⟩ := h x (List.mem_cons_self ..)
    obtain ⟨b1, b2, b3, b4⟩ := ok_all (ds := r) fun y hy => h y (List.mem_cons_of_mem _ hy)
    refine ⟨?_, ?_, ?_, ?_⟩
    · simp only [PyData.showableAll, a1, b1, Bool.and_self]
    · simp only [PyData.depthAll]
      omega
    · simp only [PyData.shownAll, List.length_cons, b3]
    · simp only [PyData.shownAll, List.map_cons, List.sum_cons, List.length_cons]
      rw [Nat.succ_mul]
      omega
theorem two_mul {k n : Nat} (h : k ≤ 2) : k * (200 * 4 ^ n) ≤ 2 * (200 * 4 ^ n) := Nat.mul_le_mul_right _ h
theorem ok_list {n : Nat} {ds : List PyData} (h : ∀ x ∈ ds, Ok n x) (h2 : ds.length ≤ 2) : Ok (n + 1) (.list ds) := by
  obtain ⟨b1, b2, b3, b4⟩ := ok_all h
  have := listText_len_le (PyData.shownAll ds)
  have := two_mul (n := n) h2
  have := pow_pos4 n
  refine ⟨by simp only [PyData.showable, b1], by simp only [PyData.depth]; omega, ?_⟩
  simp only [PyData.shown]
  rw [pow_s4]
  omega
theorem ok_tuple {n : Nat} {ds : List PyData} (h : ∀ x ∈ ds, Ok n x) (h2 : ds.length ≤ 2) : Ok (n + 1) (.tuple ds) := by
  obtain ⟨b1, b2, b3, b4⟩ := ok_all h
  have := tupleText_len_le (PyData.shownAll ds)
  have := two_mul (n := n) h2
  have := pow_pos4 n
  refine ⟨by simp only [PyData.showable, b1], by simp only [PyData.depth]; omega, ?_⟩
  simp only [PyData.shown]
  rw [pow_s4]
  omega
theorem ok_kvs {n : Nat} : ∀ {ds : List (PyData × PyData)}, (∀ p ∈ ds, (∃ x, p.1 = .str x ∧ Asc 19 x) ∧ Ok n p.2) → PyData.showableKv ds = true ∧ PyData.depthKv ds ≤ n ∧ (PyData.shownKv ds).length = ds.length ∧ ((PyData.shownKv ds).map (·.length)).sum ≤ ds.length * (194 + 200 * 4 ^ n)
  | [], _ => by
    refine ⟨by simp only [PyData.showableKv], by simp only [PyData.depthKv]; omega, by simp only [PyData.shownKv]; rfl, by simp only [PyData.shownKv]; simp⟩
  | (kx, x) :: r, h => by
    obtain ⟨⟨y, e, hy⟩, a1, a2, a3⟩ := h (kx, x) (List.mem_cons_self ..)
    obtain ⟨b1, b2, b3, b4⟩ := ok_kvs (ds := r) fun y hy => h y (List.mem_cons_of_mem _ hy)
    have e : kx = .str y := e
    subst e
    have a1 : x.showable = true := a1
    have a2 : x.depth ≤ n := a2
    have a3 : x.shown.length ≤ 200 * 4 ^ n := a3
    have hy' := hy.shown
    refine ⟨?_, ?_, ?_, ?_⟩
    · simp only [PyData.showableKv, PyData.showable, a1, b1, Bool.and_self]
    · simp only [PyData.depthKv, PyData.depth]
      omega
    · simp only [PyData.shownKv, List.length_cons, b3]
    · simp only [PyData.shownKv, List.map_cons, List.sum_cons, List.length_cons, PyData.shown]
      rw [strLen_append, strLen_append, Nat.succ_mul]
      have e2 : ((": " : String) : Str).length = 2 := rfl
      omega
theorem ok_dict {n : Nat} {ds : List (PyData × PyData)} (h : ∀ p ∈ ds, (∃ x, p.1 = .str x ∧ Asc 19 x) ∧ Ok n p.2) (h2 : ds.length ≤ 2) : Ok (n + 1) (.dict ds) := by
  obtain ⟨b1, b2, b3, b4⟩ := ok_kvs h
  have := dictText_len_le (PyData.shownKv ds)
  have : ds.length * (194 + 200 * 4 ^ n) ≤ 2 * (194 + 200 * 4 ^ n) := Nat.mul_le_mul_right _ h2
  have := pow_pos4 n
  refine ⟨by simp only [PyData.showable, b1], by simp only [PyData.depth]; omega, ?_⟩
  simp only [PyData.shown]
  rw [pow_s4]
  omega
/-! ## keys '0', '1', .. -/
def tagS (n : Nat) : Str := ((toString (n : Int) : String) : Str)
def tags : Nat → List V → List (Key × V)
  | _, [] => []
  | n, v :: r => ((Sum.inr (tagS n) : Key), v) :: tags (n + 1) r
def tagD : Nat → List PyData → List (PyData × PyData)
  | _, [] => []
  | n, d :: r => (.str (tagS n), d) :: tagD (n + 1) r
theorem tags_snoc : ∀ (vs : List V) (n : Nat) (v : V), tags n (vs ++ [v]) = tags n vs ++ [((Sum.inr (tagS (n + vs.length)) : Key), v)]
  | [], n, v => rfl
  | w :: r, n, v => by
    have e : n + 1 + r.length = n + (w :: r).length := by rw [List.length_cons]; omega
    show (_, w) :: tags (n + 1) (r ++ [v]) = (_, w) :: (tags (n + 1) r ++ _)
    rw [tags_snoc r (n + 1) v, e]
theorem tags_dr {H : Hp} : ∀ {vs : List V} {ds : List PyData} (n : Nat), DrAll H vs ds → DrKv H (tags n vs) (tagD n ds)
  | _, _, _, .nil => .nil
  | _, _, n, .cons e r => .cons e (tags_dr (n + 1) r)
theorem tagD_len : ∀ (ds : List PyData) (n : Nat), (tagD n ds).length = ds.length
  | [], _ => rfl
  | _ :: r, n => by show (tagD (n + 1) r).length + 1 = r.length + 1; rw [tagD_len r]
theorem tag_asc {n : Nat} (h : n < 10) : Asc 19 (tagS n) := by
  have : n = 0 ∨ n = 1 ∨ n = 2 ∨ n = 3 ∨ n = 4 ∨ n = 5 ∨ n = 6 ∨ n = 7 ∨ n = 8 ∨ n = 9 := by omega
  rcases this with rfl | rfl | rfl | rfl | rfl | rfl | rfl | rfl | rfl | rfl <;> exact ⟨by decide +kernel, by decide +kernel⟩
theorem tagD_ok {m : Nat} : ∀ {ds : List PyData} (n : Nat), n + ds.length ≤ 9 → (∀ x ∈ ds, Ok m x) → ∀ p ∈ tagD n ds, (∃ x, p.1 = .str x ∧ Asc 19 x) ∧ Ok m p.2
  | [], _, _, _, p, hp => by cases hp
  | d :: r, n, hn, h, p, hp => by
    rw [List.length_cons] at hn
    rcases List.mem_cons.mp hp with e | hp
    · subst e
      exact ⟨⟨_, rfl, tag_asc (by omega)⟩, h d (List.mem_cons_self ..)⟩
    · exact tagD_ok (n + 1) (by omega) (fun x hx => h x (List.mem_cons_of_mem _ hx)) p hp
theorem tags_merge {vs : List V} (h : vs.length ≤ 2) : mergeK [] (tags 0 vs) = tags 0 vs := by
  match vs, h with
  | [], _ => rfl
  | [a], _ => rfl
  | [a, b], _ =>
    have n01 : ¬ (Sum.inr (tagS 0) : Key) = Sum.inr (tagS 1) := by decide +kernel
    show putK (putK [] (Sum.inr (tagS 0) : Key) a) (Sum.inr (tagS 1) : Key) b = [((Sum.inr (tagS 0) : Key), a), ((Sum.inr (tagS 1) : Key), b)]
    have e1 : putK [] (Sum.inr (tagS 0) : Key) a = [((Sum.inr (tagS 0) : Key), a)] := rfl
    rw [e1]
    exact putK_new b ((valV_neg n01).trans valV_nil)
/-- .. and a text is made of signs below 128 -/
def OkT (n : Nat) (x : PyData) : Prop := Ok n x ∧ ∀ s, x = .str s → Asc 19 s
theorem okT_of {n : Nat} {x : PyData} (h : Ok n x) (k : ∀ s, x ≠ .str s) : OkT n x := ⟨h, fun s e => absurd e (k s)⟩
theorem okT_str {n : Nat} {x : Str} (h : Asc 19 x) : OkT n (.str x) := ⟨ok_str h, fun s e => by cases e; exact h⟩
/-! ## the type of a value -/
def Ext (H H' : Hp) : Prop := ∀ a o, H a = some o → H' a = some o
theorem Ext.refl {H : Hp} : Ext H H := fun _ _ e => e
theorem Ext.trans {H H' H2 : Hp} (h : Ext H H') (k : Ext H' H2) : Ext H H2 := fun a o e => k a o (h a o e)
theorem Ext.new {H : Hp} {p : Addr} {o : HO} (h : H p = none) : Ext H (upd H p o) := fun a u e => new_same h a u e
inductive TyT (H : Hp) : V → String → Prop
  | non : TyT H .non "NoneType"
  | bl (b : Bool) : TyT H (.bl b) "bool"
  | int (i : Int) : TyT H (.int i) "int"
  | str (x : Str) : TyT H (.str x) "str"
  | lst {a : Addr} {xs : List V} : H a = some (.lst xs) → TyT H (.ref a) "list"
  | tup {a : Addr} {xs : List V} : H a = some (.tup xs) → TyT H (.ref a) "tuple"
  | dct {a : Addr} {kvs : List (Key × V)} : H a = some (.dK kvs) → TyT H (.ref a) "dict"
theorem TyT.x {K : PySem.W.Frag} {H : Hp} {v : V} {T : String} (h : TyT H v T) : TyX K H v (.type T) := by
  cases h with
  | non => exact .base .non
  | bl b => exact .base (.bl b)
  | int i => exact .base (.int i)
  | str x => exact .base (.str x)
  | lst e => exact .base (.lst e)
  | tup e => exact .base (.tup e)
  | dct e => exact .base (.dK e)
theorem TyT.ext {H H' : Hp} {v : V} {T : String} (h : TyT H v T) (k : Ext H H') : TyT H' v T := by
  cases h with
  | non => exact .non
  | bl b => exact .bl b
  | int i => exact .int i
  | str x => exact .str x
  | lst e => exact .lst (k _ _ e)
  | tup e => exact .tup (k _ _ e)
  | dct e => exact .dct (k _ _ e)
theorem dr_ty {H : Hp} {v : V} {x : PyData} (h : Dr H v x) : (∃ s, v = .str s ∧ x = .str s) ∨ (∃ i, v = .int i) ∨ (TyT H v "NoneType" ∨ TyT H v "bool" ∨ TyT H v "list" ∨ TyT H v "tuple" ∨ TyT H v "dict") := by
  cases h with
  | non => exact .inr (.inr (.inl .non))
  | bl b => exact .inr (.inr (.inr (.inl (.bl b))))
  | int i => exact .inr (.inl ⟨i, rfl⟩)
  | str x => exact .inl ⟨x, rfl, rfl⟩
  | lst e _ => exact .inr (.inr (.inr (.inr (.inl (.lst e)))))
  | tup e _ => exact .inr (.inr (.inr (.inr (.inr (.inl (.tup e))))))
  | dct e _ => exact .inr (.inr (.inr (.inr (.inr (.inr (.dct e))))))
/-- isinstance of a value whose type is told -/
theorem isi_ty {K : PySem.W.Frag} {H : Hp} {v : V} {T U : String} {r : Bool} {Q : VK} (h : TyT H v T) (k : kitB T U = some r) (q : Q (.bl r) H) : rIsi K [v, .ty U] H Q :=
  ⟨v, .ty U, .type T, .type U, r, rfl, .ty U, h.x, kit_ty k, q⟩
/-! ## what a name is, what an amount is -/
def letters : Str := "abcdefghijklmnopqrstuvwxyz"
def isL (c : Nat) : Bool := decide (c ∈ letters.cps.toList)
def nameOk (x : Str) : Bool := decide (1 ≤ x.length) && (decide (x.length ≤ 8) && x.cps.toList.all isL)
def amtOk (i : Int) : Bool := decide (1 ≤ i) && decide (i ≤ 1000000000)
def NameV (H : Hp) (v : V) (r : Bool) : Prop := (∃ x, v = .str x ∧ Asc 19 x ∧ r = nameOk x) ∨ (r = false ∧ (TyT H v "NoneType" ∨ TyT H v "bool" ∨ TyT H v "int" ∨ TyT H v "list" ∨ TyT H v "tuple" ∨ TyT H v "dict"))
def AmtV (H : Hp) (v : V) (r : Bool) : Prop := (∃ i, v = .int i ∧ r = amtOk i) ∨ (r = false ∧ (TyT H v "NoneType" ∨ TyT H v "bool" ∨ TyT H v "str" ∨ TyT H v "list" ∨ TyT H v "tuple" ∨ TyT H v "dict"))
def spName : Sp := fun vs H Q _ => ∃ v r, vs = [v] ∧ NameV H v r ∧ ∀ H', Ext H H' → Q (.bl r) H'
def spAmt : Sp := fun vs H Q _ => ∃ v r, vs = [v] ∧ AmtV H v r ∧ ∀ H', Ext H H' → Q (.bl r) H'
theorem NameV.ext {H H' : Hp} {v : V} {r : Bool} (h : NameV H v r) (k : Ext H H') : NameV H' v r := by
  rcases h with h | ⟨e, h⟩
  · exact .inl h
  · refine .inr ⟨e, ?_⟩
    rcases h with h | h | h | h | h | h
    · exact .inl (h.ext k)
    · exact .inr (.inl (h.ext k))
    · exact .inr (.inr (.inl (h.ext k)))
    · exact .inr (.inr (.inr (.inl (h.ext k))))
    · exact .inr (.inr (.inr (.inr (.inl (h.ext k)))))
    · exact .inr (.inr (.inr (.inr (.inr (h.ext k)))))
theorem AmtV.ext {H H' : Hp} {v : V} {r : Bool} (h : AmtV H v r) (k : Ext H H') : AmtV H' v r := by
  rcases h with h | ⟨e, h⟩
  · exact .inl h
  · refine .inr ⟨e, ?_⟩
    rcases h with h | h | h | h | h | h
    · exact .inl (h.ext k)
    · exact .inr (.inl (h.ext k))
    · exact .inr (.inr (.inl (h.ext k)))
    · exact .inr (.inr (.inr (.inl (h.ext k))))
    · exact .inr (.inr (.inr (.inr (.inl (h.ext k)))))
    · exact .inr (.inr (.inr (.inr (.inr (h.ext k)))))
theorem dr_judged {H : Hp} {v : V} {x : PyData} {n : Nat} (h : Dr H v x) (k : OkT n x) : (∃ r, NameV H v r) ∧ ∃ r, AmtV H v r := by
  rcases dr_ty h with ⟨s, rfl, rfl⟩ | ⟨i, rfl⟩ | h | h | h | h | h
  · exact ⟨⟨_, .inl ⟨s, rfl, k.2 s rfl, rfl⟩⟩, ⟨false, .inr ⟨rfl, .inr (.inr (.inl (.str s)))⟩⟩⟩
  · exact ⟨⟨false, .inr ⟨rfl, .inr (.inr (.inl (.int i)))⟩⟩, ⟨_, .inl ⟨i, rfl, rfl⟩⟩⟩
  · exact ⟨⟨false, .inr ⟨rfl, .inl h⟩⟩, ⟨false, .inr ⟨rfl, .inl h⟩⟩⟩
  · exact ⟨⟨false, .inr ⟨rfl, .inr (.inl h)⟩⟩, ⟨false, .inr ⟨rfl, .inr (.inl h)⟩⟩⟩
  · exact ⟨⟨false, .inr ⟨rfl, .inr (.inr (.inr (.inl h)))⟩⟩, ⟨false, .inr ⟨rfl, .inr (.inr (.inr (.inl h)))⟩⟩⟩
  · exact ⟨⟨false, .inr ⟨rfl, .inr (.inr (.inr (.inr (.inl h))))⟩⟩, ⟨false, .inr ⟨rfl, .inr (.inr (.inr (.inr (.inl h))))⟩⟩⟩
  · exact ⟨⟨false, .inr ⟨rfl, .inr (.inr (.inr (.inr (.inr h))))⟩⟩, ⟨false, .inr ⟨rfl, .inr (.inr (.inr (.inr (.inr h))))⟩⟩⟩
end Gk

set_option Elab.async false
set_option linter.all false
set_option maxRecDepth 100000
set_option maxHeartbeats 4000000
/-! rules for objects: static methods, keywords of a method, == and != by an own __eq__, tuple(dict) -/
namespace Go
open PySem PySem.Spec PyProof.Rows L2 Gn Gr Gk
section
variable {X : Cx} {CX : CXT} {k n : Nat} {C f g p : Addr} {mc : Value} {fd : FuncData} {ps ks : List Str} {sp : Sp} {E : XK} {o e : Expr} {es : List Expr} {kws : List Keyword} {m : Str} {pos apos : Pos} {ta : TE} {t tk : TA} {pl : Sem Bool} {gg : List Value → List Value → List Value} {gV : List V → List V → List V}
/-! ### a static method, through its class -/
structure SMet (K : PySem.W.Frag) (C : Addr) (mc : Value) (m : Str) (p g : Addr) : Prop where
  at_ : PySem.W.findCls K (.ref C) mc m = some (.get (.builtin "staticmethod.__get__") (.ref p) .none (.ref C))
  rc : ∃ rest, PySem.W.recIn K p "staticmethod" = some (.ref g :: rest)
theorem getsm_ok {pins : List (Addr × Obj)} {σ : L2.St} {H : Hp} {s : Shared} {A : Around} {E : Value → Shared → Prop} {Q : Value × List Value → Shared → Prop} (I : Inv X pins σ H s) (r : ClX.CRead X.K C mc) (c : SMet X.K C mc m p g)
    (h : ∀ s', Inv X pins σ H s' → Q (.ref g, []) s') : wpAny (model X.prog X.w) A (getMethod (.ref C) m pl) Q E s := by
  obtain ⟨rest, hp⟩ := c.rc
  refine PySem.W.method_cls I.kIn r.ga (PySem.W.cls_bind I.kIn r.rd c.at_ (wpAny_call (PySem.W.sm_get (s := { s with toks := s.toks + 1 }) I.kIn hp (PySem.W.handed_on rfl ?_))))
  exact h _ (I.tok _)
def tSMeth (C : Addr) (sp : Sp) (E : XK) (ta : TE) (t : TA) : TE := fun σ H Q => ta σ H fun x H1 => x = .ref C ∧ t σ H1 fun vs H2 => sp vs H2 Q E
theorem pe_smeth (he : PE X o ta) (r : ClX.CRead X.K C mc) (c : SMet X.K C mc m p g) (hk : PySem.W.keepIn X.K (.ref g) = true) (F : FnOk X.prog X.w X.K X.mg X.base CX k g fd ps sp) (hr : Room k X.A) (hb : Binds X.K fd ps []) (hx : Passes CX X E) (ha : PA X (e :: es) t)
    (hst : starEach (e :: es) X.env = (false, eval e X.env) :: starEach es X.env := by rfl) (hpl : (backTo pos (starEach es X.env)).any (·.1) = false := by rfl)
    (ht : eval (.Call (.Attribute o m apos) (e :: es) [] pos) X.env = (do
      let ov ← eval o X.env
      standAt apos.atName
      let (f, first) ← holding [ov] (getMethod ov m pl)
      callWith pos f first (backTo pos (starEach (e :: es) X.env)) (backToKw pos (keywordEach [] X.env))) := by rfl) :
    PE X (.Call (.Attribute o m apos) (e :: es) [] pos) (tSMeth C sp E ta t) := by
  refine ⟨fun pins s σ H Q I h => ?_⟩
  refine PySem.W.methodCall_KW (pl := pl) (thn (he.run pins s σ H _ I h) fun u s1 ⟨x, H1, I1, rx, ex, q⟩ => ?_) ht
  subst ex
  obtain rfl : u = Value.ref C := rx
  refine getsm_ok I1 r c fun s2 I2 => ?_
  refine PySem.W.callWith_K (first := []) (h₀ := X.base) I2.ok.mod.kin hk (thn (ha.run pos pins s2 σ H1 _ I2 q) fun us s3 ⟨vs, H2, I3, rv, q2⟩ => ⟨I3.kIn, ?_⟩) hst hpl
  exact run_fn (us := us) (vs := vs) (dvs := []) F hr hb .nil hx I3 rv (by rw [List.append_nil]; exact q2)
def tSMethK (C : Addr) (sp : Sp) (gV : List V → List V → List V) (E : XK) (ta : TE) (tk : TA) : TE := fun σ H Q => ta σ H fun x H1 => x = .ref C ∧ tk σ H1 fun zs H2 => sp (gV [] zs) H2 Q E
theorem pe_smethK (he : PE X o ta) (r : ClX.CRead X.K C mc) (c : SMet X.K C mc m p g) (hk : PySem.W.keepIn X.K (.ref g) = true) (F : FnOk X.prog X.w X.K X.mg X.base CX k g fd ps sp) (hr : Room k X.A) (hb : KBinds X.K fd ps ks gg gV) (hx : Passes CX X E) (hkw : PK X kws tk)
    (hall : (backToKw pos (keywordEach kws X.env)).all (·.1.isSome) = true := by rfl) (hks : (backToKw pos (keywordEach kws X.env)).filterMap (·.1) = ks := by rfl)
    (hpl : ((backTo pos (starEach [] X.env)).any (·.1) || (backToKw pos (keywordEach kws X.env)).any (·.1.isNone)) = false := by rfl)
    (ht : eval (.Call (.Attribute o m apos) [] kws pos) X.env = (do
      let ov ← eval o X.env
      standAt apos.atName
      let (f, first) ← holding [ov] (getMethod ov m pl)
      callWith pos f first (backTo pos (starEach [] X.env)) (backToKw pos (keywordEach kws X.env))) := by rfl) :
    PE X (.Call (.Attribute o m apos) [] kws pos) (tSMethK C sp gV E ta tk) := by
  refine ⟨fun pins s σ H Q I h => ?_⟩
  refine PySem.W.methodCall_KW (pl := pl) (thn (he.run pins s σ H _ I h) fun u s1 ⟨x, H1, I1, rx, ex, q⟩ => ?_) ht
  subst ex
  obtain rfl : u = Value.ref C := rx
  refine getsm_ok I1 r c fun s2 I2 => ?_
  refine PySem.W.callWith_KW0 (first := []) (h₀ := X.base) I2.ok.mod.kin hk hall ?_ hpl
  refine thn (hkw.run pos pins s2 σ H1 _ I2 q) fun ws s3 ⟨zs, H2, I3, rz, q2⟩ => ⟨I3.kIn, ?_⟩
  rw [hks]
  exact run_fnk (us := []) (vs := []) F hr hb hx I3 .nil rz q2
/-! ### o.m(k = v) -/
def tMethK (C : Addr) (m : Str) (sp : Sp) (gV : List V → List V → List V) (E : XK) (ta : TE) (tk : TA) : TE := fun σ H Q => ta σ H fun x H1 => ∃ a dx fs, x = .ref a ∧ H1 a = some (.ins C dx fs) ∧ fs.lookup m = none ∧ tk σ H1 fun zs H2 => sp (gV [x] zs) H2 Q E
theorem pe_methK (he : PE X o ta) (c : Cls X.K C) (hm : Meth X.K C m f) (F : FnOk X.prog X.w X.K X.mg X.base CX k f fd ps sp) (hr : Room k X.A) (hb : KBinds X.K fd ps ks gg gV) (hx : Passes CX X E) (hkw : PK X kws tk)
    (hall : (backToKw pos (keywordEach kws X.env)).all (·.1.isSome) = true := by rfl) (hks : (backToKw pos (keywordEach kws X.env)).filterMap (·.1) = ks := by rfl)
    (hpl : ((backTo pos (starEach [] X.env)).any (·.1) || (backToKw pos (keywordEach kws X.env)).any (·.1.isNone)) = false := by rfl)
    (ht : eval (.Call (.Attribute o m apos) [] kws pos) X.env = (do
      let ov ← eval o X.env
      standAt apos.atName
      let (f, first) ← holding [ov] (getMethod ov m pl)
      callWith pos f first (backTo pos (starEach [] X.env)) (backToKw pos (keywordEach kws X.env))) := by rfl) :
    PE X (.Call (.Attribute o m apos) [] kws pos) (tMethK C m sp gV E ta tk) := by
  refine ⟨fun pins s σ H Q I h => ?_⟩
  refine PySem.W.methodCall_KW (pl := pl) (thn (he.run pins s σ H _ I h) fun u s1 ⟨x, H1, I1, rx, a, dx, fs, ex, ea, l, q⟩ => ?_) ht
  subst ex
  obtain rfl : u = Value.ref a := rx
  refine getmeth_ok I1 ea c hm l ?_
  refine PySem.W.callWith_KW0 (first := [.ref a]) (h₀ := X.base) I1.ok.mod.kin hm.kp hall ?_ hpl
  refine thn (hkw.run pos pins s1 σ H1 _ I1 q) fun ws s3 ⟨zs, H2, I3, rz, q2⟩ => ⟨I3.kIn, ?_⟩
  rw [hks]
  exact run_fnk (us := [.ref a]) (vs := [.ref a]) F hr hb hx I3 (.cons rfl .nil) rz q2
/-! ### == and != by an own __eq__ -/
/-- the own __eq__ at f of the class at C; no __ne__ besides object's -/
structure OwnE (K : PySem.W.Frag) (C f : Addr) : Prop where
  eq : PySem.W.findIn K (.ref C) "__eq__" = some (some (.ref f))
  fn : PySem.W.isFn K (.ref f) = true
  cls : ∃ nm q N bs hdct sn sub ab col dd k0 k1 k2 k3 k5 newId, K.lookup C = some (excClassObj nm q C N bs [.type "object"] hdct sn sub ab col dd k0 k1 k2 k3 k5 newId) ∧ PySem.W.nsOkIn K N = true ∧ PySem.W.nsIn K N "__eq__" = some (some (.ref f)) ∧ PySem.W.nsIn K N "__ne__" = some none
  ob : ∃ of : Obj, K.lookup f = some of ∧ of.cls = .type "function"
/-- two instances of the class; the own == is asked -/
def rOwn (C : Addr) (sp : Sp) (E : XK) (neg : Bool) : R2 := fun x y H Q => ∃ a b dx dy fs gs, x = .ref a ∧ y = .ref b ∧ H a = some (.ins C dx fs) ∧ H b = some (.ins C dy gs) ∧ sp [.ref a, .ref b] H (fun v H' => ∃ r, v = .bl r ∧ Q (.bl (if neg then !r else r)) H') E
theorem op_eqO (F : FnOk X.prog X.w X.K X.mg X.base CX n f fd ps sp) (hr : Room n X.A) (w : OwnE X.K C f) (hb : Binds X.K fd ps []) (hx : Passes CX X E) : OpR X (compareOp .Eq) (rOwn C sp E false) := by
  intro pins s σ H x y v u Q I rx ry h
  obtain ⟨a, b, dx, dy, fs, gs, rfl, rfl, ha, hb', hs⟩ := h
  cases rx
  cases ry
  obtain ⟨mA, O1, _⟩ := ins_get I.hok ha
  obtain ⟨mB, O2, _⟩ := ins_get I.hok hb'
  obtain ⟨od, J, _⟩ := O1.look
  obtain ⟨od', J', _⟩ := O2.look
  obtain ⟨m, hF⟩ := I.fr
  show wpAny (model X.prog X.w) X.A (richCompare .Eq (.ref a) (.ref b)) (EP X pins σ Q) X.xe s
  refine PySem.W.cmp_K (op := .Eq) (tb := .ref C) hr.units0 hF I.ok.mod.kin J J'.type (by simp [PySem.W.notFirst]) w.eq w.fn ?_
  refine thn (run_fn (us := [.ref a, .ref b]) (vs := [.ref a, .ref b]) (dvs := []) F hr hb .nil hx I (.cons rfl (.cons rfl .nil)) (by rw [List.append_nil]; exact hs)) fun r s' hq => ?_
  obtain ⟨z, H', I', rz, c, rfl, q⟩ := hq
  cases rz
  exact ⟨.bl c, H', I', rfl, q⟩
theorem ns_has {K : PySem.W.Frag} {h : Heap} {N : Addr} {m : Str → Option Value} {x : Str} {v : Value} (X : K.In h) (G : h.Ns N m) (e : PySem.W.nsIn K N x = some (some v)) : m x = some v := by
  obtain ⟨o, es, ep, ho, hd, _, hf⟩ := G
  rw [← hf]
  unfold PySem.W.nsIn at e
  cases q : K.lookup N with
  | none => rw [q] at e; cases e
  | some ob =>
    have z := X _ _ q
    rw [ho] at z
    cases z
    rw [q] at e
    obtain ⟨c, dd, dt, sl⟩ := o
    have hd : dt = .dict es ep := hd
    subst hd
    simp only at e
    unfold nsFind findBy
    rw [← Array.find?_toList]
    split at e
    · rename_i en he
      rw [he]
      cases e
      rfl
    · split at e <;> cases e
theorem eq_obj : ∃ y : Option Value, typeLookup (.type "object") "__eq__" = pure y := ⟨_, PySem.F.slot_object_eq.lookup⟩
theorem op_neO (F : FnOk X.prog X.w X.K X.mg X.base CX n f fd ps sp) (hr : Room (n + 1) X.A) (w : OwnE X.K C f) (hb : Binds X.K fd ps []) (hx : ∀ (pins : List (Addr × Obj)) (σ : L2.St) (H : Hp) (s : Shared) (e : Value) (s' : Shared), Inv X pins σ H s → CX X.stack H s E e s' → X.xe e s') : OpR X (compareOp .NotEq) (rOwn C sp E true) := by
  intro pins s σ H x y v u Q I rx ry h
  obtain ⟨a, b, dx, dy, fs, gs, rfl, rfl, ha, hb', hs⟩ := h
  cases rx
  cases ry
  obtain ⟨mA, O1, _⟩ := ins_get I.hok ha
  obtain ⟨mB, O2, _⟩ := ins_get I.hok hb'
  obtain ⟨nm, q, N, bs, hdct, sn, sub, ab, col, dd, k0, k1, k2, k3, k5, newId, hC, hN, he, hn⟩ := w.cls
  obtain ⟨of, ho, hoc⟩ := w.ob
  obtain ⟨yv, hy⟩ := eq_obj
  have G : s.heap.Ns N (s.heap.nsMap N) := .of_isNs (PySem.W.isNs_of_in I.kIn hN)
  have hl : ([Value.ref a, Value.ref b] ++ []).length = ps.length := by
    have := F.len _ _ _ _ hs
    simpa using this
  obtain ⟨_, _, _, ea, _⟩ := (show ObjOk X.prog X.w H s.heap a (.ins C dx fs) from I.hok a _ ha)
  obtain ⟨_, _, _, eb, _⟩ := (show ObjOk X.prog X.w H s.heap b (.ins C dy gs) from I.hok b _ hb')
  have W : s.heap.OwnEqNoNe a C f "object" [.type "object"] :=
    ⟨_, of, nm, q, N, bs, hdct, sn, sub, ab, col, dd, k0, k1, k2, k3, k5, newId, s.heap.nsMap N, yv, ea, rfl, I.kIn _ _ hC, G, ns_has I.kIn G he, I.kIn _ _ ho, hoc, PySem.F.cmp_object.mro, hy, PySem.W.ns_none_of I.kIn G hn⟩
  have hbind : BindsTo s fd ⟨[.ref a, .ref b], []⟩ (ps.zip [.ref a, .ref b]) := hb s [.ref a, .ref b] I.kIn hl
  have run := F.run X.A.in1 X.stack s H ⟨[.ref a, .ref b], []⟩ [.ref a, .ref b] [.ref a, .ref b] _ E (hr.in1) I.env0.in1 hbind (.cons rfl (.cons rfl .nil)) hs
  obtain ⟨hp, g, d, tk, os⟩ := s
  refine compareOp_ne_ownEq PySem.F.cmp_object W eb rfl (by have := hr.units; omega) (wpAny_call (codeAny_mono run fun r s' hq => ?_))
  cases r with
  | error e => exact hx pins σ H _ e s' I hq
  | ok fl =>
    cases fl with
    | ret u =>
      obtain ⟨z, H', I', rz, c, rfl, q⟩ := I.after hq
      cases rz
      exact ⟨c, rfl, .bl (!c), H', I', rfl, q⟩
    | next => exact False.elim hq
    | brk => exact False.elim hq
    | cont => exact False.elim hq
end
end Go

set_option Elab.async false
set_option linter.all false
set_option maxRecDepth 100000
set_option maxHeartbeats 4000000
/-! forests as data: rows, their text, what is a forest -/
namespace Gf
open PySem PySem.Spec PyProof.Rows L2 TL Gn Gr Gk
abbrev FRow := Str × Option Str
def parV : Option Str → V
  | none => .non
  | some m => .str m
def kvOf (r : FRow) : Key × V := (Sum.inr r.1, parV r.2)
def wordsOf : FRow → List Str
  | (n, none) => ["account", n]
  | (n, some m) => ["account", n, "in", m]
def lineOf (r : FRow) : Str := Txt.join " " (wordsOf r)
def textOf (rs : List FRow) : Str := Txt.join "\n" (rs.map lineOf ++ [Str.empty])
def fNames (rs : List FRow) : List Str := rs.map (·.1)
/-- the row may stand behind these names -/
def RowOk (E : List Str) (r : FRow) : Prop := nameOk r.1 = true ∧ r.1 ∉ E ∧ ∀ m, r.2 = some m → m ∈ E
def GoodF : List Str → List FRow → Prop
  | _, [] => True
  | E, r :: rs => RowOk E r ∧ GoodF (E ++ [r.1]) rs
theorem good_at : ∀ {rs : List FRow} {E : List Str} {i : Nat} {r : FRow}, GoodF E rs → rs[i]? = some r → RowOk (E ++ fNames (rs.take i)) r
  | [], _, _, _, _, h => by simp at h
  | x :: rs, E, 0, r, g, h => by
    simp only [List.getElem?_cons_zero, Option.some.injEq] at h
    subst h
    simpa [fNames] using g.1
  | x :: rs, E, i + 1, r, g, h => by
    have q := good_at g.2 (show rs[i]? = some r by simpa using h)
    simpa [fNames, List.append_assoc] using q
theorem good_snoc : ∀ {rs : List FRow} {E : List Str} {r : FRow}, GoodF E rs → RowOk (E ++ fNames rs) r → GoodF E (rs ++ [r])
  | [], E, r, g, h => ⟨by simpa [fNames] using h, trivial⟩
  | x :: rs, E, r, g, h => ⟨g.1, good_snoc g.2 (by simpa [fNames, List.append_assoc] using h)⟩
theorem names_take (rs : List FRow) (i : Nat) : fNames (rs.take i) = (fNames rs).take i := by unfold fNames; rw [List.map_take]
theorem good_mem {rs : List FRow} (g : GoodF [] rs) {r : FRow} (h : r ∈ rs) : nameOk r.1 = true ∧ ∀ m, r.2 = some m → m ∈ fNames rs ∧ nameOk m = true := by
  obtain ⟨i, hi⟩ := List.mem_iff_getElem?.mp h
  have q := good_at g hi
  rw [List.nil_append] at q
  have nm : ∀ m, m ∈ fNames rs → nameOk m = true := by
    intro m hm
    obtain ⟨z, hz, rfl⟩ := List.mem_map.mp hm
    obtain ⟨j, hj⟩ := List.mem_iff_getElem?.mp hz
    exact (good_at g hj).1
  refine ⟨q.1, fun m hm => ?_⟩
  have z := q.2.2 m hm
  rw [names_take] at z
  have z2 := List.mem_of_mem_take z
  exact ⟨z2, nm m z2⟩
theorem good_nodup : ∀ {rs : List FRow} {E : List Str}, GoodF E rs → (fNames rs).Nodup ∧ ∀ n ∈ fNames rs, n ∉ E
  | [], _, _ => by simp [fNames]
  | x :: rs, E, g => by
    obtain ⟨a, b⟩ := good_nodup g.2
    constructor
    · show (x.1 :: fNames rs).Nodup
      refine List.nodup_cons.mpr ⟨fun h => ?_, a⟩
      exact b _ h (by simp)
    · intro n hn
      rcases List.mem_cons.mp (show n ∈ x.1 :: fNames rs from hn) with rfl | h
      · exact g.1.2.1
      · exact fun z => b n h (by simp [z])
/-! names -/
theorem name_len {x : Str} (h : nameOk x = true) : 1 ≤ x.length ∧ x.length ≤ 8 := by
  unfold nameOk at h
  simp only [Bool.and_eq_true, decide_eq_true_eq] at h
  exact ⟨h.1, h.2.1⟩
theorem letters_lo : ∀ c ∈ letters.cps.toList, 96 < c ∧ c < 123 := by decide +kernel
theorem name_cps {x : Str} (h : nameOk x = true) : ∀ c ∈ x.cps.toList, 96 < c ∧ c < 123 := by
  unfold nameOk at h
  simp only [Bool.and_eq_true, decide_eq_true_eq] at h
  intro c hc
  have := List.all_eq_true.mp h.2.2 c hc
  exact letters_lo c (by simpa [isL] using this)
theorem name_asc {x : Str} (h : nameOk x = true) : Asc 8 x := ⟨(name_len h).2, fun c hc => by have := name_cps h c hc; omega⟩
theorem name_asc19 {x : Str} (h : nameOk x = true) : Asc 19 x := (name_asc h).mono (by decide)
/-! lines and texts -/
theorem tl_def (x : Str) : tl x = x.cps.toList := rfl
theorem sp_tl : tl (" " : Str) = [32] := by decide +kernel
theorem nl_tl : tl ("\n" : Str) = [10] := by decide +kernel
theorem e_tl : tl Str.empty = [] := rfl
theorem e_eq : (("" : String) : Str) = Str.empty := ext_tl (by decide +kernel)
theorem acc_tl : tl ("account" : Str) = [97, 99, 99, 111, 117, 110, 116] := by decide +kernel
theorem in_tl : tl ("in" : Str) = [105, 110] := by decide +kernel
theorem accs_tl : tl ("account " : Str) = [97, 99, 99, 111, 117, 110, 116, 32] := by decide +kernel
theorem ins_tl : tl (" in " : Str) = [32, 105, 110, 32] := by decide +kernel
def lineL : FRow → List Nat
  | (n, none) => tl ("account " : Str) ++ tl n
  | (n, some m) => tl ("account " : Str) ++ (tl n ++ (tl (" in " : Str) ++ tl m))
theorem tl_line (r : FRow) : tl (lineOf r) = lineL r := by
  obtain ⟨n, q⟩ := r
  unfold lineOf
  rw [join_eq, tl_join, sp_tl]
  cases q with
  | none =>
    show tl ("account" : Str) ++ ([32] ++ tl n) = tl ("account " : Str) ++ tl n
    rw [acc_tl, accs_tl]
    rfl
  | some m =>
    show tl ("account" : Str) ++ ([32] ++ (tl n ++ ([32] ++ (tl ("in" : Str) ++ ([32] ++ tl m))))) = tl ("account " : Str) ++ (tl n ++ (tl (" in " : Str) ++ tl m))
    rw [acc_tl, accs_tl, in_tl, ins_tl]
    rfl
theorem joinL_end (S : List Nat) : ∀ ls : List (List Nat), joinL S (ls ++ [[]]) = (ls.map (· ++ S)).flatten
  | [] => rfl
  | [p] => by
    show p ++ (S ++ []) = _
    simp
  | p :: q :: r => by
    have e := joinL_end S (q :: r)
    show p ++ (S ++ joinL S (q :: r ++ [[]])) = _
    rw [e]
    simp
theorem tl_text (rs : List FRow) : tl (textOf rs) = (rs.map fun r => lineL r ++ [10]).flatten := by
  unfold textOf
  rw [join_eq, tl_join, nl_tl, List.map_append, List.map_map]
  show joinL [10] (List.map (tl ∘ lineOf) rs ++ [[]]) = _
  rw [joinL_end, List.map_map]
  congr 1
  refine List.map_congr_left fun r _ => ?_
  show tl (lineOf r) ++ [10] = _
  rw [tl_line]
theorem text_nil : textOf [] = Str.empty := ext_tl (by rw [tl_text]; rfl)
theorem text_snoc (rs : List FRow) (r : FRow) : textOf (rs ++ [r]) = textOf rs ++ (⟨(lineL r ++ [10]).toArray⟩ : Str) := by
  refine ext_tl ?_
  rw [tl_append, tl_text, tl_text, tl_mk]
  simp
theorem word_ns {r : FRow} (h1 : nameOk r.1 = true) (h2 : ∀ m, r.2 = some m → nameOk m = true) : ∀ p ∈ wordsOf r, 32 ∉ tl p ∧ 10 ∉ tl p := by
  obtain ⟨n, q⟩ := r
  have nn : ∀ {x : Str}, nameOk x = true → 32 ∉ tl x ∧ 10 ∉ tl x := fun {x} h => ⟨fun z => by have := name_cps h _ z; omega, fun z => by have := name_cps h _ z; omega⟩
  have ha : 32 ∉ tl ("account" : Str) ∧ 10 ∉ tl ("account" : Str) := by rw [acc_tl]; decide
  have hi : 32 ∉ tl ("in" : Str) ∧ 10 ∉ tl ("in" : Str) := by rw [in_tl]; decide
  cases q with
  | none =>
    intro p hp
    simp only [wordsOf, List.mem_cons, List.not_mem_nil, or_false] at hp
    rcases hp with rfl | rfl
    · exact ha
    · exact nn h1
  | some m =>
    intro p hp
    simp only [wordsOf, List.mem_cons, List.not_mem_nil, or_false] at hp
    rcases hp with rfl | rfl | rfl | rfl
    · exact ha
    · exact nn h1
    · exact hi
    · exact nn (h2 _ rfl)
theorem wordsOf_ne (r : FRow) : wordsOf r ≠ [] := by
  obtain ⟨n, q⟩ := r
  cases q <;> simp [wordsOf]
theorem split_line {r : FRow} (h1 : nameOk r.1 = true) (h2 : ∀ m, r.2 = some m → nameOk m = true) : Txt.split (lineOf r) " " = wordsOf r :=
  split_join sp_tl (by decide +kernel) (wordsOf_ne r) fun p hp => (word_ns h1 h2 p hp).1
theorem line_nn {r : FRow} (h1 : nameOk r.1 = true) (h2 : ∀ m, r.2 = some m → nameOk m = true) : 10 ∉ tl (lineOf r) := by
  obtain ⟨n, q⟩ := r
  rw [tl_line]
  have w := word_ns h1 h2
  have a1 : 10 ∉ tl ("account " : Str) := by rw [accs_tl]; decide
  have a2 : 10 ∉ tl (" in " : Str) := by rw [ins_tl]; decide
  cases q with
  | none =>
    have wn := (w n (by simp [wordsOf])).2
    intro z
    rcases List.mem_append.mp (show 10 ∈ tl ("account " : Str) ++ tl n from z) with z | z
    · exact a1 z
    · exact wn z
  | some m =>
    have wn := (w n (by simp [wordsOf])).2
    have wm := (w m (by simp [wordsOf])).2
    intro z
    rcases List.mem_append.mp (show 10 ∈ tl ("account " : Str) ++ (tl n ++ (tl (" in " : Str) ++ tl m)) from z) with z | z
    · exact a1 z
    rcases List.mem_append.mp z with z | z
    · exact wn z
    rcases List.mem_append.mp z with z | z
    · exact a2 z
    · exact wm z
theorem split_text {rs : List FRow} (g : GoodF [] rs) : Txt.split (textOf rs) "\n" = rs.map lineOf ++ [Str.empty] := by
  refine split_join nl_tl (by decide +kernel) (by simp) fun p hp => ?_
  rcases List.mem_append.mp hp with h | h
  · obtain ⟨r, hr, rfl⟩ := List.mem_map.mp h
    obtain ⟨a, b⟩ := good_mem g hr
    exact line_nn a fun m hm => (b m hm).2
  · rw [List.mem_singleton.mp h]
    exact List.not_mem_nil
theorem line_len {r : FRow} (h1 : nameOk r.1 = true) (h2 : ∀ m, r.2 = some m → nameOk m = true) : (lineOf r).length ≤ 30 := by
  obtain ⟨n, q⟩ := r
  have l1 := (name_len h1).2
  have e : (lineOf (n, q)).length = (lineL (n, q)).length := by rw [← tl_line, tl_def, len_cps]
  rw [e]
  have ln : (tl n).length = n.length := len_cps n
  have la : (tl ("account " : Str)).length = 8 := by rw [accs_tl]; rfl
  have li : (tl (" in " : Str)).length = 4 := by rw [ins_tl]; rfl
  have l1 : n.length ≤ 8 := l1
  cases q with
  | none =>
    show (tl ("account " : Str) ++ tl n).length ≤ 30
    rw [List.length_append]
    omega
  | some m =>
    have l2 := (name_len (h2 m rfl)).2
    have lm : (tl m).length = m.length := len_cps m
    show (tl ("account " : Str) ++ (tl n ++ (tl (" in " : Str) ++ tl m))).length ≤ 30
    simp only [List.length_append]
    omega
/-- what a line of these words says -/
def readRow : List Str → Option FRow
  | [a, n] => if a = ("account" : Str) then some (n, none) else none
  | [a, n, i, m] => if a = ("account" : Str) ∧ i = ("in" : Str) then some (n, some m) else none
  | _ => none
theorem read_words (r : FRow) : readRow (wordsOf r) = some r := by
  obtain ⟨n, q⟩ := r
  cases q <;> simp [wordsOf, readRow]
/-- one text, one list of rows -/
theorem text_inj {rs rs' : List FRow} (g : GoodF [] rs) (g' : GoodF [] rs') (h : textOf rs = textOf rs') : rs = rs' := by
  have e := split_text g
  rw [h, split_text g'] at e
  have e2 : rs'.map lineOf = rs.map lineOf := List.append_cancel_right e
  have key : ∀ {rs : List FRow}, (∀ r ∈ rs, nameOk r.1 = true ∧ ∀ m, r.2 = some m → nameOk m = true) → (rs.map lineOf).map (fun l => readRow (Txt.split l " ")) = rs.map some := by
    intro rs hg
    rw [List.map_map]
    refine List.map_congr_left fun r hr => ?_
    obtain ⟨a, b⟩ := hg r hr
    show readRow (Txt.split (lineOf r) " ") = some r
    rw [split_line a b, read_words]
  have gg : ∀ {rs : List FRow}, GoodF [] rs → ∀ r ∈ rs, nameOk r.1 = true ∧ ∀ m, r.2 = some m → nameOk m = true := fun g r hr => ⟨(good_mem g hr).1, fun m hm => ((good_mem g hr).2 m hm).2⟩
  have k1 := key (gg g)
  have k2 := key (gg g')
  rw [e2, k1] at k2
  exact List.map_inj_right (fun _ _ e => Option.some.inj e) |>.mp k2
end Gf

set_option Elab.async false
set_option linter.all false
set_option maxRecDepth 100000
set_option maxHeartbeats 4000000
/-! tuple(dict), .. -/
namespace Gt
open PySem PySem.Spec PyProof.Rows L2 Gn Gr Gk Go
section
variable {prog : Program} {w : World} {A : Around} {E : Value → Shared → Prop} {s : Shared} {T : String} {r d : Addr} {n : Nat} {P : Nat → Value → Prop} {OK : Heap → Prop}
theorem collect_kdl {Q : List Value → Shared → Prop} (K : PySem.W.KdlSrc prog w T r d n P OK) (hh : A.handled = none) (hok : OK s.heap) (hn : n ≤ sizeLine)
    (hQ : ∀ (h' : Heap) (tk : Nat) (acc : Array Value), (∀ b o, s.heap.get? b = some o → h'.get? b = some o) → ItemsOf P acc n → Q acc.toList { s with heap := h', toks := tk }) :
    wpAny (model prog w) A (collect (.ref r)) Q E s := by
  unfold collect
  refine wpAny_bind (wpAny_runValue (codeAny_builtin F.entry_proto_collect ?_))
  rw [Around.under_plainId F.plain_proto_collect _]
  show wpAny _ A.in1 (newList [] >>= fun l => again (.builtin "list.__iadd__" ⟨[l, .ref r], []⟩)) _ _ s
  refine wpAny_bind (wpAny_newObj_type ?_)
  refine wpAny_pure ⟨plainId_quiet F.plain_list_iadd _, codeAny_builtin F.entry_list_iadd ?_⟩
  rw [Around.under_plainId F.plain_list_iadd _]
  show wpAny _ A.in1 (Builtin.List.listExtendWith (.ref s.heap.objs.size) (.ref r) (.ref s.heap.objs.size)) _ _ _
  have hS : (s.heap.push { cls := .type "list", data := .seq ([] : List Value).toArray }).get? s.heap.objs.size = some { cls := .type "list", data := .seq #[] 0 } := Heap.get?_push_size _ rfl
  have hlt := K.there _ hok
  refine wpAny_mono (PySem.W.kdl_extend (A := A) (R := fun rr s' => rr = .ok (.ret (.ref s.heap.objs.size)) ∧ ∃ (h' : Heap) (tk : Nat) (acc : Array Value) (c' : Nat), s' = { s with heap := h', toks := tk } ∧
      (∀ b o, s.heap.get? b = some o → h'.get? b = some o) ∧ h'.get? s.heap.objs.size = some { cls := .type "list", dict := none, data := .seq acc c', slots := #[] } ∧ ItemsOf P acc n)
    (s := { s with heap := s.heap.push { cls := .type "list", data := .seq ([] : List Value).toArray } }) K hh (K.keep _ _ hok fun b _ o e => Heap.get?_push_of_some _ e) s.heap.objs.size (Nat.ne_of_gt hlt.1) (Nat.ne_of_gt hlt.2) _ 0 hS
    (fun h' tk acc c' hk e hi => ⟨rfl, h', tk, acc, c', rfl, fun b o q => hk b o (Nat.ne_of_lt (Heap.lt_size q)) (Heap.get?_push_of_some _ q), e, hi⟩) hn) (fun fin s' h => ?_) (fun e s' h => ?_)
  · cases fin with
    | done f =>
      obtain ⟨e, h', tk, acc, c', rfl, hk, hS', hi⟩ := h
      cases e
      show wpAny _ A (load s.heap.objs.size >>= _) _ _ _
      exact wpAny_bind (wpAny_load hS' (wpAny_pure (hQ h' tk acc hk hi)))
    | again c' =>
      refine ⟨h.1, codeAny_mono h.2 fun rr s'' hr' => ?_⟩
      obtain ⟨rfl, h', tk, acc, c', rfl, hk, hS', hi⟩ := hr'
      show wpAny _ A (load s.heap.objs.size >>= _) _ _ _
      exact wpAny_bind (wpAny_load hS' (wpAny_pure (hQ h' tk acc hk hi)))
  · exact absurd h.1 (by simp)
theorem code_tuple_new_dict {Q₁ : Value → Shared → Prop} (K : PySem.W.KdlSrc prog w "dict" r d n P OK) (hh : A.handled = none) (hok : OK s.heap) (hn : n ≤ sizeLine)
    (h : ∀ (h' : Heap) (tk : Nat) (acc : Array Value), (∀ b o, s.heap.get? b = some o → h'.get? b = some o) → ItemsOf P acc n →
      Q₁ (.ref h'.objs.size) { s with heap := h'.push { cls := .type "tuple", data := .seq acc }, toks := tk }) :
    codeAny (model prog w) A (.call (.builtin "tuple.__new__") ⟨[.type "tuple", .ref r], []⟩) (wants Q₁ E) s := by
  refine codeAny_of_tree ?_
  show wpAny _ A.in1 (do checkBuiltinCall "tuple.__new__" ⟨[.type "tuple", .ref r], []⟩; again (.builtin "tuple.__new__" ⟨[.type "tuple", .ref r], []⟩)) _ _ s
  refine wpAny_bind (wpAny_of_eq (F.newCall_tuple_1 _) (wpAny_pure ⟨plainId_quiet F.plain_tuple_new _, codeAny_builtin F.entry_tuple_new ?_⟩))
  rw [Around.under_plainId F.plain_tuple_new _]
  have hsub := sub_tuple_self
  have hinit := init_tuple_lookup
  have hmh := madeHere_tuple
  have hTI : s.TypeIs (.ref r) "dict" := K.type _ hok
  have hh1 : A.in1.handled = none := hh
  wp_walk using wpAny_typeOf hTI, collect_kdl (A := A.in1) K hh1 hok hn
  intro h' tk acc hk hacc
  show wpAny _ _ (Builtin.Tuple.tupleExact acc.toList.toArray >>= fun v => ret v) _ _ _
  unfold Builtin.Tuple.tupleExact
  refine wpAny_bind (wpAny_newObj_type ?_ (by show acc.toList.toArray.size ≤ sizeLine; simp only [Array.toArray_toList]; rw [hacc.1]; exact hn))
  refine wpAny_pure ?_
  have e : acc.toList.toArray = acc := by simp
  rw [e]
  exact h h' tk acc hk hacc
theorem call_tuple_dict {Q : Value → Shared → Prop} (K : PySem.W.KdlSrc prog w "dict" r d n P OK) (hh : A.handled = none) (hok : OK s.heap) (hn : n ≤ sizeLine)
    (hQ : ∀ (h' : Heap) (tk : Nat) (acc : Array Value), (∀ b o, s.heap.get? b = some o → h'.get? b = some o) → ItemsOf P acc n →
      Q (.ref h'.objs.size) { s with heap := h'.push { cls := .type "tuple", data := .seq acc }, toks := tk }) :
    wpAny (model prog w) A (call (.type "tuple") [.ref r]) Q E s := by
  refine callType_codes (Q₁ := fun obj s₁ => s₁.TypeIs obj "tuple" ∧ Q obj s₁) F.called_tuple (F.typeCall_tuple_1 _) F.entry_object_init
    (code_tuple_new_dict (A := A.in1) K hh hok hn fun h' tk acc hk hacc => ⟨⟨_, Heap.get?_push_size _ rfl, rfl⟩, hQ h' tk acc hk hacc⟩) fun obj s₁ h₁ => ?_
  exact ⟨h₁.1, F.args_object_init_2 obj _, object_init_meets F.called_tuple.init.lookup F.called_tuple.made (by decide) prog w A.in1 _ s₁ ⟨h₁.1, rfl, h₁.2⟩⟩
end
/-- tuple(dict): a new tuple of its keys -/
def rTupD : List V → Hp → VK → Prop := fun xs H Q => ∃ p kvs, xs = [.ref p] ∧ H p = some (.dK kvs) ∧ ∀ q, H q = none → Q (.ref q) (upd H q (.tup (kvs.map fun kv => kV kv.1)))
theorem call_tuple_dK {X : Cx} (hc : X.calm = true) : CallR X (.type "tuple") rTupD := by
  intro pins s σ H xs us Q I r h
  obtain ⟨p, kvs, e, hk, q⟩ := h
  subst e
  obtain ⟨u, eu, rx⟩ := vals1 r
  subst eu
  obtain rfl : u = Value.ref p := rx
  obtain ⟨z, lo, vs, rk, hd⟩ := (show ObjOk X.prog X.w H s.heap p (.dK kvs) from I.hok p _ hk)
  obtain ⟨ep, hat⟩ := hd.dictAt
  have hl : kvs.length = vs.length := Paired.length rk
  refine call_tuple_dict (PySem.W.kdl_dict (knd := mixKind X.prog X.w) (kvs := vs) (ep := ep) lo) (I.ok.hd hc) hat (by rw [← hl]; exact z) fun h' tk acc hkeep hacc => ?_
  have I1 : Inv X pins σ H { s with heap := h' } := I.kept (t' := s.toks) hkeep
  have rr : Vals (kvs.map fun kv => kV kv.1) acc.toList := by
    have el : acc.toList.length = acc.size := by simp
    refine vals_of_at (by rw [List.length_map, el, hacc.1, hl]) fun j x w h1 h2 => ?_
    obtain ⟨k, y, hky, hi⟩ := hacc.2 j w (by rw [← Array.getElem?_toList]; exact h2)
    have e1 : (kvs.map (·.1))[j]? = some k := by
      rw [KV.keys rk, List.getElem?_map, hky] <;> rfl
    have e2 : (kvs.map fun kv => kV kv.1)[j]? = some (kV k) := by
      have e3 : (kvs.map fun kv => kV kv.1) = (kvs.map (·.1)).map kV := by rw [List.map_map] <;> rfl
      rw [e3, List.getElem?_map, e1] <;> rfl
    rw [e2] at h1
    cases h1
    exact keyIs_rel hi
  have I2 : Inv X pins σ (upd H h'.objs.size (.tup (kvs.map fun kv => kV kv.1))) { s with heap := h'.push { cls := .type "tuple", data := .seq acc }, toks := tk } :=
    I1.laid (t' := tk) (fun b o e => Heap.get?_push_of_some _ e) (Nat.le_refl _) (show ObjOk X.prog X.w _ _ _ (.tup (kvs.map fun kv => kV kv.1)) from ⟨by rw [List.length_map]; exact z, acc.toList, rr, by
      have := IsTup.new h' acc
      simpa using this⟩)
  exact ⟨.ref h'.objs.size, _, I2, rfl, q _ (I1.hok.fresh (Nat.le_refl _))⟩
/-- {k: v for ..} over a walk -/
theorem dc_it {J : It} {n : Nat} {G : Hp → Prop} {Y : Nat → Hp → V → Hp → Prop} (w : Walk J n G Y) {g : TG} {tt : TT} {tk tv : TE} {vs : List Nat} {σ : L2.St} {H1 : Hp} {D : Addr} {Qd : Hp → Prop} (Pv : Nat → Hp → Prop) (h0 : Pv 0 (upd H1 D (.dK []))) (hG : ∀ i H, i ≤ n → Pv i H → G H)
    (hs : ∀ i x H H', i < n → Pv i H → Y i H x H' → g x (wipe σ vs) H' fun σ2 H2 => wipe σ2 vs = wipe σ vs ∧ tt σ2 H2 fun b H3 =>
      if b = true then tk σ2 H3 fun y H4 => tv σ2 H4 fun z H5 => ∃ kvs k, y = kV k ∧ H5 D = some (.dK kvs) ∧ kvs.length < sizeLine ∧ Pv (i + 1) (upd H5 D (.dK (putK kvs k z))) else Pv (i + 1) H3) (hd : ∀ H, Pv n H → Qd H) :
    ∃ W : Nat → Nat → Hp → Prop, (∃ m, W 0 m (upd H1 D (.dK []))) ∧ ∀ i m H, W i m H →
      (J.stop i H ∧ Qd H) ∨ (J.go i H ∧ ∃ Nx : Hp → Prop, (∀ H', Nx H' → ∃ m', m' < m ∧ W (i + 1) m' H') ∧ ∀ x H', J.yld i H x H' → g x (wipe σ vs) H' fun σ2 H2 => wipe σ2 vs = wipe σ vs ∧ tt σ2 H2 fun b H3 =>
        if b = true then tk σ2 H3 fun y H4 => tv σ2 H4 fun z H5 => ∃ kvs k, y = kV k ∧ H5 D = some (.dK kvs) ∧ kvs.length < sizeLine ∧ Nx (upd H5 D (.dK (putK kvs k z))) else Nx H3) := by
  refine ⟨fun i m H => m = n - i ∧ i ≤ n ∧ Pv i H, ⟨n, by simp, Nat.zero_le _, h0⟩, ?_⟩
  rintro i m H ⟨rfl, hi, p⟩
  have q := hG i H hi p
  by_cases hlt : i < n
  · exact .inr ⟨w.goes i H hlt q, Pv (i + 1), fun H' p' => ⟨n - (i + 1), by omega, rfl, hlt, p'⟩, fun x H' y => hs i x H H' hlt p (w.yields i H x H' hlt q y)⟩
  · have e : i = n := by omega
    subst e
    exact .inl ⟨w.stops H q, hd H p⟩
end Gt

set_option Elab.async false
set_option linter.all false
set_option maxRecDepth 100000
set_option maxHeartbeats 4000000
/-! names and words, for any law -/
namespace Lw
open L2 hiding Ext
open PySem PySem.Spec PyProof.Rows Gn Gr Gk Go Gt Gf
theorem iteS {c A B : Prop} [Decidable c] (hc : c) (h : A) : if decide c = true then A else B := by
  rw [if_pos (decide_eq_true hc)]
  exact h
theorem iteN {c A B : Prop} [Decidable c] (hc : ¬ c) (h : B) : if decide c = true then A else B := by
  rw [if_neg (by rw [decide_eq_false hc]; exact Bool.false_ne_true)]
  exact h
theorem take_succ_map {α β : Type} {l : List α} {i : Nat} {c : α} (f : α → β) (h : l[i]? = some c) : (l.take (i + 1)).map f = (l.take i).map f ++ [f c] := by
  rw [List.take_add_one, h, List.map_append]
  rfl
theorem cps_at {z : Str} {i : Nat} {c : Nat} (h : z.cps[i]? = some c) : z.cps.toList[i]? = some c := by simpa using h
theorem cps_len (z : Str) : z.cps.toList.length = z.cps.size := by simp
theorem strs_flat (E : List Str) : (E.map V.str).all flatV = true := by
  rw [List.all_map]
  exact List.all_eq_true.mpr fun _ _ => rfl
theorem inV_strs (x : Str) (E : List Str) : inV (.str x) (E.map V.str) = decide (x ∈ E) := by
  unfold inV
  rw [List.any_map]
  induction E with
  | nil => simp
  | cons y r ih =>
    rw [List.any_cons, ih]
    show ((y == x) || _) = _
    by_cases e : y = x
    · subst e; simp
    · have e' : ¬ x = y := fun z => e z.symm
      simp [e, e']
theorem strlen (a b : Str) : (a ++ b).length = a.length + b.length := strLen_append a b
theorem sum_le {α : Type} (f : α → Nat) {b : Nat} : ∀ l : List α, (∀ x ∈ l, f x ≤ b) → (l.map f).sum ≤ l.length * b
  | [], _ => by simp
  | x :: r, h => by
    have h1 := h x (List.mem_cons_self ..)
    have h2 := sum_le f r fun y hy => h y (List.mem_cons_of_mem _ hy)
    rw [List.map_cons, List.sum_cons, List.length_cons, Nat.succ_mul]
    omega
/-! ### names -/
def lettersOnly (x : Str) : Prop := ∀ c ∈ x.cps.toList, c ∈ letters.cps.toList
theorem nameOk_of {x : Str} (h1 : 1 ≤ x.length) (h2 : x.length ≤ 8) (h : lettersOnly x) : nameOk x = true := by
  unfold nameOk
  rw [decide_eq_true h1, decide_eq_true h2, Bool.true_and, Bool.true_and]
  exact List.all_eq_true.mpr fun c hc => by simpa [isL] using h c hc
theorem lo_of {x : Str} (h : nameOk x = true) : lettersOnly x := by
  unfold nameOk at h
  simp only [Bool.and_eq_true, decide_eq_true_eq] at h
  intro c hc
  simpa [isL] using List.all_eq_true.mp h.2.2 c hc
theorem lo_app {x y : Str} (h : lettersOnly x) (k : lettersOnly y) : lettersOnly (x ++ y) := by
  intro c hc
  rw [cps_app] at hc
  exact (List.mem_append.mp hc).elim (h c) (k c)
theorem lo_cut {x : Str} (h : lettersOnly x) (lo hi : Option Int) : lettersOnly (cutS x lo hi) := by
  intro c hc
  unfold cutS at hc
  exact h c (List.mem_of_mem_drop (List.mem_of_mem_take (by simpa using hc)))
theorem cut6 (x : Str) : (cutS x none (some 6)).length ≤ 6 := by
  rw [← len_cps]
  unfold cutS
  show (List.take _ _).toArray.toList.length ≤ 6
  rw [List.toList_toArray, List.length_take]
  have : HT.sIx x.length x.length (some ((6 : Nat) : Int)) = min 6 x.length := HT.sIx_nat _ _ _
  have this : HT.sIx x.length x.length (some 6) = min 6 x.length := this
  rw [this]
  omega
theorem z_len : ("z" : Str).length = 1 := by decide +kernel
theorem z_lo : lettersOnly ("z" : Str) := by unfold lettersOnly; decide +kernel
def cand (x : Str) (c : Nat) : Str := cutS x none (some 6) ++ "z" ++ oneS' c
  where oneS' (c : Nat) : Str := ⟨#[c]⟩
theorem one_len (c : Nat) : (cand.oneS' c).length = 1 := rfl
theorem one_lo {c : Nat} (h : c ∈ letters.cps.toList) : lettersOnly (cand.oneS' c) := by
  intro b hb
  have : b = c := by simpa [cand.oneS'] using hb
  rw [this]
  exact h
theorem cand_ok {x : Str} (h : lettersOnly x) {c : Nat} (hc : c ∈ letters.cps.toList) : nameOk (cand x c) = true := by
  have h6 := cut6 x
  refine nameOk_of ?_ ?_ (lo_app (lo_app (lo_cut h _ _) z_lo) (one_lo hc))
  · unfold cand
    rw [strlen, strlen, z_len, one_len]
    omega
  · unfold cand
    rw [strlen, strlen, z_len, one_len]
    omega
theorem cand_inj {x : Str} {c c' : Nat} (h : cand x c = cand x c') : c = c' := by
  have e : (cand x c).cps.toList = (cand x c').cps.toList := by rw [h]
  unfold cand at e
  rw [cps_app, cps_app, cps_app, cps_app] at e
  have e2 := List.append_cancel_left e
  simpa [cand.oneS'] using e2
def cands (x : Str) : List Str := letters.cps.toList.map (cand x)
theorem nodup_map {α β : Type} {f : α → β} (hf : ∀ a b, f a = f b → a = b) : ∀ {l : List α}, l.Nodup → (l.map f).Nodup
  | [], _ => by simp
  | a :: r, h => by
    obtain ⟨h1, h2⟩ := List.nodup_cons.mp h
    refine List.nodup_cons.mpr ⟨fun z => ?_, nodup_map hf h2⟩
    obtain ⟨b, hb, e⟩ := List.mem_map.mp z
    exact h1 (hf _ _ e ▸ hb)
theorem cands_nodup (x : Str) : (cands x).Nodup := nodup_map (fun _ _ h => cand_inj h) (by decide +kernel)
theorem cands_len (x : Str) : (cands x).length = 26 := by
  unfold cands
  rw [List.length_map]
  decide +kernel
theorem pigeon : ∀ {ws fs : List Str}, ws.Nodup → (∀ x ∈ ws, x ∈ fs) → ws.length ≤ fs.length
  | [], _, _, _ => Nat.zero_le _
  | x :: ws, fs, hn, hs => by
    obtain ⟨n1, n2⟩ := List.nodup_cons.mp hn
    have hx := hs x (List.mem_cons_self ..)
    have q := pigeon (fs := fs.erase x) n2 fun y hy => (List.mem_erase_of_ne (fun e => n1 (by rw [← e]; exact hy))).mpr (hs y (List.mem_cons_of_mem _ hy))
    have := List.length_erase_of_mem hx
    have := List.length_pos_of_mem hx
    rw [List.length_cons]
    omega
theorem fresh_cand (x : Str) {fs : List Str} (h : fs.length ≤ 8) : ∃ w r, (cands x).filter (fun y => !decide (y ∈ fs)) = w :: r ∧ w ∈ cands x ∧ w ∉ fs := by
  cases e : (cands x).filter (fun y => !decide (y ∈ fs)) with
  | nil =>
    exfalso
    have := pigeon (cands_nodup x) (fs := fs) fun y hy => by
      by_cases m : y ∈ fs
      · exact m
      · have : y ∈ (cands x).filter (fun y => !decide (y ∈ fs)) := List.mem_filter.mpr ⟨hy, by simp [m]⟩
        rw [e] at this
        cases this
    rw [cands_len] at this
    omega
  | cons w r =>
    have hw : w ∈ (cands x).filter (fun y => !decide (y ∈ fs)) := by rw [e]; exact List.mem_cons_self ..
    obtain ⟨a, b⟩ := List.mem_filter.mp hw
    exact ⟨w, r, rfl, a, by simpa using b⟩
theorem join_len (ys : List Str) : (Txt.join Str.empty ys).cps.toList = (ys.map fun y => y.cps.toList).flatten := by
  show TL.tl _ = _
  rw [TL.join_eq, TL.tl_join, e_tl]
  have : ∀ ls : List (List Nat), TL.joinL [] ls = ls.flatten := by
    intro ls
    induction ls with
    | nil => rfl
    | cons p r ih =>
      cases r with
      | nil => show p = _; simp
      | cons q r =>
        show p ++ ([] ++ TL.joinL [] (q :: r)) = _
        rw [ih]
        simp
  rw [this]
theorem join_signs (cs : List Nat) : (Txt.join Str.empty (cs.map cand.oneS')).cps.toList = cs := by
  rw [join_len, List.map_map]
  induction cs with
  | nil => rfl
  | cons c r ih =>
    rw [List.map_cons, List.flatten_cons, ih]
    rfl
def ownText : Str := "account in join ask deposit release send lose copy withdraw arrive spent ideal total over"
def owns : List Str := Txt.split ownText " "
theorem owns_ok : ∀ w ∈ owns, nameOk w = true := by decide +kernel
theorem owns_len : owns.length = 15 := by decide +kernel
theorem filter_take {α : Type} {l : List α} {i : Nat} {c : α} (p : α → Bool) (h : l[i]? = some c) : (l.take (i + 1)).filter p = (l.take i).filter p ++ (if p c = true then [c] else []) := by
  rw [List.take_add_one, h, List.filter_append]
  show _ ++ List.filter p [c] = _
  cases e : p c <;> simp [e]
theorem sizes1128 : ∀ x ∈ ([.int 1, .int 1, .int 2, .int 8] : List V), ∃ j : Int, x = .int j ∧ 1 ≤ j ∧ j ≤ 8 := by
  intro x hx
  simp only [List.mem_cons, List.not_mem_nil, or_false] at hx
  rcases hx with rfl | rfl | rfl | rfl <;> exact ⟨_, rfl, by decide, by decide⟩
end Lw

set_option Elab.async false
set_option linter.all false
set_option maxRecDepth 100000
set_option maxHeartbeats 4000000
namespace Lw
open L2 hiding Ext
open PySem PySem.Spec PyProof.Rows Gn Gr Gk Go Gt Gf
section
variable {P : Program} {w : World} {K : PySem.W.Frag} {mg : Str → Option Value} {base : Heap}
/-- the built-in names, and the module's numbers and letters -/
structure Names (mg : Str → Option Value) : Prop where
  isi : mg "isinstance" = none
  str : mg "str" = none
  int : mg "int" = none
  bool : mg "bool" = none
  list : mg "list" = none
  tuple : mg "tuple" = none
  dict : mg "dict" = none
  len : mg "len" = none
  all : mg "all" = none
  enum : mg "enumerate" = none
  range : mg "range" = none
  min : mg "min" = none
  zip : mg "zip" = none
  repr : mg "repr" = none
  letters : ∃ t, mg "LETTERS" = some (.str letters t)
  longest : ∃ t, mg "LONGEST" = some (.int 8 t)
  largest : ∃ t, mg "LARGEST" = some (.int 1000000000 t)
theorem scName : FnScope ["value", "letter"] ["value"] (defScope sName) := ⟨rfl, rfl, rfl, by decide +kernel, rfl, by decide +kernel, by decide +kernel⟩
theorem ok_name {f : Addr} {fd : FuncData} (F : Fun K "is_name" "is_name" sName f fd) (T : Names mg) : FnOk P w K mg base CX0 1 f fd ["value"] spName := by
  refine F.ok scName (fun vs H Q E h => ?_) (fun cdv A outer s H vs Q E hr h => ?_)
  · obtain ⟨v, r, rfl, _⟩ := h
    rfl
  · obtain ⟨v, r, rfl, hv, k⟩ := h
    have hu := hu_of hr
    have nd := scName.nd
    obtain ⟨t1, hL⟩ := T.letters
    obtain ⟨t2, hM⟩ := T.longest
    refine ⟨_, pss_cons (ps_if (pt_not (pt_val (pe_callB call_isi rfl T.isi (by decide +kernel) (pa_cons (pv 0) (pa_cons (pe_bltn (v := .ty "str") rfl T.str (by decide +kernel) rfl) pa_nil))))) (pss_one (ps_ret pe_bl)) pss_nil)
      (pss_cons (ps_if (PW.pt (pw_or (pt_cmpR op_lt (pe_callB call_len_str rfl T.len PySem.boot_len (pa_cons (pv 0) pa_nil)) pe_int (nomark _)) (pw_or1 (pt_cmpR op_gt (pe_callB call_len_str rfl T.len PySem.boot_len (pa_cons (pv 0) pa_nil)) (pe_glob (v := .int 8) rfl hM ⟨_, rfl⟩) (nomark _))))) (pss_one (ps_ret pe_bl)) pss_nil)
      (pss_one (ps_ret (pe_callB (cr_all rfl) rfl T.all (by decide +kernel) (pa_cons (pe_lc (own := [("letter", 1)]) (g := gName 1) (tt := tYes) rfl nd (pi_str (pv 0)) (blkOk_by (N := ["value", "letter"]) (sc := defScope sName) (by decide +kernel))
        (fun _ _ _ _ _ => pg_name (i := 1) nd rfl (.inl rfl)) (fun _ _ _ _ _ => pts_nil) (fun _ _ _ _ _ => pe_cmpR op_in_sign (pv 1) (pe_glob (v := .str letters) rfl hL ⟨_, rfl⟩) rfl)) pa_nil))))), ?_⟩
    rcases hv with ⟨x, rfl, hx, rfl⟩ | ⟨rfl, hv⟩
    · refine ⟨_, rfl, _, _, _, _, true, rfl, .ty _, (TyT.str x).x, kit_ty (by decide +kernel), true, rfl, iteF ?_⟩
      have hx1 := hx.1
      refine ⟨_, rfl, x, rfl, by rw [sizeLine_eq]; omega, _, _, rfl, rfl, _, rfl, ?_⟩
      unfold nameOk at k
      refine ite2 (fun e => ?_) (fun n1 => ?_)
      · refine iteT ?_
        have e : (x.length : Int) < 1 := of_decide_eq_true e
        rw [show decide (1 ≤ x.length) = false from decide_eq_false (by omega), Bool.false_and] at k
        exact k H Ext.refl
      · have n1 : ¬ (x.length : Int) < 1 := of_decide_eq_false (Bool.eq_false_iff.mpr n1)
        rw [show decide (1 ≤ x.length) = true from decide_eq_true (by omega), Bool.true_and] at k
        refine ⟨_, rfl, x, rfl, by rw [sizeLine_eq]; omega, _, _, rfl, rfl, _, rfl, ?_⟩
        refine ite2 (fun e => ?_) (fun n2 => ?_)
        · have e : (8 : Int) < x.length := of_decide_eq_true e
          rw [show decide (x.length ≤ 8) = false from decide_eq_false (by omega), Bool.false_and] at k
          exact k H Ext.refl
        · have n2 : ¬ (8 : Int) < x.length := of_decide_eq_false (Bool.eq_false_iff.mpr n2)
          rw [show decide (x.length ≤ 8) = true from decide_eq_true (by omega), Bool.true_and] at k
          refine ⟨_, rfl, x, rfl, fun D hD => ?_⟩
          refine lc_it walk_str (fun i H' => H' D = some (.lst (((x.cps.toList.take i).map isL).map V.bl)) ∧ Ext H H') ⟨upd_same, Ext.new hD⟩ (fun _ _ _ _ => trivial) ?_ ?_
          · rintro i y H1 H2 hi ⟨hd, he⟩ ⟨rfl, c, hc, rfl⟩
            refine ⟨rfl, yes_of ?_⟩
            refine ⟨_, rfl, c, _, rfl, rfl, _, hd, ?_, ?_, fun a o e => ?_⟩
            · have := len_cps x
              rw [List.length_map, List.length_map, List.length_take]
              exact small1000 (by omega)
            · rw [upd_same, take_succ_map isL (cps_at hc), List.map_append]
              rfl
            · rw [upd_ne (ne_of_none e hD)]
              exact he a o e
          · rintro H1 ⟨hd, he⟩
            refine ⟨D, _, rfl, SqL.of hd, ?_⟩
            rw [← cps_len, List.take_length, List.all_map]
            exact k H1 he
    · rcases hv with h | h | h | h | h | h <;> exact ⟨_, rfl, _, _, _, _, false, rfl, .ty _, h.x, kit_ty (by decide +kernel), false, rfl, iteT (k H Ext.refl)⟩
theorem scInt : FnScope ["value"] ["value"] (defScope sInt) := ⟨rfl, rfl, rfl, by decide +kernel, rfl, by decide +kernel, by decide +kernel⟩
theorem scAmount : FnScope ["value"] ["value"] (defScope sAmount) := ⟨rfl, rfl, rfl, by decide +kernel, rfl, by decide +kernel, by decide +kernel⟩
/-- what is_int tells of a value -/
def IntV (H : Hp) (v : V) (r : Bool) : Prop := (∃ i, v = .int i ∧ r = true) ∨ (r = false ∧ (TyT H v "NoneType" ∨ TyT H v "bool" ∨ TyT H v "str" ∨ TyT H v "list" ∨ TyT H v "tuple" ∨ TyT H v "dict"))
def spInt : Sp := fun vs H Q _ => ∃ v r, vs = [v] ∧ IntV H v r ∧ Q (.bl r) H
theorem ok_int {f : Addr} {fd : FuncData} (F : Fun K "is_int" "is_int" sInt f fd) (T : Names mg) : FnOk P w K mg base CX0 1 f fd ["value"] spInt := by
  refine F.ok scInt (fun vs H Q E h => ?_) (fun cdv A outer s H vs Q E hr h => ?_)
  · obtain ⟨v, r, rfl, _⟩ := h
    rfl
  · obtain ⟨v, r, rfl, hv, k⟩ := h
    refine ⟨_, pss_one (ps_ret (pe_and (pe_callB call_isi rfl T.isi (by decide +kernel) (pa_cons (pv 0) (pa_cons (pe_bltn (v := .ty "int") rfl T.int (by decide +kernel) rfl) pa_nil))) (pe_one (pe_not (pe_callB call_isi rfl T.isi (by decide +kernel) (pa_cons (pv 0) (pa_cons (pe_bltn (v := .ty "bool") rfl T.bool (by decide +kernel) rfl) pa_nil))))))), ?_⟩
    rcases hv with ⟨i, rfl, rfl⟩ | ⟨rfl, hv⟩
    · refine ⟨_, rfl, _, _, _, _, true, rfl, .ty _, (TyT.int i).x, kit_ty (by decide +kernel), true, rfl, iteT ?_⟩
      exact ⟨_, rfl, _, _, _, _, false, rfl, .ty _, (TyT.int i).x, kit_ty (by decide +kernel), _, rfl, k⟩
    · rcases hv with h | h | h | h | h | h
      all_goals first
        | exact ⟨_, rfl, _, _, _, _, true, rfl, .ty _, h.x, kit_ty (by decide +kernel), true, rfl, iteT ⟨_, rfl, _, _, _, _, true, rfl, .ty _, h.x, kit_ty (by decide +kernel), _, rfl, k⟩⟩
        | exact ⟨_, rfl, _, _, _, _, false, rfl, .ty _, h.x, kit_ty (by decide +kernel), false, rfl, iteF k⟩
theorem ok_amount {f fI : Addr} {fd fdI : FuncData} (F : Fun K "is_amount" "is_amount" sAmount f fd) (T : Names mg) (GI : FnOk P w K mg base CX0 1 fI fdI ["value"] spInt) (bI : Binds K fdI ["value"] []) (kI : PySem.W.keepIn K (.ref fI) = true) (mI : mg "is_int" = some (.ref fI)) :
    FnOk P w K mg base CX0 2 f fd ["value"] spAmt := by
  refine F.ok scAmount (fun vs H Q E h => ?_) (fun cdv A outer s H vs Q E hr h => ?_)
  · obtain ⟨v, r, rfl, _⟩ := h
    rfl
  · obtain ⟨v, r, rfl, hv, k⟩ := h
    obtain ⟨t3, hG⟩ := T.largest
    refine ⟨_, pss_one (ps_ret (pe_and (pe_call GI hr rfl mI kI bI .nil pass0 (pa_cons (pv 0) pa_nil)) (pe_one (pe_chain op_le op_le pe_int (pv 0) (pe_glob (v := .int 1000000000) rfl hG ⟨_, rfl⟩))))), ?_⟩
    rcases hv with ⟨i, rfl, rfl⟩ | ⟨rfl, hv⟩
    · refine ⟨_, rfl, _, _, rfl, .inl ⟨i, rfl, rfl⟩, true, rfl, iteT ?_⟩
      refine ⟨_, rfl, _, _, rfl, rfl, _, rfl, ?_⟩
      unfold amtOk at k
      refine ite2 (fun e => ?_) (fun e => ?_)
      · refine ⟨_, _, rfl, rfl, ?_⟩
        rw [e, Bool.true_and] at k
        exact k H Ext.refl
      · rw [Bool.eq_false_iff.mpr e, Bool.false_and] at k
        exact k H Ext.refl
    · exact ⟨_, rfl, _, _, rfl, .inr ⟨rfl, hv⟩, false, rfl, iteF (k H Ext.refl)⟩
/-! ### is_row, of a row that may stand there -/
def RowAt (H : Hp) (v : V) (r : FRow) : Prop := ∃ p, v = V.ref p ∧ H p = some (.tup [.str r.1, parV r.2])
def RowsAt (H : Hp) (vs : List V) (rs : List FRow) : Prop := vs.length = rs.length ∧ ∀ (i : Nat) (r : FRow), rs[i]? = some r → ∃ p, vs[i]? = some (V.ref p) ∧ H p = some (.tup [.str r.1, parV r.2])
theorem RowsAt.ext {H H' : Hp} {vs : List V} {rs : List FRow} (h : RowsAt H vs rs) (k : Ext H H') : RowsAt H' vs rs :=
  ⟨h.1, fun i r hr => by obtain ⟨p, a, b⟩ := h.2 i r hr; exact ⟨p, a, k _ _ b⟩⟩
def spRow : Sp := fun vs H Q _ => ∃ (v : V) (e : Addr) (r : FRow) (E : List Str), vs = [v, .ref e] ∧ RowAt H v r ∧ H e = some (.lst (E.map V.str)) ∧ RowOk E r ∧ ∀ H', Ext H H' → Q (.bl true) H'
theorem scRow : FnScope ["value", "earlier", "name", "parent"] ["value", "earlier"] (defScope sRow) := ⟨rfl, rfl, rfl, by decide +kernel, rfl, by decide +kernel, by decide +kernel⟩
theorem ok_row {f fN : Addr} {fd fdN : FuncData} (F : Fun K "is_row" "is_row" sRow f fd) (T : Names mg) (GN : FnOk P w K mg base CX0 1 fN fdN ["value"] spName) (bN : Binds K fdN ["value"] []) (kN : PySem.W.keepIn K (.ref fN) = true) (mN : mg "is_name" = some (.ref fN)) :
    FnOk P w K mg base CX0 2 f fd ["value", "earlier"] spRow := by
  refine F.ok scRow (fun vs H Q E h => ?_) (fun cdv A outer s H vs Q E hr h => ?_)
  · obtain ⟨v, e, r, E, rfl, _⟩ := h
    rfl
  · obtain ⟨v, e, r, E, rfl, ⟨p, rfl, hp⟩, he, ⟨r1, r2, r3⟩, k⟩ := h
    have hu := hu_of hr
    have nd := scRow.nd
    refine ⟨_, pss_cons (ps_if (PW.pt (pw_or (pt_not (pt_val (pe_callB call_isi rfl T.isi (by decide +kernel) (pa_cons (pv 0) (pa_cons (pe_bltn (v := .ty "tuple") rfl T.tuple (by decide +kernel) rfl) pa_nil))))) (pw_or1 (pt_cmpR op_ne (pe_callB call_len_seq rfl T.len PySem.boot_len (pa_cons (pv 0) pa_nil)) pe_int (nomark _))))) (pss_one (ps_ret pe_bl)) pss_nil)
      (pss_cons (ps_asg (pv 0) (by exact (pg_tup rfl (pgs_cons (pg_name (i := 2) nd rfl (.inl rfl)) (pgs_cons (pg_name (i := 3) nd rfl (.inl rfl)) pgs_nil)))))
      (pss_cons (ps_if (PW.pt (pw_or (pt_not (pt_val (pe_call GN hr rfl mN kN bN .nil pass0 (pa_cons (pv 2) pa_nil)))) (pw_or1 (pt_cmpR op_in_seq (pv 2) (pv 1) rfl)))) (pss_one (ps_ret pe_bl)) pss_nil)
      (pss_one (ps_ret (pe_or (pe_cmpR op_isN (pv 3) pe_non (nomark _)) (pe_one (pe_cmpR op_in_seq (pv 3) (pv 1) rfl))))))), ?_⟩
    refine ⟨_, rfl, _, _, _, _, true, rfl, .ty _, (TyT.tup hp).x, kit_ty (by decide +kernel), true, rfl, iteF ?_⟩
    refine ⟨_, rfl, p, _, rfl, .inr (SqT.of hp), rfl, _, rfl, iteNS rfl ?_⟩
    refine ⟨_, rfl, p, _, rfl, SqT.of hp, rfl, _, _, rfl, _, _, rfl, rfl, ?_⟩
    refine ⟨_, rfl, _, _, rfl, .inl ⟨r.1, rfl, name_asc19 r1, rfl⟩, fun H1 k1 => ?_⟩
    rw [r1]
    refine ⟨true, rfl, iteF ?_⟩
    refine ⟨_, rfl, _, rfl, e, _, rfl, .inl (SqL.of (k1 _ _ he)), rfl, strs_flat E, _, rfl, ?_⟩
    rw [inV_strs, decide_eq_false r2]
    refine iteF ?_
    refine ⟨_, rfl, rfl, ?_⟩
    cases e2 : r.2 with
    | none =>
      refine ⟨true, rfl, iteT ?_⟩
      exact k _ k1
    | some m =>
      refine ⟨false, rfl, iteF ?_⟩
      refine ⟨_, rfl, _, rfl, e, _, rfl, .inl (SqL.of (k1 _ _ he)), rfl, strs_flat E, ?_⟩
      show Q (.bl (inV (.str m) (E.map V.str))) H1
      rw [inV_strs, decide_eq_true (r3 m e2)]
      exact k _ k1
/-! ### first_wrong, of rows of a forest -/
def spWrong (K : PySem.W.Frag) : Sp := fun vs H Q _ => ∃ (l : Addr) (xs : List V) (rs : List FRow), vs = [.ref l] ∧ SqL K H l xs ∧ (∀ H', Ext H H' → SqL K H' l xs) ∧ RowsAt H xs rs ∧ GoodF [] rs ∧ rs.length ≤ 1000 ∧ ∀ H', Ext H H' → Q (.int rs.length) H'
theorem scWrong : FnScope ["rows", "earlier", "at", "row"] ["rows"] (defScope sWrong) := ⟨rfl, rfl, rfl, by decide +kernel, rfl, by decide +kernel, by decide +kernel⟩
theorem ok_wrong {f fR : Addr} {fd fdR : FuncData} (F : Fun K "first_wrong" "first_wrong" sWrong f fd) (T : Names mg) (GR : FnOk P w K mg base CX0 2 fR fdR ["value", "earlier"] spRow) (bR : Binds K fdR ["value", "earlier"] []) (kR : PySem.W.keepIn K (.ref fR) = true) (mR : mg "is_row" = some (.ref fR)) :
    FnOk P w K mg base CX0 3 f fd ["rows"] (spWrong K) := by
  refine F.ok scWrong (fun vs H Q E h => ?_) (fun cdv A outer s H vs Q E hr h => ?_)
  · obtain ⟨l, xs, rs, rfl, _⟩ := h
    rfl
  · obtain ⟨l, xs, rs, rfl, hl, hlk, hR, hg, hn, k⟩ := h
    have hu := hu_of hr
    have nd := scWrong.nd
    refine ⟨_, pss_cons (ps_set (i := 1) nd rfl (.inl rfl) (pe_lst pa_nil))
      (pss_cons (ps_for PassesOwn.never rfl (pi_enum rfl T.enum (pa_cons (pv 0) pa_nil)) (by exact (pg_tup rfl (pgs_cons (pg_name (i := 2) nd rfl (.inl rfl)) (pgs_cons (pg_name (i := 3) nd rfl (.inl rfl)) pgs_nil))))
        (pss_cons (ps_if (pt_not (pt_val (pe_call GR hr rfl mR kR bR .nil pass0 (pa_cons (pv 3) (pa_cons (pv 1) pa_nil))))) (pss_one (ps_ret (pv 2))) pss_nil)
        (pss_one (ps_expr (pe_bm PySem.F.plainAttrs_list PySem.F.slot_list_append PySem.F.type_list_append mt_append (pv 1) (pa_cons (pe_ix ix_tup (pv 3) pe_int (fun _ _ => rfl)) pa_nil))))))
      (pss_one (ps_ret (pe_callB call_len_seq rfl T.len PySem.boot_len (pa_cons (pv 0) pa_nil))))), ?_⟩
    refine ⟨Nat.zero_le _, fun e he => ?_⟩
    refine ⟨_, rfl, l, xs, rfl, hlk _ (Ext.new he), ?_⟩
    refine for_it walk_enum (fun i σ H' => ∃ (v2 v3 : Option V), σ = [some (.ref l), some (.ref e), v2, v3] ∧ H' e = some (.lst ((fNames (rs.take i)).map V.str)) ∧ Ext H H') ⟨none, none, rfl, upd_same, Ext.new he⟩ (fun i σ H' _ ⟨_, _, _, _, k1⟩ => hlk _ k1) ?_ ?_
    · rintro i x σ H1 H2 hi ⟨v2, v3, rfl, e1, k1⟩ ⟨t, a, b, rfl, ht, rfl, ea, eb⟩
      have ea : some (V.int (i : Nat)) = some a := ea
      cases ea
      have hir : i < rs.length := by have := hR.1; omega
      obtain ⟨p, h1, h2⟩ := hR.2 i _ (List.getElem?_eq_getElem hir)
      have eb : xs[i]? = some b := eb
      rw [h1] at eb
      cases eb
      have ok := good_at hg (List.getElem?_eq_getElem hir)
      rw [List.nil_append] at ok
      have k2 : Ext H (upd H1 t (.tup [.int (i : Nat), .ref p])) := k1.trans (Ext.new ht)
      have e2 : (upd H1 t (.tup [.int (i : Nat), .ref p])) e = some (.lst ((fNames (rs.take i)).map V.str)) := new_same ht _ _ e1
      refine ⟨t, _, rfl, SqT.of upd_same, rfl, _, _, rfl, _, _, rfl, rfl, ?_⟩
      refine ⟨_, rfl, _, rfl, _, e, rs[i], fNames (rs.take i), rfl, ⟨p, rfl, k2 _ _ h2⟩, e2, ok, fun H3 k3 => ?_⟩
      refine ⟨true, rfl, iteF ?_⟩
      have e3 := k3 _ _ e2
      refine ⟨_, rfl, .inl ⟨rfl, _, SqL.of e3⟩, _, rfl, p, _, _, _, rfl, rfl, SqT.of ((k2.trans k3) _ _ h2), rfl, e, _, _, rfl, rfl, e3, ?_, ?_⟩
      · rw [sizeLine_eq, List.length_map, fNames, List.length_map, List.length_take]
        omega
      · refine ⟨_, _, rfl, ?_, fun a o ha => ?_⟩
        · rw [upd_same, names_take, names_take]
          show _ = some (HO.lst (((fNames rs).take (i + 1)).map V.str))
          rw [List.map_take, List.map_take, List.take_add_one]
          have : (List.map V.str (fNames rs))[i]? = some (V.str rs[i].1) := by
            rw [List.getElem?_map, fNames, List.getElem?_map, List.getElem?_eq_getElem hir]
            rfl
          rw [this]
          rfl
        · rw [upd_ne (ne_of_none ha he)]
          exact k3 _ _ (k2 _ _ ha)
    · rintro σ H1 ⟨v2, v3, rfl, e1, k1⟩
      refine ⟨_, rfl, l, xs, rfl, .inl (hlk _ k1), ?_⟩
      rw [hR.1]
      exact k _ k1
end
end Lw

set_option Elab.async false
set_option linter.all false
set_option maxRecDepth 100000
set_option maxHeartbeats 4000000
namespace Lw
open L2 hiding Ext
open PySem PySem.Spec PyProof.Rows Gn Gr Gk Go Gt Gf
/-- what of the text the class Forest has -/
structure FC (K : PySem.W.Frag) (mg : Str → Option Value) (C fI : Addr) (mc : Value) : Prop where
  cl : Cls K C
  make : Mk K C fI
  nP : NoAttr K C "_parents"
  cr : ClX.CRead K C mc
  most : ∃ u, ClX.CVal K C mc "MOST" (.int 8) u
  ha : PySem.W.findIn K (.ref C) "__class__" = some (some (.builtin "object.__class__"))
  hn : PySem.W.specialIn K (.builtin "object.__class__") "__get__" = some (some (.builtin "getset_descriptor.__get__"))
  htk : PySem.W.takesIn K (.builtin "object.__class__") = some true
  hm : PySem.W.mroIn K C (.type "object") = some true
  self : PySem.W.kitOne K (.ref C) (.ref C) = some true
  g : mg "Forest" = some (.ref C)
def kvs (rs : List FRow) : List (Key × V) := rs.map kvOf
def FoAt (C : Addr) (H : Hp) (a : Addr) (rs : List FRow) : Prop := ∃ dx q, H a = some (.ins C dx [("_parents", .ref q)]) ∧ H q = some (.dK (kvs rs))
theorem FoAt.ext {C a : Addr} {H H' : Hp} {rs : List FRow} (h : FoAt C H a rs) (k : Ext H H') : FoAt C H' a rs := by
  obtain ⟨dx, q, h1, h2⟩ := h
  exact ⟨dx, q, k _ _ h1, k _ _ h2⟩
def Good (rs : List FRow) : Prop := 1 ≤ rs.length ∧ rs.length ≤ 8 ∧ GoodF [] rs
theorem kvs_none {rs : List FRow} {n : Str} (h : n ∉ fNames rs) : valV (kvs rs) (Sum.inr n : Key) = none := by
  induction rs with
  | nil => rfl
  | cons r t ih =>
    have h1 : ¬ r.1 = n := fun e => h (by simp [fNames, e])
    have h2 : n ∉ fNames t := fun e => h (List.mem_cons_of_mem _ e)
    show valV ((Sum.inr r.1, parV r.2) :: kvs t) (Sum.inr n : Key) = none
    rw [valV_neg (fun e => h1 (Sum.inr.inj e))]
    exact ih h2
theorem kvs_some : ∀ {rs : List FRow} {r : FRow}, (fNames rs).Nodup → r ∈ rs → valV (kvs rs) (Sum.inr r.1 : Key) = some (parV r.2)
  | [], _, _, h => by cases h
  | x :: t, r, hn, h => by
    have hn' : (x.1 :: fNames t).Nodup := hn
    obtain ⟨n1, n2⟩ := List.nodup_cons.mp hn'
    show valV ((Sum.inr x.1, parV x.2) :: kvs t) (Sum.inr r.1 : Key) = _
    rcases List.mem_cons.mp h with rfl | h
    · exact valV_pos rfl
    · have ne : ¬ x.1 = r.1 := fun e => n1 (by rw [e]; exact List.mem_map.mpr ⟨r, h, rfl⟩)
      rw [valV_neg (fun e => ne (Sum.inr.inj e))]
      exact kvs_some n2 h
section
variable {P : Program} {w : World} {K : PySem.W.Frag} {mg : Str → Option Value} {base : Heap} {C fI : Addr} {mc : Value}
theorem FC.ty (T : FC K mg C fI mc) {H : Hp} {a dx : Addr} {fs : List (Str × V)} (h : H a = some (.ins C dx fs)) : TyX K H (.ref a) (.ref C) := .base (.ins h T.cl T.ha T.hn T.htk T.hm)
/-! ### Forest.__init__ -/
def spInit (C : Addr) : Sp := fun vs H Q _ => ∃ (x l dx : Addr) (xs : List V) (rs : List FRow), vs = [.ref x, .ref l] ∧ H x = some (.ins C dx []) ∧ H l = some (.lst xs) ∧ RowsAt H xs rs ∧ Good rs ∧
  ∀ H' D, (∀ a o, a ≠ x → H a = some o → H' a = some o) → H' x = some (.ins C dx [("_parents", .ref D)]) → H' D = some (.dK (kvs rs)) → Q .non H'
theorem scInit : FnScope ["self", "rows", "name", "parent"] ["self", "rows"] (defScope sInit) := ⟨rfl, rfl, rfl, by decide +kernel, rfl, by decide +kernel, by decide +kernel⟩
theorem ok_init {f fW : Addr} {fd fdW : FuncData} (F : Fun K "__init__" "Forest.__init__" sInit f fd) (T : Names mg) (Z : FC K mg C fI mc) (GW : FnOk P w K mg base CX0 3 fW fdW ["rows"] (spWrong K)) (bW : Binds K fdW ["rows"] []) (kW : PySem.W.keepIn K (.ref fW) = true) (mW : mg "first_wrong" = some (.ref fW)) :
    FnOk P w K mg base CX0 4 f fd ["self", "rows"] (spInit C) := by
  refine F.ok scInit (fun vs H Q E h => ?_) (fun cdv A outer s H vs Q E hr h => ?_)
  · obtain ⟨x, l, dx, xs, rs, rfl, _⟩ := h
    rfl
  · obtain ⟨x, l, dx, xs, rs, rfl, hx, hl, hR, ⟨g1, g8, hg⟩, k⟩ := h
    have hu := hu_of hr
    have nd := scInit.nd
    obtain ⟨um, hM⟩ := Z.most
    refine ⟨_, pss_cons (ps_if (pt_not (pt_val (pe_callB call_isiT rfl T.isi (by decide +kernel) (pa_cons (pv 1) (pa_cons (pe_tup (pa_cons (pe_bltn (v := .ty "list") rfl T.list (by decide +kernel) rfl) (pa_cons (pe_bltn (v := .ty "tuple") rfl T.tuple (by decide +kernel) rfl) pa_nil))) pa_nil))))) pss_never pss_nil)
      (pss_cons (ps_if (PW.pt (pw_or (pt_cmpR op_lt (pe_callB call_len_seq rfl T.len PySem.boot_len (pa_cons (pv 1) pa_nil)) pe_int (nomark _)) (pw_or1 (pt_cmpR op_gt (pe_callB call_len_seq rfl T.len PySem.boot_len (pa_cons (pv 1) pa_nil)) (ClX.pe_cval (pe_glob (v := .ref C) rfl Z.g rfl)) (nomark _))))) pss_never pss_nil)
      (pss_cons (ps_if (pt_cmpR op_lt (pe_call GW hr rfl mW kW bW .nil pass0 (pa_cons (pv 1) pa_nil)) (pe_callB call_len_seq rfl T.len PySem.boot_len (pa_cons (pv 1) pa_nil)) (nomark _)) pss_never pss_nil)
      (pss_one (ps_fld (pv 0) (pe_dc (own := [("name", 2), ("parent", 3)]) (g := gTup K 2 (gCons (gName 2) (gCons (gName 3) gNil))) (tt := tYes) rfl nd (pi_list (pv 1)) (blkOk_by (N := ["self", "rows", "name", "parent"]) (sc := defScope sInit) (by decide +kernel))
        (fun _ _ _ _ _ => by exact (pg_tup rfl (pgs_cons (pg_name (i := 2) nd rfl (.inl rfl)) (pgs_cons (pg_name (i := 3) nd rfl (.inl rfl)) pgs_nil)))) (fun _ _ _ _ _ => pts_nil) (fun _ _ _ _ _ => pv 2) (fun _ _ _ _ _ => pv 3)) rfl)))), ?_⟩
    have hlen : xs.length = rs.length := hR.1
    refine ⟨_, rfl, by show 2 ≤ sizeLine; decide, fun tp htp => ?_⟩
    have hx1 := new_same (o := .tup [.ty "list", .ty "tuple"]) htp _ _ hx
    have hl1 := new_same (o := .tup [.ty "list", .ty "tuple"]) htp _ _ hl
    have k1 : Ext H (upd H tp (.tup [.ty "list", .ty "tuple"])) := Ext.new htp
    have ht1 : (upd H tp (.tup [.ty "list", .ty "tuple"])) tp = some (.tup [.ty "list", .ty "tuple"]) := upd_same
    generalize upd H tp (.tup [.ty "list", .ty "tuple"]) = H1 at hx1 hl1 k1 ht1 ⊢
    refine ⟨_, tp, _, _, [.type "list", .type "tuple"], true, rfl, ht1, .cons (.ty _) (.cons (.ty _) .nil), (TyT.lst hl1).x, kitAny_cons (b := true) (kit_ty (by decide +kernel)) (fun z => by cases z) (fun _ => rfl), true, rfl, iteF ?_⟩
    refine ⟨_, rfl, l, _, rfl, .inl (SqL.of hl1), _, _, rfl, rfl, _, rfl, iteN (by omega) ?_⟩
    refine ⟨_, rfl, l, _, rfl, .inl (SqL.of hl1), C, mc, _, um, rfl, Z.cr, hM, _, _, rfl, rfl, _, rfl, iteN (by omega) ?_⟩
    refine ⟨_, rfl, l, xs, rs, rfl, SqL.of hl1, fun H' k' => SqL.of (k' _ _ hl1), hR.ext k1, hg, by omega, fun H2 k2 => ?_⟩
    have hl2 := k2 _ _ hl1
    have hx2 := k2 _ _ hx1
    refine ⟨_, rfl, l, _, rfl, .inl (SqL.of hl2), _, _, rfl, rfl, _, rfl, iteN (by omega) ?_⟩
    refine ⟨_, rfl, l, rfl, ⟨_, SqL.of hl2⟩, fun D hD => ?_⟩
    refine dc_it walk_list (fun i H' => H' D = some (.dK (kvs (rs.take i))) ∧ Ext H2 H') ⟨upd_same, Ext.new hD⟩ (fun i H' _ ⟨_, e⟩ => SqL.of (e _ _ hl2)) ?_ ?_
    · rintro i y H3 H4 hi ⟨d3, k3⟩ ⟨rfl, hy⟩
      have hir : i < rs.length := by omega
      obtain ⟨p, h1, h2⟩ := hR.2 i _ (List.getElem?_eq_getElem hir)
      rw [h1] at hy
      cases hy
      have ok := good_at hg (List.getElem?_eq_getElem hir)
      rw [List.nil_append] at ok
      refine ⟨p, _, rfl, SqT.of (k3 _ _ (k2 _ _ (k1 _ _ h2))), rfl, _, _, rfl, _, _, rfl, rfl, rfl, yes_of ?_⟩
      refine ⟨_, rfl, _, rfl, kvs (rs.take i), (Sum.inr rs[i].1 : Key), rfl, d3, ?_, ?_, fun a o ha => ?_⟩
      · rw [sizeLine_eq, kvs, List.length_map, List.length_take]
        omega
      · rw [upd_same, putK_new _ (kvs_none ok.2.1)]
        show _ = some (HO.dK ((rs.take (i + 1)).map kvOf))
        rw [take_succ_map kvOf (List.getElem?_eq_getElem hir)]
        rfl
      · rw [upd_ne (ne_of_none ha hD)]
        exact k3 _ _ ha
    · rintro H3 ⟨d3, k3⟩
      rw [hlen, List.take_length] at d3
      refine ⟨_, rfl, x, C, dx, [], rfl, k3 _ _ hx2, Z.cl, Z.nP, by decide, ?_⟩
      refine k _ D (fun a o na ha => ?_) upd_same ?_
      · rw [upd_ne na]
        exact k3 _ _ (k2 _ _ (k1 _ _ ha))
      · rw [upd_ne (ne_of_none hx2 hD).symm]
        exact d3
theorem keys_strs (rs : List FRow) : ((kvs rs).map fun kv => kV kv.1) = (fNames rs).map V.str := by
  unfold kvs fNames
  rw [List.map_map, List.map_map]
  rfl
/-! ### names -/
def spNames (C : Addr) : Sp := fun vs H Q _ => ∃ (a : Addr) (rs : List FRow), vs = [.ref a] ∧ FoAt C H a rs ∧ ∀ H' t, Ext H H' → H t = none → H' t = some (.tup ((fNames rs).map V.str)) → Q (.ref t) H'
theorem scNames : FnScope ["self"] ["self"] (defScope sNames) := ⟨rfl, rfl, rfl, by decide +kernel, rfl, by decide +kernel, by decide +kernel⟩
theorem ok_names {f : Addr} {fd : FuncData} (F : Fun K "names" "Forest.names" sNames f fd) (T : Names mg) (Z : FC K mg C fI mc) : FnOk P w K mg base CX0 1 f fd ["self"] (spNames C) := by
  refine F.ok scNames (fun vs H Q E h => ?_) (fun cdv A outer s H vs Q E hr h => ?_)
  · obtain ⟨a, rs, rfl, _⟩ := h
    rfl
  · obtain ⟨a, rs, rfl, ⟨dx, q, h1, h2⟩, k⟩ := h
    refine ⟨_, pss_one (ps_ret (pe_callTy (call_tuple_dK rfl) rfl T.tuple (by decide +kernel) (pa_cons (pe_fld (pv 0) rfl) pa_nil))), ?_⟩
    refine ⟨_, rfl, a, C, dx, _, _, rfl, h1, Z.cl, Z.nP, rfl, q, _, rfl, h2, fun t ht => ?_⟩
    rw [keys_strs]
    exact k _ t (Ext.new ht) ht upd_same
end
end Lw

set_option Elab.async false
set_option linter.all false
set_option maxRecDepth 100000
set_option maxHeartbeats 4000000
namespace Lw
open L2 hiding Ext
open PySem PySem.Spec PyProof.Rows Gn Gr Gk Go Gt Gf
section
variable {P : Program} {w : World} {K : PySem.W.Frag} {mg : Str → Option Value} {base : Heap}
/-- the two defs that draw, as they stand -/
structure Draw (P : Program) (w : World) (K : PySem.W.Frag) (mg : Str → Option Value) (base : Heap) (ns : List Int) (fT fP : Addr) (fdT fdP : FuncData) : Prop where
  GT : FnOk P w K mg base CX0 2 fT fdT ["_law_state", "_law_size"] (spTake ns)
  bT : Binds K fdT ["_law_state", "_law_size"] []
  kT : PySem.W.keepIn K (.ref fT) = true
  mT : mg "_law_take" = some (.ref fT)
  GP : FnOk P w K mg base CX0 3 fP fdP ["_law_state", "_law_some"] (spPick K ns)
  bP : Binds K fdP ["_law_state", "_law_some"] []
  kP : PySem.W.keepIn K (.ref fP) = true
  mP : mg "_law_pick" = some (.ref fP)
  len : mg "len" = none
  range : mg "range" = none
/-! ### _law_words -/
abbrev nWords : List Str := ["_law_state", "_law_size", "_law_own", "_law_letters", "_law_found", "_law_k", "_law_word", "_law_j", "_law_letter", "_law_spare"]
def spWords (ns : List Int) : Sp := fun vs H Q _ => ∃ (d g c : Addr) (b : Nat) (z : Int), vs = [.ref d, .int z] ∧ Dw ns d g c b H ∧ b ≤ 900000000 ∧ 0 ≤ z ∧ z ≤ 8 ∧
  ∀ (l : Addr) (ws : List Str) (H' : Hp), H l = none → l ≠ d → l ≠ g → H' l = some (.lst (ws.map V.str)) → ws.length = z.toNat → ws.Nodup → (∀ x ∈ ws, nameOk x = true) → Dw ns d g c (b + 200) H' → Kp d g H H' → Q (.ref l) H'
theorem scWords : FnScope nWords ["_law_state", "_law_size"] (defScope sWords) := ⟨rfl, rfl, rfl, by decide +kernel, rfl, by decide +kernel, by decide +kernel⟩
theorem ok_words {f fT fP : Addr} {fd fdT fdP : FuncData} (ns : List Int) (F : Fun K "_law_words" "_law_words" sWords f fd) (R : Draw P w K mg base ns fT fP fdT fdP) : FnOk P w K mg base CX0 4 f fd ["_law_state", "_law_size"] (spWords ns) := by
  refine F.ok scWords (fun vs H Q E h => ?_) (fun cdv A outer s H vs Q E hr h => ?_)
  · obtain ⟨d, g, c, b, z, rfl, _⟩ := h
    rfl
  · obtain ⟨d, g, c, b, z, rfl, D, hb, z0, z8, k⟩ := h
    have hu := hu_of hr
    have nd := scWords.nd
    have hr2 : Room 2 (A.deeper (envOfC "_law_words" (defScope sWords) s.heap.objs.size f cdv)) := hr.mono (by decide)
    refine ⟨_, pss_cons (ps_set (i := 2) nd rfl (.inl rfl) (pe_split pe_str pe_str))
      (pss_cons (ps_asg (pe_tup (pa_cons pe_str (pa_cons (pe_lst pa_nil) pa_nil))) (by exact (pg_tup rfl (pgs_cons (pg_name (i := 3) nd rfl (.inr rfl)) (pgs_cons (pg_name (i := 4) nd rfl (.inr rfl)) pgs_nil)))))
      (pss_cons (ps_for PassesOwn.never rfl (pi_range1 rfl R.range (pa_cons (pv 1) pa_nil)) (pg_name (i := 5) nd rfl (.inl rfl))
        (pss_cons (ps_set (i := 6) nd rfl (.inr rfl) (pe_call R.GP hr rfl R.mP R.kP R.bP .nil pass0 (pa_cons (pv 0) (pa_cons (pv 2) pa_nil))))
        (pss_cons (ps_if (pt_cmpR op_gt (pe_call R.GT hr2 rfl R.mT R.kT R.bT .nil pass0 (pa_cons (pv 0) (pa_cons pe_int pa_nil))) pe_int (nomark _))
          (pss_one (ps_set (i := 6) nd rfl (.inr rfl) (pe_join pe_str (pe_lc (own := [("_law_j", 7)]) (g := gName 7) (tt := tYes) rfl nd (pi_range1 rfl R.range (pa_cons (pe_call R.GP hr rfl R.mP R.kP R.bP .nil pass0 (pa_cons (pv 0) (pa_cons (pe_lst (pa_cons pe_int (pa_cons pe_int (pa_cons pe_int (pa_cons pe_int pa_nil))))) pa_nil))) pa_nil)) (blkOk_by (N := nWords) (sc := defScope sWords) (by decide +kernel))
            (fun _ _ _ _ _ => pg_name (i := 7) nd rfl (.inl rfl)) (fun _ _ _ _ _ => pts_nil) (fun _ _ _ _ _ => pe_call R.GP hr rfl R.mP R.kP R.bP .nil pass0 (pa_cons (pv 0) (pa_cons (pv 3) pa_nil))))))) pss_nil)
        (pss_cons (ps_if (pt_cmpR op_in_seq (pv 6) (pv 4) rfl)
          (pss_one (ps_set (i := 6) nd rfl (.inr rfl) (pe_ix ix_list (pe_lc (own := [("_law_spare", 9)]) (g := gName 9) rfl nd (pi_list
              (pe_lc (own := [("_law_letter", 8)]) (g := gName 8) (tt := tYes) rfl nd (pi_str (pv 3)) (blkOk_by (N := nWords) (sc := defScope sWords) (by decide +kernel))
                (fun _ _ _ _ _ => pg_name (i := 8) nd rfl (.inl rfl)) (fun _ _ _ _ _ => pts_nil) (fun _ _ _ _ _ => pe_op op_add_str (pe_op op_add_str (pe_slice sl_str (pv 6) po_none (po_some pe_int)) pe_str) (pv 8)))) (blkOk_by (N := nWords) (sc := defScope sWords) (by decide +kernel))
              (fun _ _ _ _ _ => pg_name (i := 9) nd rfl (.inl rfl)) (fun _ _ _ _ _ => pts_one (pt_cmpR (r := rIn K true) op_notIn_seq (pv 9) (pv 4) rfl)) (fun _ _ _ _ _ => pv 9)) pe_int (fun _ _ => rfl)))) pss_nil)
        (pss_one (ps_expr (pe_bm PySem.F.plainAttrs_list PySem.F.slot_list_append PySem.F.type_list_append mt_append (pv 4) (pa_cons (pv 6) pa_nil))))))))
      (pss_one (ps_ret (pv 4))))), ?_⟩
    have ho1 : (ownText.length : Nat) ≤ 100 := by decide +kernel
    refine ⟨⟨_, rfl⟩, ownText, _, rfl, rfl, by decide +kernel, by rw [sizeLine_eq]; omega, fun o hoN => ?_⟩
    have Do := D.new (o := .lst (owns.map V.str)) hoN
    have hno : o ≠ d := D.nd hoN
    have hgo : o ≠ g := D.ng hoN
    have ho : (upd H o (.lst (owns.map V.str))) o = some (.lst (owns.map V.str)) := upd_same
    have ko : Kp d g H (upd H o (.lst (owns.map V.str))) := Kp.new hoN
    show tSeq _ _ _ _ (upd H o (.lst (owns.map V.str)))
    generalize upd H o (.lst (owns.map V.str)) = H1 at Do ho ko ⊢
    refine ⟨Nat.zero_le _, fun l hl => ?_⟩
    have Dl := Do.new (o := .lst []) hl
    have hnl : l ≠ d := Do.nd hl
    have hgl : l ≠ g := Do.ng hl
    have hcl : l ≠ c := fun e => by rw [e, Do.cl] at hl; cases hl
    have hol : l ≠ o := (ne_of_none ho hl).symm
    have hlH : H l = none := D.free Do ko hl
    have kl : Kp d g H (upd H1 l (.lst [])) := ko.trans (Kp.new hl)
    have ho2 := new_same (o := .lst []) hl _ _ ho
    have hl2 : (upd H1 l (.lst [])) l = some (.lst (([] : List Str).map V.str)) := upd_same
    generalize upd H1 l (.lst []) = H2 at Dl kl ho2 hl2 ⊢
    refine ⟨by show 2 ≤ sizeLine; decide, fun t ht => ?_⟩
    have Dt := Dl.new (o := .tup [.str letters, .ref l]) ht
    have kt : Kp d g H (upd H2 t (.tup [.str letters, .ref l])) := kl.trans (Kp.new ht)
    have ho3 := new_same (o := .tup [.str letters, .ref l]) ht _ _ ho2
    have hl3 := new_same (o := .tup [.str letters, .ref l]) ht _ _ hl2
    refine ⟨t, _, rfl, SqT.of upd_same, rfl, _, _, rfl, _, _, rfl, rfl, ?_⟩
    show tSeq _ _ _ _ (upd H2 t (.tup [.str letters, .ref l]))
    generalize upd H2 t (.tup [.str letters, .ref l]) = H3 at Dt kt ho3 hl3 ⊢
    refine ⟨_, rfl, z, rfl, by omega, by omega, for_range (lo := 0) (n := z.toNat) (fun i σ H' => ∃ (v5 v6 : Option V) (ws : List Str), σ = [some (.ref d), some (.int z), some (.ref o), some (.str letters), some (.ref l), v5, v6, none, none, none] ∧
        H' o = some (.lst (owns.map V.str)) ∧ H' l = some (.lst (ws.map V.str)) ∧ ws.length = i ∧ ws.Nodup ∧ (∀ x ∈ ws, nameOk x = true) ∧ Dw ns d g c (b + 20 * i) H' ∧ Kp d g H H')
      ⟨none, none, [], rfl, ho3, hl3, rfl, List.nodup_nil, (fun x hx => by cases hx), Dt, kt⟩ ?_ ?_⟩
    · rintro i σ H4 hi ⟨v5, v6, ws, rfl, o4, l4, wl, wn, wok, D4, k4⟩
      refine ⟨_, rfl, _, rfl, d, g, c, _, D4, by omega, .inl ⟨o, _, rfl, o4, hno, hgo, by rw [List.length_map, owns_len]; decide, by rw [List.length_map, owns_len]; decide, fun y H5 hy D5 k5 => ?_⟩⟩
      obtain ⟨w0, hw0, rfl⟩ := List.mem_map.mp hy
      have hw0 := owns_ok w0 hw0
      refine ⟨_, rfl, d, g, c, _, 3, rfl, D5, by omega, by decide, by decide, fun r H6 r0 r1 D6 k6 => ?_⟩
      have l6 := k6 _ _ hnl hgl (k5 _ _ hnl hgl l4)
      have o6 := k6 _ _ hno hgo (k5 _ _ hno hgo o4)
      have k46 : Kp d g H H6 := (k4.trans k5).trans k6
      have fin : ∀ (wd : Str) (H' : Hp) (v5' : Option V), nameOk wd = true → wd ∉ ws → H' o = some (.lst (owns.map V.str)) → H' l = some (.lst (ws.map V.str)) → Dw ns d g c (b + 20 * i + 20) H' → Kp d g H H' →
          ∃ (v5 v6 : Option V) (ws' : List Str), [some (.ref d), some (.int z), some (.ref o), some (.str letters), some (.ref l), v5', some (.str wd), none, none, none] = [some (.ref d), some (.int z), some (.ref o), some (.str letters), some (.ref l), v5, v6, none, none, none] ∧
            (upd H' l (.lst (ws.map V.str ++ [V.str wd]))) o = some (.lst (owns.map V.str)) ∧ (upd H' l (.lst (ws.map V.str ++ [V.str wd]))) l = some (.lst (ws'.map V.str)) ∧ ws'.length = i + 1 ∧ ws'.Nodup ∧ (∀ x ∈ ws', nameOk x = true) ∧ Dw ns d g c (b + 20 * (i + 1)) (upd H' l (.lst (ws.map V.str ++ [V.str wd]))) ∧ Kp d g H (upd H' l (.lst (ws.map V.str ++ [V.str wd]))) := by
        intro wd H' v5' h1 h2 h3 h4 h5 h6
        refine ⟨_, _, ws ++ [wd], rfl, by rw [upd_ne hol.symm]; exact h3, by rw [upd_same, List.map_append]; rfl, by rw [List.length_append, wl]; rfl, ?_, fun x hx => ?_, (h5.put h4 hnl hgl hcl).mono (by omega), fun a u n1 n2 ha => ?_⟩
        · refine List.nodup_append.mpr ⟨wn, by simp, fun a ha a' ha' => ?_⟩
          rw [List.mem_singleton] at ha'
          subst ha'
          exact fun e => h2 (e ▸ ha)
        · rcases List.mem_append.mp hx with hx | hx
          · exact wok x hx
          · rw [List.mem_singleton.mp hx]
            exact h1
        · rw [upd_ne (ne_of_none ha hlH)]
          exact h6 a u n1 n2 ha
      refine ⟨_, _, rfl, rfl, _, rfl, ?_⟩
      refine ite2 (fun e => ?A) (fun e => ?B)
      case' A =>
        refine ⟨⟨_, rfl⟩, _, rfl, by show 4 ≤ sizeLine; decide, fun q hq => ?_⟩
        have D7 := D6.new (o := .lst [.int 1, .int 1, .int 2, .int 8]) hq
        refine ⟨d, g, c, _, D7, by omega, .inl ⟨q, _, rfl, upd_same, D6.nd hq, D6.ng hq, by show 0 < 4; decide, by show 4 ≤ 1000000; decide, fun y2 H8 hy2 D8 k8 => ?_⟩⟩
        obtain ⟨j, rfl, j1, j8⟩ := sizes1128 _ hy2
        have l8 := k8 _ _ hnl hgl (new_same (o := .lst [.int 1, .int 1, .int 2, .int 8]) hq _ _ l6)
        have o8 := k8 _ _ hno hgo (new_same (o := .lst [.int 1, .int 1, .int 2, .int 8]) hq _ _ o6)
        have k48 : Kp d g H H8 := (k46.trans (Kp.new hq)).trans k8
        refine ⟨j, rfl, by omega, by omega, fun L hL => ?_⟩
        have nL : L ≠ d := D8.nd hL
        have gL : L ≠ g := D8.ng hL
        have cL : L ≠ c := fun e => by rw [e, D8.cl] at hL; cases hL
        refine lc_range (lo := 0) (n := j.toNat) (fun i' H' => ∃ cs : List Nat, H' L = some (.lst ((cs.map cand.oneS').map V.str)) ∧ cs.length = i' ∧ (∀ x ∈ cs, x ∈ letters.cps.toList) ∧ Dw ns d g c (b + 20 * i + 3 + i') H' ∧ Kp d g H8 H')
          ⟨[], upd_same, rfl, (fun x hx => by cases hx), (D8.new hL).mono (by omega), Kp.new hL⟩ ?_ ?_
        · rintro i' H9 hi' ⟨cs, d9, cl, cok, D9, k9⟩
          refine ⟨rfl, yes_of ?_⟩
          refine ⟨_, rfl, _, rfl, d, g, c, _, D9, by omega, .inr ⟨_, rfl, by decide +kernel, by decide +kernel, fun y3 H10 hy3 D10 k10 => ?_⟩⟩
          have d10 := k10 _ _ nL gL d9
          refine ⟨_, d10, ?_, cs ++ [y3], ?_, by rw [List.length_append, cl]; rfl, fun x hx => ?_, (D10.put d10 nL gL cL).mono (by omega), fun a u n1 n2 ha => ?_⟩
          · rw [List.length_map, List.length_map]
            exact small1000 (by omega)
          · rw [upd_same, List.map_append, List.map_append]
            rfl
          · rcases List.mem_append.mp hx with hx | hx
            · exact cok x hx
            · rw [List.mem_singleton.mp hx]
              exact hy3
          · rw [upd_ne (ne_of_none ha hL)]
            exact k10 _ _ n1 n2 (k9 _ _ n1 n2 ha)
        rintro H9 ⟨cs, d9, cl, cok, D9, k9⟩
        have jw : nameOk (Txt.join Str.empty (cs.map cand.oneS')) = true := by
          have e9 := join_signs cs
          refine nameOk_of ?_ ?_ (fun x hx => ?_)
          · rw [← len_cps, e9]; omega
          · rw [← len_cps, e9]; omega
          · rw [e9] at hx
            exact cok x hx
        refine ⟨_, L, cs.map cand.oneS', rfl, rfl, .inl (SqL.of d9), ?_, ?_⟩
        · have e0 : ("" : Str).length = 0 := by decide +kernel
          have hs := sum_le (fun y : Str => y.length) (b := 1) (cs.map cand.oneS') fun x hx => by
            obtain ⟨x', _, rfl⟩ := List.mem_map.mp hx
            exact Nat.le_refl 1
          rw [List.length_map] at hs ⊢
          rw [e0]
          omega
        rw [e_eq]
        obtain ⟨wd, hwd, hwk⟩ : ∃ wd, wd = Txt.join Str.empty (cs.map cand.oneS') ∧ nameOk wd = true := ⟨_, rfl, jw⟩
        rw [← hwd]
        have lT := k9 _ _ hnl hgl l8
        have oT := k9 _ _ hno hgo o8
        have kT : Kp d g H H9 := k48.trans k9
        have DT : Dw ns d g c (b + 20 * i + 15) H9 := D9.mono (by omega)
        generalize H9 = HT at lT oT kT DT ⊢
      case' B =>
        obtain ⟨wd, hwd, hwk⟩ : ∃ wd, wd = w0 ∧ nameOk wd = true := ⟨_, rfl, hw0⟩
        rw [← hwd]
        have lT := l6
        have oT := o6
        have kT := k46
        have DT : Dw ns d g c (b + 20 * i + 15) H6 := D6.mono (by omega)
        generalize H6 = HT at lT oT kT DT ⊢
      all_goals
        refine ⟨_, rfl, _, rfl, l, _, rfl, .inl (SqL.of lT), rfl, strs_flat ws, _, rfl, ?_⟩
        rw [inV_strs]
        refine ite2 (fun e => ?_) (fun e => ?_)
        · have hwl := (name_len hwk).2
          refine ⟨_, rfl, letters, rfl, fun D1 hD1 => ?_⟩
          refine lc_it walk_str (fun i' H' => H' D1 = some (.lst (((letters.cps.toList.take i').map (cand wd)).map V.str)) ∧ Ext HT H') ⟨upd_same, Ext.new hD1⟩ (fun _ _ _ _ => trivial) ?_ ?_
          · rintro i' y H1' H2' hi' ⟨hd', he'⟩ ⟨rfl, c', hc', rfl⟩
            have hc2 := cps_at hc'
            refine ⟨rfl, yes_of ?_⟩
            have h6 := cut6 wd
            refine ⟨_, rfl, 6, rfl, wd, rfl, by rw [sizeLine_eq]; omega, _, _, rfl, rfl, by rw [z_len, sizeLine_eq]; omega, _, rfl, _, _, rfl, rfl, by rw [strlen, z_len, sizeLine_eq]; show _ + 1 + 1 ≤ _; omega, _, hd', ?_, ?_, fun a u ha => ?_⟩
            · have : letters.cps.toList.length = 26 := by decide +kernel
              rw [List.length_map, List.length_map, List.length_take]
              exact small1000 (by omega)
            · rw [upd_same, take_succ_map (cand wd) hc2, List.map_append]
              rfl
            · rw [upd_ne (ne_of_none ha hD1)]
              exact he' _ _ ha
          rintro H1' ⟨hd', he'⟩
          rw [← cps_len, List.take_length] at hd'
          have hd' : H1' D1 = some (.lst ((cands wd).map V.str)) := hd'
          have oT1 := he' _ _ oT
          have lT1 := he' _ _ lT
          refine ⟨D1, rfl, ⟨_, SqL.of hd'⟩, fun D2 hD2 => ?_⟩
          refine lc_it walk_list (fun i' H' => H' D2 = some (.lst ((((cands wd).take i').filter (fun y => !decide (y ∈ ws))).map V.str)) ∧ Ext H1' H') ⟨upd_same, Ext.new hD2⟩ (fun i H' _ ⟨_, e⟩ => SqL.of (e _ _ hd')) ?_ ?_
          · rintro i' y H2' H3' hi' ⟨d2, k2⟩ ⟨rfl, hy⟩
            rw [List.getElem?_map] at hy
            obtain ⟨x, hx, rfl⟩ := Option.map_eq_some_iff.mp hy
            have ef := filter_take (fun y => !decide (y ∈ ws)) hx
            refine ⟨rfl, _, rfl, _, rfl, l, _, rfl, .inl (SqL.of (k2 _ _ lT1)), rfl, strs_flat ws, ?_⟩
            show ∃ b, V.bl (!inV (.str x) (ws.map V.str)) = V.bl b ∧ _
            rw [inV_strs]
            refine ⟨_, rfl, ite2 (fun e => ?_) (fun e => ?_)⟩
            · rw [if_pos e] at ef
              refine ⟨_, rfl, _, d2, ?_, ?_, fun a u ha => ?_⟩
              · have h1 := List.length_filter_le (fun y => !decide (y ∈ ws)) ((cands wd).take i')
                rw [List.length_take, cands_len] at h1
                rw [List.length_map]
                exact small1000 (by omega)
              · rw [upd_same, ef, List.map_append]
                rfl
              · rw [upd_ne (ne_of_none ha hD2)]
                exact k2 _ _ ha
            · rw [if_neg e, List.append_nil] at ef
              exact ⟨by rw [ef]; exact d2, k2⟩
          rintro H2' ⟨d2, k2⟩
          rw [List.length_map, List.take_length] at d2
          obtain ⟨w1, rst, e1, m1, n1⟩ := fresh_cand wd (fs := ws) (by omega)
          rw [e1] at d2
          have w1ok : nameOk w1 = true := by
            obtain ⟨c', hc', rfl⟩ := List.mem_map.mp m1
            exact cand_ok (lo_of hwk) hc'
          refine ⟨D2, _, _, V.str w1, rfl, rfl, SqL.of d2, (show atI (V.str w1 :: rst.map V.str) ((0 : Nat) : Int) = some (V.str w1) from atI_nat rfl), ?_⟩
          have lT2 := k2 _ _ lT1
          refine ⟨_, rfl, .inl ⟨rfl, _, SqL.of lT2⟩, _, rfl, l, _, _, rfl, rfl, lT2, by rw [List.length_map]; exact small1000 (by omega), ?_⟩
          exact fin _ _ _ w1ok n1 (k2 _ _ oT1) lT2 ((DT.keep fun a u ha => k2 _ _ (he' _ _ ha)).mono (by omega)) (kT.trans (Kp.of fun a u ha => k2 _ _ (he' _ _ ha)))
        · have e : wd ∉ ws := fun m => e (decide_eq_true m)
          refine ⟨_, rfl, .inl ⟨rfl, _, SqL.of lT⟩, _, rfl, l, _, _, rfl, rfl, lT, by rw [List.length_map]; exact small1000 (by omega), ?_⟩
          exact fin _ _ _ hwk e oT lT (DT.mono (by omega)) kT
    · rintro σ H4 ⟨v5, v6, ws, rfl, o4, l4, wl, wn, wok, D4, k4⟩
      exact ⟨_, rfl, k l ws H4 hlH hnl hgl l4 wl wn wok (D4.mono (by omega)) k4⟩
end
theorem RowsAt.kp {ns : List Int} {d g c : Addr} {b : Nat} {H H' : Hp} {vs : List V} {rs : List FRow} (h : RowsAt H vs rs) (D : Dw ns d g c b H) (k : Kp d g H H') : RowsAt H' vs rs := by
  obtain ⟨⟨gs, l, t, hd, hg, _, _⟩, _⟩ := D
  exact ⟨h.1, fun i r hr => by
    obtain ⟨p, a, e⟩ := h.2 i r hr
    exact ⟨p, a, k _ _ (ne_of e hd (by intro z; cases z)) (ne_of e hg (by intro z; cases z)) e⟩⟩
theorem RowsAt.snoc {H : Hp} {vs : List V} {rs : List FRow} {p : Addr} {r : FRow} (h : RowsAt H vs rs) (hp : H p = some (.tup [.str r.1, parV r.2])) : RowsAt H (vs ++ [V.ref p]) (rs ++ [r]) := by
  refine ⟨by rw [List.length_append, List.length_append, h.1]; rfl, fun i x hx => ?_⟩
  by_cases e : i < rs.length
  · rw [List.getElem?_append_left e] at hx
    rw [List.getElem?_append_left (by rw [h.1]; exact e)]
    exact h.2 i x hx
  · rw [List.getElem?_append_right (by omega)] at hx
    rw [List.getElem?_append_right (by rw [h.1]; omega), h.1]
    have z : i - rs.length = 0 := by
      have := (List.getElem?_eq_some_iff.mp hx).1
      simpa using this
    rw [z] at hx ⊢
    cases hx
    exact ⟨p, rfl, hp⟩
section
variable {P : Program} {w : World} {K : PySem.W.Frag} {mg : Str → Option Value} {base : Heap}
/-! ### _law_forest -/
def spForest (ns : List Int) : Sp := fun vs H Q _ => ∃ (d g c : Addr) (b : Nat) (m : Int), vs = [.ref d, .int m] ∧ Dw ns d g c b H ∧ b ≤ 800000000 ∧ 1 ≤ m ∧ m ≤ 8 ∧
  ∀ (l : Addr) (xs : List V) (rs : List FRow) (H' : Hp), H l = none → l ≠ d → l ≠ g → H' l = some (.lst xs) → RowsAt H' xs rs → Good rs → Dw ns d g c (b + 300) H' → Kp d g H H' → Q (.ref l) H'
abbrev nForest : List Str := ["_law_state", "_law_most", "_law_rows", "_law_name", "_law_parents", "_law_pair"]
theorem scForest : FnScope nForest ["_law_state", "_law_most"] (defScope sForest) := ⟨rfl, rfl, rfl, by decide +kernel, rfl, by decide +kernel, by decide +kernel⟩
theorem ok_forest {f fT fP fW : Addr} {fd fdT fdP fdW : FuncData} (ns : List Int) (F : Fun K "_law_forest" "_law_forest" sForest f fd) (R : Draw P w K mg base ns fT fP fdT fdP)
    (GW : FnOk P w K mg base CX0 4 fW fdW ["_law_state", "_law_size"] (spWords ns)) (bW : Binds K fdW ["_law_state", "_law_size"] []) (kW : PySem.W.keepIn K (.ref fW) = true) (mW : mg "_law_words" = some (.ref fW)) :
    FnOk P w K mg base CX0 5 f fd ["_law_state", "_law_most"] (spForest ns) := by
  refine F.ok scForest (fun vs H Q E h => ?_) (fun cdv A outer s H vs Q E hr h => ?_)
  · obtain ⟨d, g, c, b, m, rfl, _⟩ := h
    rfl
  · obtain ⟨d, g, c, b, m, rfl, D, hb, m1, m8, k⟩ := h
    have hu := hu_of hr
    have nd := scForest.nd
    have hr2 : Room 2 (A.deeper (envOfC "_law_forest" (defScope sForest) s.heap.objs.size f cdv)) := hr.mono (by decide)
    have hr3 : Room 3 (A.deeper (envOfC "_law_forest" (defScope sForest) s.heap.objs.size f cdv)) := hr.mono (by decide)
    refine ⟨_, pss_cons (ps_set (i := 2) nd rfl (.inl rfl) (pe_lst pa_nil))
      (pss_cons (ps_for PassesOwn.never rfl (pi_list (pe_call GW hr rfl mW kW bW .nil pass0 (pa_cons (pv 0) (pa_cons (pe_op op_add pe_int (pe_call R.GT hr2 rfl R.mT R.kT R.bT .nil pass0 (pa_cons (pv 0) (pa_cons (pv 1) pa_nil)))) pa_nil)))) (pg_name (i := 3) nd rfl (.inl rfl))
        (pss_cons (ps_set (i := 4) nd rfl (.inl rfl) (pe_op op_cat (pe_lst (pa_cons pe_non pa_nil)) (pe_lc (own := [("_law_pair", 5)]) (g := gName 5) (tt := tYes) rfl nd (pi_list (pv 2)) (blkOk_by (N := nForest) (sc := defScope sForest) (by decide +kernel))
            (fun _ _ _ _ _ => pg_name (i := 5) nd rfl (.inl rfl)) (fun _ _ _ _ _ => pts_nil) (fun _ _ _ _ _ => pe_ix (r := rIxT K) ix_tup (pv 5) pe_int (fun _ _ => rfl)))))
        (pss_one (ps_expr (pe_bm PySem.F.plainAttrs_list PySem.F.slot_list_append PySem.F.type_list_append mt_append (pv 2) (pa_cons (pe_tup (pa_cons (pv 3) (pa_cons (pe_call R.GP hr3 rfl R.mP R.kP R.bP .nil pass0 (pa_cons (pv 0) (pa_cons (pv 4) pa_nil))) pa_nil))) pa_nil))))))
      (pss_one (ps_ret (pv 2)))), ?_⟩
    refine ⟨Nat.zero_le _, fun l hl => ?_⟩
    have Dl := D.new (o := .lst []) hl
    have hnl : l ≠ d := D.nd hl
    have hgl : l ≠ g := D.ng hl
    have hcl : l ≠ c := fun e => by rw [e, D.cl] at hl; cases hl
    have kl : Kp d g H (upd H l (.lst [])) := Kp.new hl
    have hl1 : (upd H l (.lst [])) l = some (.lst []) := upd_same
    show tSeq _ _ _ _ (upd H l (.lst []))
    generalize upd H l (.lst []) = H1 at Dl kl hl1 ⊢
    refine ⟨_, rfl, _, rfl, _, rfl, d, g, c, _, m, rfl, Dl, by omega, by omega, by omega, fun r H2 r0 r1 D2 k2 => ?_⟩
    refine ⟨1, r, rfl, rfl, d, g, c, _, 1 + r, rfl, D2, by omega, by omega, by omega, fun lw ws H3 lw0 lwd lwg hlw wl wn wok D3 k3 => ?_⟩
    have l3 := k3 _ _ hnl hgl (k2 _ _ hnl hgl hl1)
    have k03 : Kp d g H H3 := (kl.trans k2).trans k3
    refine ⟨lw, rfl, ⟨_, SqL.of hlw⟩, for_it walk_list (fun i σ H' => ∃ (v3 v4 : Option V) (xs : List V) (rs : List FRow), σ = [some (.ref d), some (.int m), some (.ref l), v3, v4, none] ∧ H' l = some (.lst xs) ∧ H' lw = some (.lst (ws.map V.str)) ∧
        RowsAt H' xs rs ∧ fNames rs = ws.take i ∧ GoodF [] rs ∧ Dw ns d g c (b + 1 + 200 + 2 * i) H' ∧ Kp d g H H')
      ⟨none, none, [], [], rfl, l3, hlw, ⟨rfl, fun i r h => by simp at h⟩, rfl, trivial, D3, k03⟩ (fun i σ H' _ ⟨_, _, _, _, _, _, e, _⟩ => SqL.of e) ?_ ?_⟩
    · rintro i y σ H4 H5 hi ⟨v3, v4, xs, rs, rfl, l4, lw4, R4, fn, gf, D4, k4⟩ ⟨rfl, hy⟩
      rw [List.length_map] at hi
      rw [List.getElem?_map, List.getElem?_eq_getElem hi] at hy
      cases hy
      have hrl : rs.length = i := by
        have := congrArg List.length fn
        rw [fNames, List.length_map, List.length_take] at this
        omega
      have hi8 : i ≤ 8 := by omega
      refine ⟨by show 1 ≤ sizeLine; decide, fun a ha => ?_⟩
      have Da := D4.new (o := .lst [.non]) ha
      have nda : a ≠ d := D4.nd ha
      have nga : a ≠ g := D4.ng ha
      have ka : Ext H5 (upd H5 a (.lst [.non])) := Ext.new ha
      have ha1 : (upd H5 a (.lst [.non])) a = some (.lst [.non]) := upd_same
      have l5 := ka _ _ l4
      have R5 := R4.ext ka
      refine ⟨_, rfl, l, rfl, ⟨_, SqL.of l5⟩, fun D' hD' => ?_⟩
      refine lc_it walk_list (fun i' H' => H' D' = some (.lst (((fNames rs).take i').map V.str)) ∧ Ext (upd H5 a (.lst [.non])) H') ⟨upd_same, Ext.new hD'⟩ (fun i' H' _ ⟨_, e⟩ => SqL.of (e _ _ l5)) ?_ ?_
      · rintro i' y H6 H7 hi' ⟨d6, k6⟩ ⟨rfl, hy⟩
        have hir : i' < rs.length := by have := R4.1; omega
        obtain ⟨p, h1, h2⟩ := R5.2 i' _ (List.getElem?_eq_getElem hir)
        rw [h1] at hy
        cases hy
        refine ⟨rfl, yes_of ?_⟩
        refine ⟨_, rfl, p, _, _, _, rfl, rfl, SqT.of (k6 _ _ h2), (show atI [V.str rs[i'].1, parV rs[i'].2] ((0 : Nat) : Int) = some (V.str rs[i'].1) from atI_nat rfl), _, d6, ?_, ?_, fun b' o hb' => ?_⟩
        · rw [List.length_map, List.length_take, fNames, List.length_map]
          exact small1000 (by omega)
        · rw [upd_same, List.take_add_one, List.map_append]
          have : (fNames rs)[i']? = some rs[i'].1 := by rw [fNames, List.getElem?_map, List.getElem?_eq_getElem hir]; rfl
          rw [this]
          rfl
        · rw [upd_ne (ne_of_none hb' hD')]
          exact k6 _ _ hb'
      rintro H6 ⟨d6, k6⟩
      have e0 : (fNames rs).take xs.length = fNames rs := by
        rw [R4.1]
        exact List.take_of_length_le (by rw [fNames, List.length_map]; exact Nat.le_refl _)
      rw [e0] at d6
      refine ⟨a, D', _, _, rfl, rfl, k6 _ _ ha1, d6, ?_, fun q hq => ?_⟩
      · rw [List.length_map, fNames, List.length_map, sizeLine_eq]
        show 1 + _ ≤ _
        omega
      have D6 : Dw ns d g c (b + 1 + 200 + 2 * i) H6 := Da.keep k6
      have k56 : Ext H5 H6 := ka.trans k6
      have Dq := D6.new (o := .lst ([.non] ++ (fNames rs).map V.str)) hq
      have hq1 : (upd H6 q (.lst ([.non] ++ (fNames rs).map V.str))) q = some (.lst ([.non] ++ (fNames rs).map V.str)) := upd_same
      have kq : Ext H5 (upd H6 q (.lst ([.non] ++ (fNames rs).map V.str))) := k56.trans (Ext.new hq)
      have ndq : q ≠ d := D6.nd hq
      have ngq : q ≠ g := D6.ng hq
      show tSeq _ _ _ _ (upd H6 q (.lst ([.non] ++ (fNames rs).map V.str)))
      generalize upd H6 q (.lst ([.non] ++ (fNames rs).map V.str)) = H7 at Dq hq1 kq ⊢
      refine ⟨_, rfl, .inl ⟨rfl, _, SqL.of (kq _ _ l4)⟩, _, rfl, _, rfl, _, rfl, d, g, c, _, Dq, by omega, .inl ⟨q, _, rfl, hq1, ndq, ngq, ?_, ?_, fun x H8 hx D8 k8 => ?_⟩⟩
      · show 0 < _ + 1
        omega
      · rw [List.length_append, List.length_map, fNames, List.length_map]
        show 1 + _ ≤ _
        omega
      obtain ⟨pq, rfl, hpq⟩ : ∃ pq : Option Str, x = parV pq ∧ ∀ mm, pq = some mm → mm ∈ fNames rs := by
        rcases List.mem_append.mp hx with hx | hx
        · rw [List.mem_singleton.mp hx]
          exact ⟨none, rfl, fun mm e => by cases e⟩
        · obtain ⟨mm, hm, rfl⟩ := List.mem_map.mp hx
          exact ⟨some mm, rfl, fun m' e => by cases e; exact hm⟩
      refine ⟨by show 2 ≤ sizeLine; decide, fun t ht => ?_⟩
      have R8 : RowsAt H8 xs rs := (R4.ext kq).kp Dq k8
      have R9 := RowsAt.snoc (r := (ws[i], pq)) (R8.ext (Ext.new (o := .tup [.str ws[i], parV pq]) ht)) upd_same
      have l8 := k8 _ _ hnl hgl (kq _ _ l4)
      have l9 := new_same (o := .tup [.str ws[i], parV pq]) ht _ _ l8
      have lw8 := k8 _ _ lwd lwg (kq _ _ lw4)
      have lw9 := new_same (o := .tup [.str ws[i], parV pq]) ht _ _ lw8
      have D9 := D8.new (o := .tup [.str ws[i], parV pq]) ht
      have nlw : lw ≠ l := fun e => by rw [e] at lw0; rw [k2 _ _ hnl hgl hl1] at lw0; cases lw0
      have k9 : Kp d g H (upd H8 t (.tup [.str ws[i], parV pq])) := ((k4.trans (Kp.of kq)).trans k8).trans (Kp.new ht)
      generalize upd H8 t (.tup [.str ws[i], parV pq]) = H9 at R9 l9 lw9 D9 k9 ⊢
      have xl : xs.length = rs.length := R4.1
      refine ⟨l, _, _, rfl, rfl, l9, small1000 (by omega), ?_⟩
      refine ⟨_, _, xs ++ [.ref t], rs ++ [(ws[i], pq)], rfl, upd_same, by rw [upd_ne nlw]; exact lw9, ⟨R9.1, fun j r' hj => ?_⟩, ?_, good_snoc gf ?_, (D9.put l9 hnl hgl hcl).mono (by omega), fun a' o n1 n2 ha' => ?_⟩
      · obtain ⟨p, b1, b2⟩ := R9.2 j r' hj
        refine ⟨p, b1, ?_⟩
        rw [upd_ne (ne_of b2 l9 (by intro z; cases z))]
        exact b2
      · show fNames (rs ++ [(ws[i], pq)]) = _
        rw [fNames, List.map_append, List.take_add_one, List.getElem?_eq_getElem hi]
        show fNames rs ++ [ws[i]] = _
        rw [fn]
        rfl
      · rw [List.nil_append, fn]
        refine ⟨wok _ (List.getElem_mem hi), fun hm => ?_, fun mm e => by rw [← fn]; exact hpq mm e⟩
        have hm : ws[i] ∈ ws.take i := hm
        obtain ⟨j, hj⟩ := List.mem_iff_getElem?.mp hm
        have hji : j < i := by
          have := (List.getElem?_eq_some_iff.mp hj).1
          rw [List.length_take] at this
          omega
        rw [List.getElem?_take_of_lt hji] at hj
        have hjl : j < ws.length := by omega
        rw [List.getElem?_eq_getElem hjl] at hj
        exact (List.pairwise_iff_getElem.mp wn) j i hjl hi hji (Option.some.inj hj)
      · rw [upd_ne (ne_of_none ha' hl)]
        exact k9 _ _ n1 n2 ha'
    · rintro σ H4 ⟨v3, v4, xs, rs, rfl, l4, lw4, R4, fn, gf, D4, k4⟩
      refine ⟨_, rfl, ?_⟩
      have hrl : rs.length = ws.length := by
        have := congrArg List.length fn
        rw [fNames, List.length_map, List.length_take, List.length_map] at this
        omega
      rw [List.length_map] at D4
      exact k l xs rs H4 hl hnl hgl l4 R4 ⟨by omega, by omega, gf⟩ (D4.mono (by omega)) k4
end
end Lw

set_option Elab.async false
set_option linter.all false
set_option maxRecDepth 100000
set_option maxHeartbeats 4000000
/-! readings that ask more than they need; a list or a tuple walked; dicts of numbers by names -/
namespace Gu
open L2 hiding Ext
open PySem PySem.Spec PyProof.Rows Gn Gk
theorem wT {X : Cx} {e : Expr} {t t' : TT} (h : PT X e t) (w : ∀ σ H k, t' σ H k → t σ H k) : PT X e t' :=
  ⟨fun pins s σ H Q I z => h.run pins s σ H Q I (w _ _ _ z)⟩
theorem wE {X : Cx} {e : Expr} {t t' : TE} (h : PE X e t) (w : ∀ σ H k, t' σ H k → t σ H k) : PE X e t' :=
  ⟨fun pins s σ H Q I z => h.run pins s σ H Q I (w _ _ _ z)⟩
theorem wS {X : Cx} {e : Stmt} {t t' : TS} (h : PS X e t) (w : ∀ D σ H, t' D σ H → t D σ H) : PS X e t' :=
  ⟨fun pins s σ H D I z => h.run pins s σ H D I (w _ _ _ z)⟩
theorem wI {X : Cx} {tg e : Expr} {t t' : TI} (h : PI X tg e t) (w : ∀ σ H R, t' σ H R → t σ H R) : PI X tg e t' :=
  ⟨fun pins s σ H R I z => h.run pins s σ H R I (w _ _ _ z)⟩
theorem iOr {X : Cx} {tg e : Expr} {t t' : TI} (h : PI X tg e t) (h' : PI X tg e t') : PI X tg e (fun σ H R => t σ H R ∨ t' σ H R) :=
  ⟨fun pins s σ H R I z => z.elim (h.run pins s σ H R I) (h'.run pins s σ H R I)⟩
/-- a list or a tuple -/
def ClAt (H : Hp) (a : Addr) (xs : List V) : Prop := H a = some (.lst xs) ∨ H a = some (.tup xs)
theorem ClAt.ext {H H' : Hp} {a : Addr} {xs : List V} (h : ClAt H a xs) (k : Ext H H') : ClAt H' a xs := h.elim (fun e => .inl (k _ _ e)) (fun e => .inr (k _ _ e))
theorem ClAt.sq {K : PySem.W.Frag} {H : Hp} {a : Addr} {xs : List V} (h : ClAt H a xs) : SqL K H a xs ∨ SqT K H a xs := h.elim (fun e => .inl (SqL.of e)) (fun e => .inr (SqT.of e))
theorem wW {J : It} {n : Nat} {G G' : Hp → Prop} {Y : Nat → Hp → V → Hp → Prop} (h : Walk J n G Y) (k : ∀ H, G' H → G H) : Walk J n G' Y :=
  ⟨fun i H hi g => h.goes i H hi (k H g), fun H g => h.stops H (k H g), fun i H x H' hi g y => h.yields i H x H' hi (k H g) y⟩
/-- what a walk over it gives, wherever it stands as it did -/
def iSeqV (i : Nat) : TI := fun σ H R => ∃ (a : Addr) (xs : List V), σ[i]? = some (some (.ref a)) ∧ ClAt H a xs ∧ ∀ J, Walk J xs.length (fun H' => H' a = H a) (YAt xs) → R J H
theorem pi_seqV {X : Cx} {tg e : Expr} {i : Nat} (h : PE X e (tVar i)) : PI X tg e (iSeqV i) := by
  refine wI (iOr (pi_list h) (pi_tup h)) fun σ H R ⟨a, xs, hi, hc, k⟩ => ?_
  rcases hc with hc | hc
  · exact .inl ⟨_, hi, a, rfl, ⟨_, SqL.of hc⟩, k _ (wW walk_list fun H' e => SqL.of (e.trans hc))⟩
  · exact .inr ⟨_, hi, a, rfl, ⟨_, SqT.of hc⟩, k _ (wW walk_tup fun H' e => SqT.of (e.trans hc))⟩
/-- a dict of numbers, by the names in their order -/
def dN (ns : List Str) (t : Str → Int) : List (Key × V) := ns.map fun n => ((Sum.inr n : Key), V.int (t n))
def at_ (t : Str → Int) (n : Str) (z : Int) : Str → Int := fun m => if m = n then z else t m
theorem at_same {t : Str → Int} {n : Str} {z : Int} : at_ t n z n = z := if_pos rfl
theorem at_ne {t : Str → Int} {n m : Str} {z : Int} (h : m ≠ n) : at_ t n z m = t m := if_neg h
theorem dN_get {t : Str → Int} {n : Str} : ∀ {ns : List Str}, n ∈ ns → valV (dN ns t) (Sum.inr n : Key) = some (.int (t n))
  | [], h => by cases h
  | m :: r, h => by
    show valV (((Sum.inr m : Key), V.int (t m)) :: dN r t) _ = _
    by_cases e : m = n
    · subst e; exact valV_pos rfl
    · rw [valV_neg (fun z => e (Sum.inr.inj z))]
      exact dN_get ((List.mem_cons.mp h).resolve_left fun z => e z.symm)
theorem dN_put {t : Str → Int} {n : Str} {z : Int} {ns : List Str} (h : n ∈ ns) : putK (dN ns t) (Sum.inr n : Key) (.int z) = dN ns (at_ t n z) := by
  have e : ((dN ns t).any fun kv => decide (kv.1 = (Sum.inr n : Key))) = true := by
    unfold dN
    rw [List.any_map, List.any_eq_true]
    exact ⟨n, h, by simp⟩
  unfold putK
  rw [if_pos e]
  unfold dN
  rw [List.map_map]
  refine List.map_congr_left fun m hm => ?_
  show (if (Sum.inr m : Key) = Sum.inr n then ((Sum.inr m : Key), V.int z) else ((Sum.inr m : Key), V.int (t m))) = _
  by_cases em : m = n
  · subst em
    rw [if_pos rfl, at_same]
  · rw [if_neg (fun z => em (Sum.inr.inj z)), at_ne em]
theorem dN_len {ns : List Str} {t : Str → Int} : (dN ns t).length = ns.length := by unfold dN; rw [List.length_map]
/-- a dict of numbers, by some names -/
def dB (bs : List (Str × Int)) : List (Key × V) := bs.map fun p => ((Sum.inr p.1 : Key), V.int p.2)
theorem dB_dN (ns : List Str) (t : Str → Int) : dB (ns.map fun n => (n, t n)) = dN ns t := by unfold dB dN; rw [List.map_map]; rfl
theorem dB_get : ∀ {bs : List (Str × Int)} {p : Str × Int}, (bs.map (·.1)).Nodup → p ∈ bs → valV (dB bs) (Sum.inr p.1 : Key) = some (.int p.2)
  | [], _, _, h => by cases h
  | q :: r, p, hn, h => by
    show valV (((Sum.inr q.1 : Key), V.int q.2) :: dB r) _ = _
    obtain ⟨n1, n2⟩ := List.nodup_cons.mp (show (q.1 :: r.map (·.1)).Nodup from hn)
    rcases List.mem_cons.mp h with rfl | h
    · exact valV_pos rfl
    · have ne : ¬ q.1 = p.1 := fun e => n1 (by rw [e]; exact List.mem_map.mpr ⟨p, h, rfl⟩)
      rw [valV_neg (fun z => ne (Sum.inr.inj z))]
      exact dB_get n2 h
theorem dB_none {n : Str} : ∀ {bs : List (Str × Int)}, n ∉ bs.map (·.1) → valV (dB bs) (Sum.inr n : Key) = none
  | [], _ => rfl
  | q :: r, h => by
    show valV (((Sum.inr q.1 : Key), V.int q.2) :: dB r) _ = _
    have ne : ¬ q.1 = n := fun e => h (by rw [← e]; exact List.mem_cons_self ..)
    rw [valV_neg (fun z => ne (Sum.inr.inj z))]
    exact dB_none fun m => h (List.mem_cons_of_mem _ m)
/-- pairs of a name and a number, as tuples in the heap -/
def CsAt (H : Hp) (vs : List V) (cs : List (Str × Int)) : Prop := vs.length = cs.length ∧ ∀ (i : Nat) (c : Str × Int), cs[i]? = some c → ∃ p, vs[i]? = some (V.ref p) ∧ H p = some (.tup [.str c.1, .int c.2])
theorem CsAt.ext {H H' : Hp} {vs : List V} {cs : List (Str × Int)} (h : CsAt H vs cs) (k : Ext H H') : CsAt H' vs cs :=
  ⟨h.1, fun i c hc => by obtain ⟨p, a, b⟩ := h.2 i c hc; exact ⟨p, a, k _ _ b⟩⟩
theorem CsAt.get {H : Hp} {vs : List V} {cs : List (Str × Int)} (h : CsAt H vs cs) {i : Nat} {x : V} (hx : vs[i]? = some x) : ∃ (c : Str × Int) (p : Addr), cs[i]? = some c ∧ x = .ref p ∧ H p = some (.tup [.str c.1, .int c.2]) := by
  have hi : i < cs.length := by rw [← h.1]; exact (List.getElem?_eq_some_iff.mp hx).1
  obtain ⟨p, a, b⟩ := h.2 i _ (List.getElem?_eq_getElem hi)
  rw [hx] at a
  cases a
  exact ⟨_, p, List.getElem?_eq_getElem hi, rfl, b⟩
theorem CsAt.nil {H : Hp} : CsAt H [] [] := ⟨rfl, fun i c h => by cases h⟩
theorem CsAt.snoc {H : Hp} {vs : List V} {cs : List (Str × Int)} {p : Addr} {c : Str × Int} (h : CsAt H vs cs) (hp : H p = some (.tup [.str c.1, .int c.2])) : CsAt H (vs ++ [V.ref p]) (cs ++ [c]) := by
  refine ⟨by rw [List.length_append, List.length_append, h.1]; rfl, fun i c' hc => ?_⟩
  rcases Nat.lt_or_ge i cs.length with hi | hi
  · rw [List.getElem?_append_left hi] at hc
    rw [List.getElem?_append_left (by rw [h.1]; exact hi)]
    exact h.2 i c' hc
  · rw [List.getElem?_append_right hi] at hc
    rw [List.getElem?_append_right (by rw [h.1]; exact hi), h.1]
    cases e : i - cs.length with
    | zero => rw [e] at hc; cases hc; exact ⟨p, rfl, hp⟩
    | succ k => rw [e] at hc; cases hc
theorem CsAt.kp {ns : List Int} {d g c : Addr} {b : Nat} {H H' : Hp} {vs : List V} {cs : List (Str × Int)} (h : CsAt H vs cs) (D : Dw ns d g c b H) (k : Kp d g H H') : CsAt H' vs cs := by
  obtain ⟨⟨gs, l, t, hd, hg, _, _⟩, _⟩ := D
  exact ⟨h.1, fun i r hr => by
    obtain ⟨p, a, e⟩ := h.2 i r hr
    exact ⟨p, a, k _ _ (ne_of e hd (by intro z; cases z)) (ne_of e hg (by intro z; cases z)) e⟩⟩
/-- a dict that is walked is locked meanwhile -/
theorem lock_ext {H H' : Hp} {d : Addr} {u : HO} {od : Obj} (hd : H d = some u) (k : Ext (upd H d (.frz od u)) H') : Ext H (upd H' d u) := fun a o e => by
  by_cases n : a = d
  · subst n
    rw [upd_same, ← hd, e]
  · rw [upd_ne n]
    exact k _ _ (by rw [upd_ne n]; exact e)
theorem lock_in {H : Hp} {d a : Addr} {u o : HO} {od : Obj} (n : a ≠ d) (e : H a = some o) : upd H d (.frz od u) a = some o := by rw [upd_ne n]; exact e
theorem keys_none : ∀ {kvs : List (Key × V)} {k : Key}, k ∉ kvs.map (·.1) → valV kvs k = none
  | [], _, _ => rfl
  | p :: r, k, h => by
    have h1 : ¬ p.1 = k := fun e => h (by rw [← e]; exact List.mem_cons_self ..)
    rw [valV_neg h1]
    exact keys_none fun m => h (List.mem_cons_of_mem _ m)
theorem merge_app : ∀ (more acc : List (Key × V)), ((acc ++ more).map (·.1)).Nodup → mergeK acc more = acc ++ more
  | [], acc, _ => by rw [List.append_nil]; rfl
  | p :: r, acc, h => by
    have hn : p.1 ∉ acc.map (·.1) := by
      intro m
      rw [List.map_append] at h
      exact (List.nodup_append.mp h).2.2 _ m p.1 (List.mem_cons_self ..) rfl
    show mergeK (putK acc p.1 p.2) r = _
    rw [putK_new _ (keys_none hn), merge_app r (acc ++ [(p.1, p.2)]) (by rw [List.append_assoc]; exact h), List.append_assoc]
    rfl
theorem merge_self {kvs : List (Key × V)} (h : (kvs.map (·.1)).Nodup) : mergeK [] kvs = kvs := merge_app kvs [] h
theorem nodup_inr {α : Type} (f : α → Str) : ∀ {l : List α}, (l.map f).Nodup → (l.map fun x => (Sum.inr (f x) : Key)).Nodup
  | [], _ => List.nodup_nil
  | a :: r, h => by
    obtain ⟨h1, h2⟩ := List.nodup_cons.mp (show (f a :: r.map f).Nodup from h)
    refine List.nodup_cons.mpr ⟨fun m => ?_, nodup_inr f h2⟩
    obtain ⟨b, hb, e⟩ := List.mem_map.mp m
    exact h1 (List.mem_map.mpr ⟨b, hb, Sum.inr.inj e⟩)
theorem ix_pos {n : Nat} {r : Int} (h0 : 0 ≤ r) (h1 : r < n) : seqIndex? r n = some r.toNat := (ixN_seq (by unfold ixN; rw [if_pos h0, if_pos h1])).1
end Gu

set_option Elab.async false
set_option linter.all false
set_option maxRecDepth 100000
set_option maxHeartbeats 4000000
/-! zip of two lists or of two tuples at two slots -/
namespace Gv
open L2 hiding Ext
open PySem PySem.Spec PyProof.Rows Gn Gk Gu
theorem walk_zipT {K : PySem.W.Frag} {a b : Addr} {xs ys : List V} {n : Nat} (h : n = min xs.length ys.length) : Walk (RZ.ItzT K a b) n (fun H => SqT K H a xs ∧ SqT K H b ys) (YPair (fun i => xs[i]?) fun i => ys[i]?) := by
  refine ⟨fun i H hi g => ?_, fun H g => ?_, fun i H x H' hi g y => ?_⟩
  · exact ⟨xs, ys, _, _, g.1, g.2, List.getElem?_eq_getElem (by omega), List.getElem?_eq_getElem (by omega)⟩
  · exact ⟨xs, ys, g.1, g.2, by omega⟩
  · obtain ⟨T, x1, x2, e, hT, e2, k1, k2⟩ := y
    exact ⟨T, x1, x2, e, hT, e2, k1 xs g.1, k2 ys g.2⟩
def SameK (H : Hp) (a b : Addr) (xs ys : List V) : Prop := (H a = some (.lst xs) ∧ H b = some (.lst ys)) ∨ (H a = some (.tup xs) ∧ H b = some (.tup ys))
theorem SameK.ext {H H' : Hp} {a b : Addr} {xs ys : List V} (h : SameK H a b xs ys) (k : Ext H H') : SameK H' a b xs ys := h.elim (fun e => .inl ⟨k _ _ e.1, k _ _ e.2⟩) (fun e => .inr ⟨k _ _ e.1, k _ _ e.2⟩)
theorem SameK.c1 {H : Hp} {a b : Addr} {xs ys : List V} (h : SameK H a b xs ys) : ClAt H a xs := h.elim (fun e => .inl e.1) (fun e => .inr e.1)
theorem SameK.c2 {H : Hp} {a b : Addr} {xs ys : List V} (h : SameK H a b xs ys) : ClAt H b ys := h.elim (fun e => .inl e.2) (fun e => .inr e.2)
def iZipV (i j : Nat) : TI := fun σ H R => ∃ (a b : Addr) (xs ys : List V), σ[i]? = some (some (.ref a)) ∧ σ[j]? = some (some (.ref b)) ∧ SameK H a b xs ys ∧ ∀ J, Walk J (min xs.length ys.length) (fun H' => H' a = H a ∧ H' b = H b) (YPair (fun i => xs[i]?) fun i => ys[i]?) → R J H
theorem iZip_ok {K : PySem.W.Frag} {i j : Nat} : ∀ (σ : L2.St) (H : Hp) (R : It → Hp → Prop), iZipV i j σ H R → RZ.iZipA K (tCons (tVar i) (tCons (tVar j) tNil)) σ H R := by
  rintro σ H R ⟨a, b, xs, ys, h1, h2, hc, k⟩
  rcases hc with ⟨h3, h4⟩ | ⟨h3, h4⟩
  · exact ⟨_, h1, _, h2, a, b, xs, ys, rfl, .inl ⟨SqL.of h3, SqL.of h4, k _ (wW (walk_zip rfl) fun H' e => ⟨SqL.of (e.1.trans h3), SqL.of (e.2.trans h4)⟩)⟩⟩
  · exact ⟨_, h1, _, h2, a, b, xs, ys, rfl, .inr ⟨SqT.of h3, SqT.of h4, k _ (wW (walk_zipT rfl) fun H' e => ⟨SqT.of (e.1.trans h3), SqT.of (e.2.trans h4)⟩)⟩⟩
end Gv

set_option Elab.async false
set_option linter.all false
set_option maxRecDepth 100000
set_option maxHeartbeats 4000000
/-! zip of two lists, of two tuples, or of a tuple and a list -/
namespace Gm
open L2 hiding Ext
open PySem PySem.Spec PyProof.Rows Gn Gk Gu
def ItM (K : PySem.W.Frag) (a b : Addr) : It where
  go := fun i H => ∃ xs ys x y, SqT K H a xs ∧ SqL K H b ys ∧ xs[i]? = some x ∧ ys[i]? = some y
  yld := fun i H v H' => ∃ T x y, v = V.ref T ∧ H T = none ∧ H' = upd H T (.tup [x, y]) ∧ (∀ xs, SqT K H a xs → xs[i]? = some x) ∧ ∀ ys, SqL K H b ys → ys[i]? = some y
  stop := fun i H => ∃ xs ys, SqT K H a xs ∧ SqL K H b ys ∧ i = min xs.length ys.length
def tnM (a b z TI TO i1 i2 : Addr) (i : Nat) (h : Heap) : Prop :=
  IsZip h z TI TO Value.none ∧ IsTupOf2 h TI (Value.ref i1) (Value.ref i2) ∧ (∃ x y, IsTupOf2 h TO x y) ∧ h.IsTupleIter i1 a i ∧ h.IsListIter i2 b i
theorem lt_of_get {h : Heap} {a : Addr} {o : Obj} (e : h.get? a = some o) : a < h.objs.size := Heap.lt_size e
theorem turn_zipM {P : Program} {w : World} {K : PySem.W.Frag} {elts : List Expr} {kk : Nat} {tpos : Pos} {a b z TI TO i1 i2 : Addr} (h : ZipApart z TI TO i1 i2 a b) :
    Turn P w K (Expr.Tuple elts kk tpos) (ItM K a b) [z, TI, TO, i1, i2] z (tnM a b z TI TO i1 i2) := by
  have sep : ZipSep2 z TI TO i1 i2 [i1, a] [i2, b] := by
    refine ⟨h.TIz, h.TOz, h.TITO, h.TIi1, by simp, ?_, ?_, h.TIi2, by simp, ?_, ?_, ?_, ?_⟩ <;>
      simp only [List.mem_cons, List.not_mem_nil, or_false, not_or]
    · exact ⟨h.i1z.symm, h.l1z.symm⟩
    · exact ⟨h.TOi1, h.l1TO.symm⟩
    · exact ⟨h.i2z.symm, h.l2z.symm⟩
    · exact ⟨h.TOi2, h.l2TO.symm⟩
    · exact ⟨h.i12, h.l2i1.symm⟩
    · exact ⟨h.i12.symm, h.l1i2.symm⟩
  refine ⟨by simp, ?_, ?_, ?_, ?_, ?_⟩
  · rintro i hp ⟨h1, h2, ⟨x, y, h3⟩, ⟨o4, h4, _, d4⟩, ⟨o5, h5, _, d5⟩⟩ b' hb
    simp only [List.mem_cons, List.not_mem_nil, or_false] at hb
    rcases hb with rfl | rfl | rfl | rfl | rfl
    · exact ⟨_, h1, fun v e => by cases e⟩
    · exact ⟨_, h2, fun v e => by cases e⟩
    · exact ⟨_, h3, fun v e => by cases e⟩
    · exact ⟨_, h4, fun v e => by rw [d4] at e; cases e⟩
    · exact ⟨_, h5, fun v e => by rw [d5] at e; cases e⟩
  · rintro i hp hp' ⟨h1, h2, ⟨x, y, h3⟩, ⟨o4, h4, c4, d4⟩, ⟨o5, h5, c5, d5⟩⟩ k
    exact ⟨k _ (by simp) _ h1, k _ (by simp) _ h2, ⟨x, y, k _ (by simp) _ h3⟩, ⟨o4, k _ (by simp) _ h4, c4, d4⟩, ⟨o5, k _ (by simp) _ h5, c5, d5⟩⟩
  · rintro X rfl rfl rfl hc i pins s σ H E I fp ⟨t1, t2, t3, t4, t5⟩ ⟨xs, ys, x, y, hx, hy, ex, ey⟩
    obtain ⟨its1, v1, p1, _⟩ := I.tuple hx
    obtain ⟨its2, v2, p2, _⟩ := I.list hy
    have hd : X.A.in1.handled = none := I.ok.hd hc
    have G := GoesN.zip2 (elts := elts) (x1 := kk) (pos := tpos) sep (Draws.tuple (prog := X.prog) (w := X.w) hd i1 a h.l1i1 its1.toArray) (Draws.list (prog := X.prog) (w := X.w) hd i2 b h.l2i2 its2.toArray)
    have hi1 := (List.getElem?_eq_some_iff.mp ex).1
    have hi2 := (List.getElem?_eq_some_iff.mp ey).1
    have l1 := v1.length
    have l2 := v2.length
    refine G.goes i s (fun u s2 => ∃ x H', L2.Inv X pins σ H' s2 ∧ L2.RelV x u ∧ (ItM X.K a b).yld i H x H' ∧ tnM a b z TI TO i1 i2 (i + 1) s2.heap ∧ ∀ b ∈ [z, TI, TO, i1, i2], H' b = none) E (by simp; omega) ⟨t1, t2, t3, ⟨t4, p1⟩, ⟨t5, p2.isList⟩⟩ ?_
    rintro v h' tk ⟨T, x', y', rfl, hT, e1, e2, tup⟩ ⟨s1, s2, s3, ⟨s4, _⟩, ⟨s5, _⟩⟩ keep _
    obtain ⟨u1, g1, r1⟩ := v1.get ex
    obtain ⟨u2, g2, r2⟩ := v2.get ey
    have e1 : its1[i]? = some x' := by simpa using e1
    have e2 : its2[i]? = some y' := by simpa using e2
    rw [g1] at e1
    rw [g2] at e2
    cases e1
    cases e2
    have fr := I.hok.fresh hT
    refine ⟨V.ref T, upd H T (.tup [x, y]), ?_, rfl, ⟨T, x, y, rfl, fr, rfl, fun xs' hx' => ?_, fun ys' hy' => ?_⟩, ⟨s1, s2, s3, s4, s5⟩, fun b' hb' => ?_⟩
    · refine I.turnedNew keep (fun b' hb' => fp b' ?_) hT ?_
      · simp only [List.mem_cons, List.not_mem_nil, or_false] at hb' ⊢
        rcases hb' with rfl | rfl | rfl | rfl <;> simp
      · exact ⟨by show 2 ≤ sizeLine; decide, _, .cons r1 (.cons r2 .nil), tup⟩
    · rw [I.tuple_inj hx' hx]; exact ex
    · rw [I.list_inj hy' hy]; exact ey
    · have : b' < s.heap.objs.size := by
        obtain ⟨x, y, t3⟩ := t3
        obtain ⟨o4, t4, _, _⟩ := t4
        obtain ⟨o5, t5, _, _⟩ := t5
        simp only [List.mem_cons, List.not_mem_nil, or_false] at hb'
        rcases hb' with rfl | rfl | rfl | rfl | rfl
        · exact lt_of_get t1
        · exact lt_of_get t2
        · exact lt_of_get t3
        · exact lt_of_get t4
        · exact lt_of_get t5
      rw [upd_ne (Nat.ne_of_lt (Nat.lt_of_lt_of_le this hT))]
      exact (fp b' hb').1
  · rintro X rfl rfl rfl hc i pins s σ H E I fp ⟨t1, t2, t3, t4, t5⟩ ⟨xs, ys, hx, hy, rfl⟩
    obtain ⟨its1, v1, p1, _⟩ := I.tuple hx
    obtain ⟨its2, v2, p2, _⟩ := I.list hy
    have hd : X.A.in1.handled = none := I.ok.hd hc
    have G := GoesN.zip2 (elts := elts) (x1 := kk) (pos := tpos) sep (Draws.tuple (prog := X.prog) (w := X.w) hd i1 a h.l1i1 its1.toArray) (Draws.list (prog := X.prog) (w := X.w) hd i2 b h.l2i2 its2.toArray)
    have l1 := v1.length
    have l2 := v2.length
    have en : min its1.toArray.size its2.toArray.size = min xs.length ys.length := by simp; omega
    rw [en] at G
    refine G.stops s (fun s1 => L2.Inv X pins σ H s1) E ⟨t1, t2, t3, ⟨t4, p1⟩, ⟨t5, p2.isList⟩⟩ fun h' tk keep _ => ?_
    exact I.turnedL keep fun b' hb' => fp b' (by
      simp only [List.mem_cons, List.not_mem_nil, or_false] at hb' ⊢
      rcases hb' with rfl | rfl | rfl | rfl <;> simp)
  · rintro A i s Q E ⟨t1, _⟩ q
    exact wpAny_pyIter_zip t1 q
/-- two lists, two tuples, or a tuple and a list -/
def iZipM (K : PySem.W.Frag) (ta : TA) : TI := fun σ H R => ta σ H fun vs H1 => ∃ a b xs ys, vs = [V.ref a, V.ref b] ∧
  ((SqL K H1 a xs ∧ SqL K H1 b ys ∧ R (Itz K a b) H1) ∨ (SqT K H1 a xs ∧ SqT K H1 b ys ∧ R (RZ.ItzT K a b) H1) ∨ (SqT K H1 a xs ∧ SqL K H1 b ys ∧ R (ItM K a b) H1))
theorem fp5 {X : Cx} {pins : List (Addr × Obj)} {σ : L2.St} {H : Hp} {s : Shared} (I : L2.Inv X pins σ H s) : ∀ b ∈ [s.heap.objs.size + 4, s.heap.objs.size + 2, s.heap.objs.size + 3, s.heap.objs.size, s.heap.objs.size + 1], FpOk X pins H b := fun b hb => by
  simp only [List.mem_cons, List.not_mem_nil, or_false] at hb
  have h : s.heap.objs.size ≤ b := by rcases hb with rfl | rfl | rfl | rfl | rfl <;> first | exact Nat.le_add_right _ _ | exact Nat.le_refl _
  exact I.fpOk h (I.hok.fresh h)
theorem pi_zipM {X : Cx} {e e2 : Expr} {ta : TA} {p pos tpos : Pos} {elts : List Expr} {kk : Nat} (hg : Gl X "zip") (hm : X.mg "zip" = none) (ha : PA X [e, e2] ta)
    (hs : starEach [e, e2] X.env = (false, eval e X.env) :: starEach [e2] X.env := by rfl) (hpl : ((backTo pos (starEach [e2] X.env)).any fun x => x.1) = false := by rfl) :
    PI X (Expr.Tuple elts kk tpos) ((Expr.Name "zip" p).Call [e, e2] [] pos) (iZipM X.K ta) := by
  refine ⟨fun pins s σ H R I h => Call_ (ld_blt I hg hm boot_zip (PyProof.Rows.callWith_type1 (thn (ha.run pos pins s σ H _ I h) ?_) hs hpl))⟩
  rintro us s1 ⟨vs, H1, I1, r1, a, b, xs, ys, rfl, q1⟩
  cases r1 with
  | cons r1 rr => cases rr with
    | cons r2 rr =>
      cases rr
      cases r1
      cases r2
      rcases q1 with ⟨hx, hy, hR⟩ | ⟨hx, hy, hR⟩ | ⟨hx, hy, hR⟩
      · obtain ⟨its1, v1, p1, _⟩ := I1.list hx
        obtain ⟨its2, v2, p2, _⟩ := I1.list hy
        refine zip_begins2 (begins_list a its1.toArray) (begins_list b its2.toArray) p1.isList p2.isList fun h' z1 z2 z3 z4 z5 z6 z7 => wpAny_pyIter_zip z1 ?_
        exact ⟨_, _, _, _, H1, rfl, I1.kept z7, turn_zip (PySem.W.ktu_apart _ a b p1.lt p2.lt), ⟨z1, z2, ⟨_, _, z3⟩, ⟨_, z4, rfl, rfl⟩, ⟨_, z5, rfl, rfl⟩⟩, fp5 I1, hR⟩
      · obtain ⟨its1, v1, p1, _⟩ := I1.tuple hx
        obtain ⟨its2, v2, p2, _⟩ := I1.tuple hy
        refine zip_begins2 (begins_tuple a its1.toArray) (begins_tuple b its2.toArray) p1 p2 fun h' z1 z2 z3 z4 z5 z6 z7 => wpAny_pyIter_zip z1 ?_
        obtain ⟨o1, g1, _⟩ := p1
        obtain ⟨o2, g2, _⟩ := p2
        exact ⟨_, _, _, _, H1, rfl, I1.kept z7, RZ.turn_zipT (PySem.W.ktu_apart _ a b (lt_of_get g1) (lt_of_get g2)), ⟨z1, z2, ⟨_, _, z3⟩, ⟨_, z4, rfl, rfl⟩, ⟨_, z5, rfl, rfl⟩⟩, fp5 I1, hR⟩
      · obtain ⟨its1, v1, p1, _⟩ := I1.tuple hx
        obtain ⟨its2, v2, p2, _⟩ := I1.list hy
        refine zip_begins2 (begins_tuple a its1.toArray) (begins_list b its2.toArray) p1 p2.isList fun h' z1 z2 z3 z4 z5 z6 z7 => wpAny_pyIter_zip z1 ?_
        obtain ⟨o1, g1, _⟩ := p1
        exact ⟨_, _, _, _, H1, rfl, I1.kept z7, turn_zipM (PySem.W.ktu_apart _ a b (lt_of_get g1) p2.lt), ⟨z1, z2, ⟨_, _, z3⟩, ⟨_, z4, rfl, rfl⟩, ⟨_, z5, rfl, rfl⟩⟩, fp5 I1, hR⟩
theorem walk_zipM {K : PySem.W.Frag} {a b : Addr} {xs ys : List V} {n : Nat} (h : n = min xs.length ys.length) : Walk (ItM K a b) n (fun H => SqT K H a xs ∧ SqL K H b ys) (YPair (fun i => xs[i]?) fun i => ys[i]?) := by
  refine ⟨fun i H hi g => ?_, fun H g => ?_, fun i H x H' hi g y => ?_⟩
  · exact ⟨xs, ys, _, _, g.1, g.2, List.getElem?_eq_getElem (by omega), List.getElem?_eq_getElem (by omega)⟩
  · exact ⟨xs, ys, g.1, g.2, h⟩
  · obtain ⟨T, x1, x2, e, hT, e2, k1, k2⟩ := y
    exact ⟨T, x1, x2, e, hT, e2, k1 xs g.1, k2 ys g.2⟩
/-- of one kind, or a tuple beside a list -/
def Mix (H : Hp) (a b : Addr) (xs ys : List V) : Prop := Gv.SameK H a b xs ys ∨ (H a = some (.tup xs) ∧ H b = some (.lst ys))
theorem Mix.ext {H H' : Hp} {a b : Addr} {xs ys : List V} (h : Mix H a b xs ys) (k : Ext H H') : Mix H' a b xs ys := h.elim (fun e => .inl (e.ext k)) (fun e => .inr ⟨k _ _ e.1, k _ _ e.2⟩)
def iZipV (i j : Nat) : TI := fun σ H R => ∃ (a b : Addr) (xs ys : List V), σ[i]? = some (some (.ref a)) ∧ σ[j]? = some (some (.ref b)) ∧ Mix H a b xs ys ∧ ∀ J, Walk J (min xs.length ys.length) (fun H' => H' a = H a ∧ H' b = H b) (YPair (fun i => xs[i]?) fun i => ys[i]?) → R J H
theorem iZip_ok {K : PySem.W.Frag} {i j : Nat} : ∀ (σ : L2.St) (H : Hp) (R : It → Hp → Prop), iZipV i j σ H R → iZipM K (tCons (tVar i) (tCons (tVar j) tNil)) σ H R := by
  rintro σ H R ⟨a, b, xs, ys, h1, h2, hc, k⟩
  rcases hc with (⟨h3, h4⟩ | ⟨h3, h4⟩) | ⟨h3, h4⟩
  · exact ⟨_, h1, _, h2, a, b, xs, ys, rfl, .inl ⟨SqL.of h3, SqL.of h4, k _ (wW (walk_zip rfl) fun H' e => ⟨SqL.of (e.1.trans h3), SqL.of (e.2.trans h4)⟩)⟩⟩
  · exact ⟨_, h1, _, h2, a, b, xs, ys, rfl, .inr (.inl ⟨SqT.of h3, SqT.of h4, k _ (wW (Gv.walk_zipT rfl) fun H' e => ⟨SqT.of (e.1.trans h3), SqT.of (e.2.trans h4)⟩)⟩)⟩
  · exact ⟨_, h1, _, h2, a, b, xs, ys, rfl, .inr (.inr ⟨SqT.of h3, SqL.of h4, k _ (wW (walk_zipM rfl) fun H' e => ⟨SqT.of (e.1.trans h3), SqL.of (e.2.trans h4)⟩)⟩)⟩
end Gm

set_option Elab.async false
set_option linter.all false
set_option maxRecDepth 100000
set_option maxHeartbeats 4000000
/-! enumerate of a list or of a tuple; `is not` of two truth values -/
namespace Gq
open L2 hiding Ext
open PySem PySem.Spec PyProof.Rows Gn Gk Gu
theorem wp_ite {α : Type} {M : Model} {A : Around} {E : Value → Shared → Prop} {s : Shared} {c : Prop} [Decidable c] {a b : Sem α} {Q : α → Shared → Prop} (h1 : wpAny M A a Q E s) (h2 : wpAny M A b Q E s) : wpAny M A (if c then a else b) Q E s := by
  by_cases h : c
  · rw [if_pos h]; exact h1
  · rw [if_neg h]; exact h2
theorem meets_enum1 {v : Value} {o : Obj} {H : Heap → Prop} (B : Begins v o H) :
    Meets (Builtin.«enumerate.__new__» { pos := [Value.type "enumerate", v] }) fun x R s =>
          H s.heap ∧
            R (Except.ok (Flow.ret (Value.ref (s.heap.push o).objs.size)))
              { heap := (s.heap.push o).push { cls := Value.type "enumerate", data := Data.fields #[Value.none, Value.bool false, Value.ref s.heap.objs.size, rawInt 0, Value.none, Value.none] },
                gens := s.gens, drawn := s.drawn, toks := s.toks, os := s.os } := by
  refine Meets.of_wp fun prog w A R s h => ?_
  obtain ⟨hp, g, d, tk, os⟩ := s
  obtain ⟨h1, h⟩ := h
  have q1 := fun {A'} {E Q} q => B.iter prog w A' E { heap := hp, gens := g, drawn := d, toks := tk, os := os } Q h1 q
  have hsub := sub_enumerate
  refine wpAny_bind ?_
  unfold Builtin.SmallTypes.newClass
  refine wpAny_bind ?_
  refine wpAny_pure ?_
  refine wpAny_ite_false rfl ?_
  refine wpAny_bind ?_
  refine wpAny_of_eq hsub ?_
  refine wpAny_ite_false rfl ?_
  refine wpAny_pure ?_
  refine wpAny_ite_true rfl ?_
  refine wpAny_bind ?_
  unfold Builtin.SmallTypes.calledThroughType
  refine wpAny_bind ?_
  refine wpAny_stack_any fun st => wpAny_pure ?_
  refine wp_ite ?_ ?_
  all_goals
    refine wpAny_bind ?_
    refine wpAny_pure ?_
    refine wpAny_bind (q1 ?_)
    refine wpAny_bind ?_
    unfold Builtin.SmallTypes.newRecord
    unfold newObj
    refine wpAny_bind (wpAny_alloc ?_)
    refine wpAny_pure ?_
    refine wpAny_pure ?_
    exact ⟨_, rfl, h⟩
theorem call_enum1 {prog : Program} {w : World} {A : Around} {E : Value → Shared → Prop} {s : Shared} {v : Value} {o : Obj} {H : Heap → Prop} {Q : Value → Shared → Prop} (B : Begins v o H) (h1 : H s.heap)
    (h : ∀ h' : Heap, IsEnum h' (s.heap.objs.size + 1) s.heap.objs.size 0 Value.none → h'.get? s.heap.objs.size = some o → h'.objs.size = s.heap.objs.size + 2 → (∀ (b : Addr) (o : Obj), s.heap.get? b = some o → h'.get? b = some o) →
      Q (Value.ref (s.heap.objs.size + 1)) { heap := h', gens := s.gens, drawn := s.drawn, toks := s.toks, os := s.os }) : wpAny (model prog w) A (call (Value.type "enumerate") [v]) Q E s := by
  refine callType_new F.called_enumerate (by decide) (F.typeCall_enumerate_1 v) (F.newCall_enumerate_1 v) (fun obj => F.args_object_init_2 obj v) F.entry_enumerate_new (meets_enum1 B) ⟨h1, ?_⟩
  have hz := Heap.size_push s.heap o
  have he : ((s.heap.push o).push { cls := Value.type "enumerate", data := Data.fields #[Value.none, Value.bool false, Value.ref s.heap.objs.size, rawInt 0, Value.none, Value.none] }).get? (s.heap.push o).objs.size = some { cls := Value.type "enumerate", data := Data.fields #[Value.none, Value.bool false, Value.ref s.heap.objs.size, rawInt 0, Value.none, Value.none] } := Heap.get?_push_size (s.heap.push o) rfl
  show _ ∧ _
  rw [hz] at he ⊢
  refine ⟨⟨_, he, rfl⟩, h _ he (Heap.get?_push_of_some _ (Heap.get?_push_size s.heap B.free)) (by rw [Heap.size_push, hz]) fun b o' x => Heap.get?_push_of_some _ (Heap.get?_push_of_some o x)⟩
def ItE (K : PySem.W.Frag) (a : Addr) : It where
  go := fun i H => ∃ xs x, SqT K H a xs ∧ xs[i]? = some x
  yld := fun i H v H' => ∃ T x, v = V.ref T ∧ H T = none ∧ H' = upd H T (.tup [.int (i : Nat), x]) ∧ ∀ xs, SqT K H a xs → xs[i]? = some x
  stop := fun i H => ∃ xs, SqT K H a xs ∧ i = xs.length
def tnE (a e it : Addr) (i : Nat) (h : Heap) : Prop := (∃ old, IsEnum h e it ((0 : Int) + (i : Nat)) old) ∧ h.IsTupleIter it a i
theorem turn_enumT {P : Program} {w : World} {K : PySem.W.Frag} {elts : List Expr} {kk : Nat} {tpos : Pos} {a e it : Addr} (h1 : e ≠ it) (h2 : a ≠ e) (h3 : a ≠ it) :
    Turn P w K (Expr.Tuple elts kk tpos) (ItE K a) [e, it] e (tnE a e it) := by
  refine ⟨by simp, ?_, ?_, ?_, ?_, ?_⟩
  · rintro i hp ⟨⟨old, h1⟩, ⟨o4, h4, _, d4⟩⟩ b' hb
    simp only [List.mem_cons, List.not_mem_nil, or_false] at hb
    rcases hb with rfl | rfl
    · exact ⟨_, h1, fun v e => by cases e⟩
    · exact ⟨_, h4, fun v e => by rw [d4] at e; cases e⟩
  · rintro i hp hp' ⟨⟨old, h1⟩, ⟨o4, h4, c4, d4⟩⟩ k
    exact ⟨⟨old, k _ (by simp) _ h1⟩, ⟨o4, k _ (by simp) _ h4, c4, d4⟩⟩
  · rintro X rfl rfl rfl hc i pins s σ H E I fp ⟨t1, t4⟩ ⟨xs, x, hx, ex⟩
    obtain ⟨its1, v1, p1, _⟩ := I.tuple hx
    have hd : X.A.in1.handled = none := I.ok.hd hc
    have G := GoesN.enumFrom (elts := elts) (x1 := kk) (pos := tpos) 0 (Draws.tuple (prog := X.prog) (w := X.w) hd it a h3 its1.toArray) e h1 (by simp only [List.mem_cons, List.not_mem_nil, or_false, not_or]; exact ⟨h1, h2.symm⟩) (by simp)
    have hi1 := (List.getElem?_eq_some_iff.mp ex).1
    have l1 := v1.length
    refine G.goes i s (fun u s2 => ∃ x H', L2.Inv X pins σ H' s2 ∧ L2.RelV x u ∧ (ItE X.K a).yld i H x H' ∧ tnE a e it (i + 1) s2.heap ∧ ∀ b ∈ [e, it], H' b = none) E (by simp; omega) ⟨t1, t4, p1⟩ ?_
    rintro v h' tk ⟨T, t, x', rfl, hT, e1, tup⟩ ⟨s1, s4, _⟩ keep _
    obtain ⟨u1, g1, r1⟩ := v1.get ex
    have e1 : its1[i]? = some x' := by simpa using e1
    rw [g1] at e1
    cases e1
    have fr := I.hok.fresh hT
    refine ⟨V.ref T, upd H T (.tup [.int (i : Nat), x]), ?_, rfl, ⟨T, x, rfl, fr, rfl, fun xs' hx' => ?_⟩, ⟨s1, s4⟩, fun b' hb' => ?_⟩
    · refine I.turnedNew keep (fun b' hb' => fp b' hb') hT ?_
      refine ⟨by show 2 ≤ sizeLine; decide, _, .cons (b := Value.int (0 + (i : Nat)) t) ⟨t, ?_⟩ (.cons r1 .nil), tup⟩
      rw [Int.zero_add]
    · rw [I.tuple_inj hx' hx]; exact ex
    · have : b' < s.heap.objs.size := by
        obtain ⟨old, t1⟩ := t1
        obtain ⟨o4, t4, _, _⟩ := t4
        simp only [List.mem_cons, List.not_mem_nil, or_false] at hb'
        rcases hb' with rfl | rfl
        · exact Gm.lt_of_get t1
        · exact Gm.lt_of_get t4
      rw [upd_ne (Nat.ne_of_lt (Nat.lt_of_lt_of_le this hT))]
      exact (fp b' hb').1
  · rintro X rfl rfl rfl hc i pins s σ H E I fp ⟨t1, t4⟩ ⟨xs, hx, rfl⟩
    obtain ⟨its1, v1, p1, _⟩ := I.tuple hx
    have hd : X.A.in1.handled = none := I.ok.hd hc
    have G := GoesN.enumFrom (elts := elts) (x1 := kk) (pos := tpos) 0 (Draws.tuple (prog := X.prog) (w := X.w) hd it a h3 its1.toArray) e h1 (by simp only [List.mem_cons, List.not_mem_nil, or_false, not_or]; exact ⟨h1, h2.symm⟩) (by simp)
    have l1 := v1.length
    have en : its1.toArray.size = xs.length := by simp; omega
    rw [en] at G
    refine G.stops s (fun s1 => L2.Inv X pins σ H s1) E ⟨t1, t4, p1⟩ fun h' tk keep _ => ?_
    exact I.turnedL keep fun b' hb' => fp b' hb'
  · rintro A i s Q E ⟨⟨old, t1⟩, _⟩ q
    exact wpAny_pyIter_enum t1 q
theorem fp2 {X : Cx} {pins : List (Addr × Obj)} {σ : L2.St} {H : Hp} {s : Shared} (I : L2.Inv X pins σ H s) : ∀ b ∈ [s.heap.objs.size + 1, s.heap.objs.size], FpOk X pins H b := fun b hb => by
  simp only [List.mem_cons, List.not_mem_nil, or_false] at hb
  have h : s.heap.objs.size ≤ b := by rcases hb with rfl | rfl <;> first | exact Nat.le_add_right _ _ | exact Nat.le_refl _
  exact I.fpOk h (I.hok.fresh h)
/-- a list or a tuple -/
def iEnumM (K : PySem.W.Frag) (ta : TA) : TI := fun σ H R => ta σ H fun vs H1 => ∃ a xs, vs = [V.ref a] ∧ ((SqL K H1 a xs ∧ R (Ite K a) H1) ∨ (SqT K H1 a xs ∧ R (ItE K a) H1))
theorem ne_lt {a N : Nat} (h : a < N) : a ≠ N + 1 ∧ a ≠ N := by omega
theorem pi_enumM {X : Cx} {e : Expr} {ta : TA} {p pos tpos : Pos} {elts : List Expr} {kk : Nat} (hg : Gl X "enumerate") (hm : X.mg "enumerate" = none) (ha : PA X [e] ta)
    (hs : starEach [e] X.env = (false, eval e X.env) :: starEach [] X.env := by rfl) (hpl : ((backTo pos (starEach [] X.env)).any fun x => x.1) = false := by rfl) :
    PI X (Expr.Tuple elts kk tpos) ((Expr.Name "enumerate" p).Call [e] [] pos) (iEnumM X.K ta) := by
  refine ⟨fun pins s σ H R I h => Call_ (ld_blt I hg hm boot_enumerate (PyProof.Rows.callWith_type1 (thn (ha.run pos pins s σ H _ I h) ?_) hs hpl))⟩
  rintro us s1 ⟨vs, H1, I1, r1, a, xs, rfl, q1⟩
  cases r1 with
  | cons r1 rr =>
    cases rr
    cases r1
    rcases q1 with ⟨hx, hR⟩ | ⟨hx, hR⟩
    · obtain ⟨its1, v1, p1, _⟩ := I1.list hx
      refine call_enum1 (begins_list a its1.toArray) p1.isList fun h' z1 z2 z3 z4 => wpAny_pyIter_enum z1 ?_
      exact ⟨_, _, _, _, H1, rfl, I1.kept z4, turn_enum a _ _, ⟨⟨_, z1⟩, ⟨_, z2, rfl, rfl⟩, Nat.succ_ne_self _⟩, fp2 I1, hR⟩
    · obtain ⟨its1, v1, p1, _⟩ := I1.tuple hx
      refine call_enum1 (begins_tuple a its1.toArray) p1 fun h' z1 z2 z3 z4 => wpAny_pyIter_enum z1 ?_
      obtain ⟨o1, g1, _⟩ := p1
      obtain ⟨n1, n2⟩ := ne_lt (Gm.lt_of_get g1)
      exact ⟨_, _, _, _, H1, rfl, I1.kept z4, turn_enumT (Nat.succ_ne_self _) n1 n2, ⟨⟨_, z1⟩, ⟨_, z2, rfl, rfl⟩⟩, fp2 I1, hR⟩
theorem walk_enumT {K : PySem.W.Frag} {a : Addr} {xs : List V} : Walk (ItE K a) xs.length (fun H => SqT K H a xs) (YPair (fun i => some (V.int (i : Nat))) fun i => xs[i]?) := by
  refine ⟨fun i H hi g => ?_, fun H g => ?_, fun i H x H' hi g y => ?_⟩
  · exact ⟨xs, _, g, List.getElem?_eq_getElem (by omega)⟩
  · exact ⟨xs, g, rfl⟩
  · obtain ⟨T, x1, e, hT, e2, k1⟩ := y
    exact ⟨T, _, x1, e, hT, e2, rfl, k1 xs g⟩
def iEnumV (i : Nat) : TI := fun σ H R => ∃ (a : Addr) (xs : List V), σ[i]? = some (some (.ref a)) ∧ ClAt H a xs ∧ ∀ J, Walk J xs.length (fun H' => H' a = H a) (YPair (fun i => some (V.int (i : Nat))) fun i => xs[i]?) → R J H
theorem iEnum_ok {K : PySem.W.Frag} {i : Nat} : ∀ (σ : L2.St) (H : Hp) (R : It → Hp → Prop), iEnumV i σ H R → iEnumM K (tCons (tVar i) tNil) σ H R := by
  rintro σ H R ⟨a, xs, h1, hc, k⟩
  rcases hc with h3 | h3
  · exact ⟨_, h1, a, xs, rfl, .inl ⟨SqL.of h3, k _ (wW walk_enum fun H' e => SqL.of (e.trans h3))⟩⟩
  · exact ⟨_, h1, a, xs, rfl, .inr ⟨SqT.of h3, k _ (wW walk_enumT fun H' e => SqT.of (e.trans h3))⟩⟩
theorem same_bool (b c : Bool) : isSame (Value.bool b) (Value.bool c) = pure (b == c) := by cases b <;> cases c <;> rfl
theorem op_isnotB {X : Cx} : OpR X (compareOp CmpOp.IsNot) fun x y H Q => ∃ b c, x = V.bl b ∧ y = V.bl c ∧ Q (V.bl (!(b == c))) H := by
  rintro pins s σ H x y v u Q I r1 r2 ⟨b, c, rfl, rfl, q⟩
  cases r1
  cases r2
  unfold compareOp
  refine wpAny_bind ?_
  refine wpAny_of_eq (same_bool b c) ?_
  refine wpAny_pure ?_
  exact fin_bl I q rfl
end Gq

set_option Elab.async false
set_option linter.all false
set_option maxRecDepth 100000
set_option maxHeartbeats 4000000
/-! a value of any kind beside texts; a list of anything beside an empty one -/
namespace Gj
open L2 hiding Ext
open PySem PySem.Spec PyProof.Rows Gn Gk Gu SeqAt
theorem dict_not_str (a : Addr) (ob : Obj) (b : Str) (u : Tok) (hc : ob.cls = .type "dict") :
    Meets (Builtin.«dict.__eq__» ⟨[.ref a, .str b u], []⟩) (fun _ R s => s.heap.get? a = some ob ∧ R (.ok (.ret .notImplemented)) s) :=
  .of_wp fun prog w A R s h => by
    obtain ⟨hp, g, d, tk, os⟩ := s
    obtain ⟨hl, h⟩ := h
    have f1 := F.sub_str_dict
    unfold Builtin.«dict.__eq__»
    wp_walk using wpAny_loadPart' hl
    exact ⟨_, rfl, h⟩
theorem str_not_dict (b : Str) (u : Tok) (a : Addr) (ob : Obj) :
    Meets (Builtin.«str.__eq__» ⟨[.str b u, .ref a], []⟩) (fun _ R s => s.heap.get? a = some ob ∧ (∃ es ep, ob.data = .dict es ep) ∧ R (.ok (.ret .notImplemented)) s) :=
  .of_wp fun prog w A R s h => by
    obtain ⟨hp, g, d, tk, os⟩ := s
    obtain ⟨hl, ⟨es, ep, hd⟩, h⟩ := h
    obtain ⟨c, dd, data, sl⟩ := ob
    subst hd
    wp_walk using wpAny_loadPart' hl, wpAny_load hl
    exact ⟨_, rfl, h⟩
theorem rc_str_dict {A : Around} {s : Shared} {a : Addr} {ob : Obj} (b : Str) (u : Tok) (hl : s.heap.get? a = some ob) (hc : ob.cls = .type "dict") (hd : ∃ es ep, ob.data = .dict es ep) (hu : A.units < cLine) : RcAt A s (.str b u) (.ref a) false := fun prog w E Q h =>
  rc_eq_decline_or (k := false) (typeIs_str s b u) ⟨_, hl, hc⟩ (by decide) F.sub_dict_str F.slot_str_eq F.slot_dict_eq_refl
    (fun _ hq => call_meets F.slot_str_eq (typeIs_str s b u) F.entry_str_eq (F.args_str_eq_2 _ _) (str_not_dict b u a ob) ⟨hl, hd, hq⟩)
    (fun _ hq => call_meets F.slot_dict_eq_refl ⟨_, hl, hc⟩ F.entry_dict_eq (F.args_dict_eq_2 _ _) (dict_not_str a ob b u hc) ⟨hl, hq⟩)
    (fun _ hq => wpAny_of_eq (rfl : isSame (.str b u) (.ref a) = pure false) hq) (.inr hu) h
theorem eq_str_dict {A : Around} {s : Shared} {a : Addr} {ob : Obj} (b : Str) (u : Tok) (hl : s.heap.get? a = some ob) (hc : ob.cls = .type "dict") (hd : ∃ es ep, ob.data = .dict es ep) (hu : A.units < cLine) : EqAt A s (.str b u) (.ref a) false := fun prog w E Q h => by
  unfold eqBool
  refine wpAny_holding (wpAny_ite_split (fun hab => absurd (eq_of_beq hab) nofun) fun _ => ?_)
  exact wpAny_bind (rc_str_dict b u hl hc hd hu prog w E _ (wpAny_truthy_bool h))
/-- a list, a tuple or a dict -/
def Cont (H : Hp) (a : Addr) : Prop := (∃ xs, H a = some (.lst xs)) ∨ (∃ xs, H a = some (.tup xs)) ∨ ∃ kvs, H a = some (.dK kvs)
theorem Cont.ext {H H' : Hp} {a : Addr} (h : Cont H a) (k : ∀ b o, H b = some o → H' b = some o) : Cont H' a :=
  h.elim (fun ⟨x, e⟩ => .inl ⟨x, k _ _ e⟩) fun h => h.elim (fun ⟨x, e⟩ => .inr (.inl ⟨x, k _ _ e⟩)) fun ⟨x, e⟩ => .inr (.inr ⟨x, k _ _ e⟩)
theorem str_cont {X : Cx} {pins : List (Addr × Obj)} {σ : L2.St} {H : Hp} {s : Shared} (I : L2.Inv X pins σ H s) {a : Addr} (h : Cont H a) {A : Around} (hu : A.units < cLine) (b : Str) (u : Tok) : EqAt A s (.str b u) (.ref a) false := by
  rcases h with ⟨xs, h⟩ | ⟨xs, h⟩ | ⟨kvs, h⟩
  · obtain ⟨its, _, p, _⟩ := I.list (SqL.of h)
    exact EqAt.str_list b u p.isList hu
  · obtain ⟨its, _, p, _⟩ := I.tuple (SqT.of h)
    exact EqAt.str_tuple b u p hu
  · obtain ⟨_, _, vs, _, d⟩ := I.hok a _ h
    obtain ⟨o, es, ep, ho, hx, hdt, _⟩ := d
    exact eq_str_dict b u ho hx.1 ⟨es, ep, hdt⟩ hu
theorem str_flat (ws : List Str) : (ws.map V.str).all flatV = true := by
  rw [List.all_eq_true]
  intro x hx
  obtain ⟨w, _, rfl⟩ := List.mem_map.mp hx
  rfl
/-- x in a list or a tuple of texts, x of any kind -/
def rInO (neg : Bool) : R2 := fun x y H Q => ∃ (p : Addr) (ws : List Str), y = .ref p ∧ (H p = some (.lst (ws.map V.str)) ∨ H p = some (.tup (ws.map V.str))) ∧
  ((flatV x = true ∧ Q (.bl (if neg then !inV x (ws.map V.str) else inV x (ws.map V.str))) H) ∨ ∃ a, x = .ref a ∧ Cont H a ∧ Q (.bl neg) H)
theorem strs_false {X : Cx} {pins : List (Addr × Obj)} {σ : L2.St} {H : Hp} {s : Shared} (I : L2.Inv X pins σ H s) {a : Addr} (h : Cont H a) {A : Around} (hu : A.units < cLine) : ∀ {ws : List Str} {us : List Value}, Vals (ws.map V.str) us → ∀ y ∈ us, EqAt A s y (.ref a) false
  | [], _, .nil, y, hy => by cases hy
  | w :: ws, _, .cons r t, y, hy => by
    obtain ⟨tk, rfl⟩ := r
    rcases List.mem_cons.mp hy with rfl | hy
    · exact str_cont I h hu w tk
    · exact strs_false I h hu t y hy
section
variable {X : Cx} (h64 : X.A.units + 64 < cLine)
include h64 in
theorem op_inO : OpR X (compareOp .In) (rInO false) := by
  have hu : X.A.in1.units < cLine := by show X.A.units + 1 < cLine; omega
  have hu0 : X.A.units < cLine := by omega
  intro pins s σ H x y v u Q I rx ry h
  obtain ⟨p, ws, rfl, hp, h⟩ := h
  rcases h with ⟨fx, q⟩ | ⟨a, rfl, hc, q⟩
  · refine op_in_seq pins s σ H x _ v u Q I rx ry ⟨p, _, rfl, hp.elim (fun e => .inl (SqL.of e)) (fun e => .inr (SqT.of e)), fx, str_flat _, q⟩
  · cases rx
    cases ry
    rcases hp with hp | hp
    · obtain ⟨its, r, pl, _⟩ := I.list (SqL.of hp)
      refine in_listAt (fun _ => false) pl.isList (fun w hw => strs_false I hc hu r w (by simpa using hw)) ⟨.bl _, H, I, rfl, ?_⟩
      rw [show its.toArray.any (fun _ => false) = false by simp]
      exact q
    · obtain ⟨its, r, pl, _⟩ := I.tuple (SqT.of hp)
      refine in_tupleAt (fun _ => false) pl (fun w hw => strs_false I hc hu r w (by simpa using hw)) ⟨.bl _, H, I, rfl, ?_⟩
      rw [show its.toArray.any (fun _ => false) = false by simp]
      exact q
include h64 in
theorem op_notInO : OpR X (compareOp .NotIn) (rInO true) := by
  have hu : X.A.in1.units < cLine := by show X.A.units + 1 < cLine; omega
  have hu0 : X.A.units < cLine := by omega
  intro pins s σ H x y v u Q I rx ry h
  obtain ⟨p, ws, rfl, hp, h⟩ := h
  rcases h with ⟨fx, q⟩ | ⟨a, rfl, hc, q⟩
  · refine op_notIn_seq pins s σ H x _ v u Q I rx ry ⟨p, _, rfl, hp.elim (fun e => .inl (SqL.of e)) (fun e => .inr (SqT.of e)), fx, str_flat _, q⟩
  · cases rx
    cases ry
    rcases hp with hp | hp
    · obtain ⟨its, r, pl, _⟩ := I.list (SqL.of hp)
      refine notIn_listAt (fun _ => false) pl.isList (fun w hw => strs_false I hc hu r w (by simpa using hw)) ⟨.bl _, H, I, rfl, ?_⟩
      rw [show its.toArray.any (fun _ => false) = false by simp]
      exact q
    · obtain ⟨its, r, pl, _⟩ := I.tuple (SqT.of hp)
      refine notIn_tupleAt (fun _ => false) pl (fun w hw => strs_false I hc hu r w (by simpa using hw)) ⟨.bl _, H, I, rfl, ?_⟩
      rw [show its.toArray.any (fun _ => false) = false by simp]
      exact q
/-- a list of anything == a list of no item -/
def rEqE (K : PySem.W.Frag) (neg : Bool) : R2 := fun x y H Q => ∃ (a b : Addr) (xs : List V), x = .ref a ∧ y = .ref b ∧ SqL K H a xs ∧ SqL K H b [] ∧ Q (.bl (if neg then !xs.isEmpty else xs.isEmpty)) H
include h64 in
theorem op_eqE : OpR X (compareOp .Eq) (rEqE X.K false) := by
  have hu : X.A.in1.units < cLine := by show X.A.units + 1 < cLine; omega
  have hu0 : X.A.units < cLine := by omega
  intro pins s σ H x y v u Q I rx ry h
  obtain ⟨a, b, xs, rfl, rfl, ha, hb, q⟩ := h
  cases rx
  cases ry
  obtain ⟨its, r, pa, _⟩ := I.list ha
  obtain ⟨its2, r2, pb, _⟩ := I.list hb
  cases r2
  cases r with
  | nil =>
    refine eq_listAt (e := fun _ => true) pa.isList pb.isList rfl hu0 (fun j h1 => absurd h1 (Nat.not_lt_zero j)) ⟨.bl _, H, I, rfl, ?_⟩
    exact q
  | cons r t =>
    refine eq_list_lengthsAt pa.isList pb.isList (by simp) hu0 ⟨.bl _, H, I, rfl, ?_⟩
    exact q
include h64 in
theorem op_neE : OpR X (compareOp .NotEq) (rEqE X.K true) := by
  have hu0 : X.A.units < cLine := by omega
  intro pins s σ H x y v u Q I rx ry h
  obtain ⟨a, b, xs, rfl, rfl, ha, hb, q⟩ := h
  cases rx
  cases ry
  obtain ⟨its, r, pa, _⟩ := I.list ha
  obtain ⟨its2, r2, pb, _⟩ := I.list hb
  cases r2
  cases r with
  | nil => exact RcNeAt.lists (e := fun _ => true) pa.isList pb.isList rfl hu0 (fun j h1 => absurd h1 (Nat.not_lt_zero j)) _ _ _ _ ⟨.bl _, H, I, rfl, q⟩
  | cons r t => exact RcNeAt.lists_lengths pa.isList pb.isList (by simp) hu0 _ _ _ _ ⟨.bl _, H, I, rfl, q⟩
end
end Gj

set_option Elab.async false
set_option linter.all false
set_option maxRecDepth 100000
set_option maxHeartbeats 4000000
/-! enumerate(.., start=k) of a tuple -/
namespace Gs
open L2 hiding Ext
open PySem PySem.Spec PyProof.Rows Gn Gk Gu Gq
section
variable {M : Model} {A : Around} {E : Value → Shared → Prop} {s : Shared} {env : Env}
theorem callWith_type_kwB {pos : Pos} {T : String} {first : List Value} {args : List (Bool × Sem Value)} {keywords : List (Option Str × Sem Value)} {Q : Value → Shared → Prop}
    (hplain : args.any (·.1) = false) (hkw : keywords.any (·.1.isNone) = false)
    (h : wpAny M A (evalArgs (.type T) true args keywords) (fun a s₁ => wpAny M A (call (.type T) (first ++ a.pos) a.kw) Q E s₁) E s) :
    wpAny M A (callWith pos (.type T) first args keywords) Q E s := by
  unfold callWith
  refine wpAny_bind (wpAny_holding (wpAny_mono h (fun a s₁ h₁ => wpAny_bind (wpAny_standAt ?_)) fun _ _ x => x))
  simp only [hplain, hkw, Bool.or_false]
  refine wpAny_bind (wpAny_pure ?_)
  exact wpAny_bind (wpAny_mono h₁ (fun r s₂ hr => wpAny_bind (wpAny_holding (wpAny_point (wpAny_pure hr)))) fun _ _ x => x)
theorem callWith_typeKw {pos : Pos} {T : String} {e : Expr} {rest : List Expr} {kws : List Keyword} {Q : Value → Shared → Prop}
    (h : wpAny M A (spliced (backTo pos (starEach (e :: rest) env))) (fun vs s₁ => wpAny M A (evalAll ((backToKw pos (keywordEach kws env)).map (·.2)))
      (fun kvs s₂ => wpAny M A (call (.type T) vs (((backToKw pos (keywordEach kws env)).filterMap (·.1)).zip kvs)) Q E s₂) E s₁) E s)
    (he : backTo pos (starEach (e :: rest) env) = (false, eval e env) :: backTo pos (starEach rest env))
    (hplain : (backTo pos (starEach (e :: rest) env)).any (·.1) = false)
    (hall : (backToKw pos (keywordEach kws env)).all (·.1.isSome) = true)
    (hkw : (backToKw pos (keywordEach kws env)).any (·.1.isNone) = false) :
    wpAny M A (callWith pos (.type T) [] (backTo pos (starEach (e :: rest) env)) (backToKw pos (keywordEach kws env))) Q E s := by
  refine callWith_type_kwB hplain hkw ?_
  rw [he] at h ⊢
  exact evalArgs_kwB hall h
end
def ItS (K : PySem.W.Frag) (a : Addr) (k0 : Int) : It where
  go := fun i H => ∃ xs x, SqT K H a xs ∧ xs[i]? = some x
  yld := fun i H v H' => ∃ T x, v = V.ref T ∧ H T = none ∧ H' = upd H T (.tup [.int (k0 + (i : Nat)), x]) ∧ ∀ xs, SqT K H a xs → xs[i]? = some x
  stop := fun i H => ∃ xs, SqT K H a xs ∧ i = xs.length
def tnS (k0 : Int) (a e it : Addr) (i : Nat) (h : Heap) : Prop := (∃ old, IsEnum h e it (k0 + (i : Nat)) old) ∧ h.IsTupleIter it a i
theorem turn_enumS {P : Program} {w : World} {K : PySem.W.Frag} {elts : List Expr} {kk : Nat} {tpos : Pos} {a e it : Addr} {k0 : Int} (h1 : e ≠ it) (h2 : a ≠ e) (h3 : a ≠ it) :
    Turn P w K (Expr.Tuple elts kk tpos) (ItS K a k0) [e, it] e (tnS k0 a e it) := by
  refine ⟨by simp, ?_, ?_, ?_, ?_, ?_⟩
  · rintro i hp ⟨⟨old, h1⟩, ⟨o4, h4, _, d4⟩⟩ b' hb
    simp only [List.mem_cons, List.not_mem_nil, or_false] at hb
    rcases hb with rfl | rfl
    · exact ⟨_, h1, fun v e => by cases e⟩
    · exact ⟨_, h4, fun v e => by rw [d4] at e; cases e⟩
  · rintro i hp hp' ⟨⟨old, h1⟩, ⟨o4, h4, c4, d4⟩⟩ k
    exact ⟨⟨old, k _ (by simp) _ h1⟩, ⟨o4, k _ (by simp) _ h4, c4, d4⟩⟩
  · rintro X rfl rfl rfl hc i pins s σ H E I fp ⟨t1, t4⟩ ⟨xs, x, hx, ex⟩
    obtain ⟨its1, v1, p1, _⟩ := I.tuple hx
    have hd : X.A.in1.handled = none := I.ok.hd hc
    have G := GoesN.enumFrom (elts := elts) (x1 := kk) (pos := tpos) k0 (Draws.tuple (prog := X.prog) (w := X.w) hd it a h3 its1.toArray) e h1 (by simp only [List.mem_cons, List.not_mem_nil, or_false, not_or]; exact ⟨h1, h2.symm⟩) (by simp)
    have hi1 := (List.getElem?_eq_some_iff.mp ex).1
    have l1 := v1.length
    refine G.goes i s (fun u s2 => ∃ x H', L2.Inv X pins σ H' s2 ∧ L2.RelV x u ∧ (ItS X.K a k0).yld i H x H' ∧ tnS k0 a e it (i + 1) s2.heap ∧ ∀ b ∈ [e, it], H' b = none) E (by simp; omega) ⟨t1, t4, p1⟩ ?_
    rintro v h' tk ⟨T, t, x', rfl, hT, e1, tup⟩ ⟨s1, s4, _⟩ keep _
    obtain ⟨u1, g1, r1⟩ := v1.get ex
    have e1 : its1[i]? = some x' := by simpa using e1
    rw [g1] at e1
    cases e1
    have fr := I.hok.fresh hT
    refine ⟨V.ref T, upd H T (.tup [.int (k0 + (i : Nat)), x]), ?_, rfl, ⟨T, x, rfl, fr, rfl, fun xs' hx' => ?_⟩, ⟨s1, s4⟩, fun b' hb' => ?_⟩
    · refine I.turnedNew keep (fun b' hb' => fp b' hb') hT ?_
      refine ⟨by show 2 ≤ sizeLine; decide, _, .cons (b := Value.int (k0 + (i : Nat)) t) ⟨t, rfl⟩ (.cons r1 .nil), tup⟩
    · rw [I.tuple_inj hx' hx]; exact ex
    · have : b' < s.heap.objs.size := by
        obtain ⟨old, t1⟩ := t1
        obtain ⟨o4, t4, _, _⟩ := t4
        simp only [List.mem_cons, List.not_mem_nil, or_false] at hb'
        rcases hb' with rfl | rfl
        · exact Gm.lt_of_get t1
        · exact Gm.lt_of_get t4
      rw [upd_ne (Nat.ne_of_lt (Nat.lt_of_lt_of_le this hT))]
      exact (fp b' hb').1
  · rintro X rfl rfl rfl hc i pins s σ H E I fp ⟨t1, t4⟩ ⟨xs, hx, rfl⟩
    obtain ⟨its1, v1, p1, _⟩ := I.tuple hx
    have hd : X.A.in1.handled = none := I.ok.hd hc
    have G := GoesN.enumFrom (elts := elts) (x1 := kk) (pos := tpos) k0 (Draws.tuple (prog := X.prog) (w := X.w) hd it a h3 its1.toArray) e h1 (by simp only [List.mem_cons, List.not_mem_nil, or_false, not_or]; exact ⟨h1, h2.symm⟩) (by simp)
    have l1 := v1.length
    have en : its1.toArray.size = xs.length := by simp; omega
    rw [en] at G
    refine G.stops s (fun s1 => L2.Inv X pins σ H s1) E ⟨t1, t4, p1⟩ fun h' tk keep _ => ?_
    exact I.turnedL keep fun b' hb' => fp b' hb'
  · rintro A i s Q E ⟨⟨old, t1⟩, _⟩ q
    exact wpAny_pyIter_enum t1 q
/-- a tuple, from k0 on -/
def iEnumS (K : PySem.W.Frag) (k0 : Int) (ta : TA) : TI := fun σ H R => ta σ H fun vs H1 => ∃ a xs, vs = [V.ref a] ∧ SqT K H1 a xs ∧ R (ItS K a k0) H1
theorem pi_enumS {X : Cx} {e : Expr} {ta : TA} {p pos tpos kp cp : Pos} {elts : List Expr} {kk ck : Nat} {k0 : Int} (hk0 : -(2 ^ 63) ≤ k0) (hk1 : k0 < 2 ^ 63) (hg : Gl X "enumerate") (hm : X.mg "enumerate" = none) (ha : PA X [e] ta)
    (he : backTo pos (starEach [e] X.env) = (false, eval e X.env) :: backTo pos (starEach [] X.env) := by rfl) (hpl : (backTo pos (starEach [e] X.env)).any (·.1) = false := by rfl) :
    PI X (Expr.Tuple elts kk tpos) ((Expr.Name "enumerate" p).Call [e] [⟨some "start", .Constant (.int k0) ck cp, kp⟩] pos) (iEnumS X.K k0 ta) := by
  refine ⟨fun pins s σ H R I h => ?_⟩
  refine wpAny_Call_Name_kw (ld_blt I hg hm boot_enumerate ?_)
  refine callWith_typeKw (thn (ha.run pos pins s σ H _ I h) ?_) he hpl (by rfl) (by rfl)
  rintro us s1 ⟨vs, H1, I1, r1, a, xs, rfl, hx, hR⟩
  cases r1 with
  | cons r1 rr =>
    cases rr
    cases r1
    refine kws_cons (thn ((pe_int (X := X) (i := k0)).run pins s1 σ H1 (fun x H2 => x = V.int k0 ∧ H2 = H1) I1 ⟨rfl, rfl⟩) fun v s2 ⟨x, H2, I2, r2, ex, e2⟩ => kws_nil ?_)
    subst ex e2
    obtain ⟨t, rfl⟩ := r2
    obtain ⟨its1, v1, p1, _⟩ := I2.tuple hx
    refine enum_begins_start (begins_tuple a its1.toArray) p1 hk0 hk1 fun h' z1 z2 z3 z4 => wpAny_pyIter_enum z1 ?_
    obtain ⟨o1, g1, _⟩ := p1
    obtain ⟨n1, n2⟩ := ne_lt (Gm.lt_of_get g1)
    exact ⟨_, _, _, _, H2, rfl, I2.kept z4, turn_enumS (Nat.succ_ne_self _) n1 n2, ⟨⟨_, by simpa using z1⟩, ⟨_, z2, rfl, rfl⟩⟩, fp2 I2, hR⟩
theorem walk_enumS {K : PySem.W.Frag} {a : Addr} {xs : List V} {k0 : Int} : Walk (ItS K a k0) xs.length (fun H => SqT K H a xs) (YPair (fun i => some (V.int (k0 + (i : Nat)))) fun i => xs[i]?) := by
  refine ⟨fun i H hi g => ?_, fun H g => ?_, fun i H x H' hi g y => ?_⟩
  · exact ⟨xs, _, g, List.getElem?_eq_getElem (by omega)⟩
  · exact ⟨xs, g, rfl⟩
  · obtain ⟨T, x1, e, hT, e2, k1⟩ := y
    exact ⟨T, _, x1, e, hT, e2, rfl, k1 xs g⟩
end Gs

set_option Elab.async false
set_option linter.all false
set_option maxRecDepth 100000
set_option maxHeartbeats 4000000
namespace Lw
open L2 hiding Ext
open PySem PySem.Spec PyProof.Rows Gn Gr Gk Go Gt Gf Gu
structure Fo3 (P : Program) (w : World) (K : PySem.W.Frag) (mg : Str → Option Value) (base : Heap) (C fI pN fN : Addr) (mc : Value) (fdN : FuncData) : Prop where
  Z : FC K mg C fI mc
  hpN : PropOf K C "names" pN fN
  GN : FnOk P w K mg base CX0 1 fN fdN ["self"] (spNames C)
  bN : Binds K fdN ["self"] []
/-! ### values of any kind, as data -/
mutual
inductive Dk (d g : Addr) (H : Hp) : V → PyData → Prop
  | non : Dk d g H .non .none
  | bl (b : Bool) : Dk d g H (.bl b) (.bool b)
  | int (i : Int) : Dk d g H (.int i) (.int i)
  | str (x : Str) : Dk d g H (.str x) (.str x)
  | lst {a : Addr} {xs : List V} {ds : List PyData} : H a = some (.lst xs) → a ≠ d → a ≠ g → DkAll d g H xs ds → Dk d g H (.ref a) (.list ds)
  | tup {a : Addr} {xs : List V} {ds : List PyData} : H a = some (.tup xs) → a ≠ d → a ≠ g → DkAll d g H xs ds → Dk d g H (.ref a) (.tuple ds)
  | dct {a : Addr} : H a = some (.dK []) → a ≠ d → a ≠ g → Dk d g H (.ref a) (.dict [])
inductive DkAll (d g : Addr) (H : Hp) : List V → List PyData → Prop
  | nil : DkAll d g H [] []
  | cons {v : V} {vs : List V} {x : PyData} {ds : List PyData} : Dk d g H v x → DkAll d g H vs ds → DkAll d g H (v :: vs) (x :: ds)
end
variable {d g : Addr} {H H' : Hp}
mutual
theorem Dk.kp (k : Kp d g H H') : ∀ {v : V} {x : PyData}, Dk d g H v x → Dk d g H' v x
  | _, _, .non => .non
  | _, _, .bl b => .bl b
  | _, _, .int i => .int i
  | _, _, .str x => .str x
  | _, _, .lst h n1 n2 a => .lst (k _ _ n1 n2 h) n1 n2 (DkAll.kp k a)
  | _, _, .tup h n1 n2 a => .tup (k _ _ n1 n2 h) n1 n2 (DkAll.kp k a)
  | _, _, .dct h n1 n2 => .dct (k _ _ n1 n2 h) n1 n2
theorem DkAll.kp (k : Kp d g H H') : ∀ {vs : List V} {ds : List PyData}, DkAll d g H vs ds → DkAll d g H' vs ds
  | _, _, .nil => .nil
  | _, _, .cons h a => .cons (Dk.kp k h) (DkAll.kp k a)
end
mutual
theorem Dk.dr : ∀ {v : V} {x : PyData}, Dk d g H v x → Dr H v x
  | _, _, .non => .non
  | _, _, .bl b => .bl b
  | _, _, .int i => .int i
  | _, _, .str x => .str x
  | _, _, .lst h _ _ a => .lst h (DkAll.dr a)
  | _, _, .tup h _ _ a => .tup h (DkAll.dr a)
  | _, _, .dct h _ _ => .dct h .nil
theorem DkAll.dr : ∀ {vs : List V} {ds : List PyData}, DkAll d g H vs ds → DrAll H vs ds
  | _, _, .nil => .nil
  | _, _, .cons h a => .cons (Dk.dr h) (DkAll.dr a)
end
theorem DkAll.len : ∀ {vs : List V} {ds : List PyData}, DkAll d g H vs ds → vs.length = ds.length
  | _, _, .nil => rfl
  | _, _, .cons h a => by rw [List.length_cons, List.length_cons, DkAll.len a]
theorem DkAll.get : ∀ {vs : List V} {ds : List PyData}, DkAll d g H vs ds → ∀ {i : Nat} {v : V}, vs[i]? = some v → ∃ x, ds[i]? = some x ∧ Dk d g H v x
  | _, _, .nil, _, _, h => by cases h
  | _, _, .cons h a, 0, _, e => by cases e; exact ⟨_, rfl, h⟩
  | _, _, .cons h a, i + 1, _, e => DkAll.get a (i := i) e
theorem DkAll.app : ∀ {vs : List V} {ds : List PyData} {us : List V} {es : List PyData}, DkAll d g H vs ds → DkAll d g H us es → DkAll d g H (vs ++ us) (ds ++ es)
  | _, _, _, _, .nil, b => b
  | _, _, _, _, .cons h a, b => .cons h (DkAll.app a b)
theorem DkAll.take : ∀ {vs : List V} {ds : List PyData} (n : Nat), DkAll d g H vs ds → DkAll d g H (vs.take n) (ds.take n)
  | _, _, 0, _ => by rw [List.take_zero, List.take_zero]; exact .nil
  | _, _, n + 1, .nil => .nil
  | _, _, n + 1, .cons h a => .cons h (DkAll.take n a)
theorem DkAll.drop : ∀ {vs : List V} {ds : List PyData} (n : Nat), DkAll d g H vs ds → DkAll d g H (vs.drop n) (ds.drop n)
  | _, _, 0, h => h
  | _, _, n + 1, .nil => .nil
  | _, _, n + 1, .cons h a => DkAll.drop n a
/-- what judges of values are told -/
def isN (m : Int) : PyData → Bool
  | .int i => decide (1 ≤ i ∧ i ≤ m)
  | _ => false
theorem Dk.amt {v : V} {x : PyData} (h : Dk d g H v x) : AmtV H v (isN 1000000000 x) := by
  cases h with
  | int i =>
    refine .inl ⟨i, rfl, ?_⟩
    show decide (1 ≤ i ∧ i ≤ 1000000000) = (decide (1 ≤ i) && decide (i ≤ 1000000000))
    exact Bool.decide_and _ _
  | non => exact .inr ⟨rfl, .inl .non⟩
  | bl b => exact .inr ⟨rfl, .inr (.inl (.bl b))⟩
  | str x => exact .inr ⟨rfl, .inr (.inr (.inl (.str x)))⟩
  | lst e => exact .inr ⟨rfl, .inr (.inr (.inr (.inl (.lst e))))⟩
  | tup e => exact .inr ⟨rfl, .inr (.inr (.inr (.inr (.inl (.tup e)))))⟩
  | dct e => exact .inr ⟨rfl, .inr (.inr (.inr (.inr (.inr (.dct e)))))⟩
def isD : PyData → Bool
  | .int _ => true
  | _ => false
theorem Dk.intv {v : V} {x : PyData} (h : Dk d g H v x) : IntV H v (isD x) := by
  cases h with
  | int i => exact .inl ⟨i, rfl, rfl⟩
  | non => exact .inr ⟨rfl, .inl .non⟩
  | bl b => exact .inr ⟨rfl, .inr (.inl (.bl b))⟩
  | str x => exact .inr ⟨rfl, .inr (.inr (.inl (.str x)))⟩
  | lst e => exact .inr ⟨rfl, .inr (.inr (.inr (.inl (.lst e))))⟩
  | tup e => exact .inr ⟨rfl, .inr (.inr (.inr (.inr (.inl (.tup e)))))⟩
  | dct e => exact .inr ⟨rfl, .inr (.inr (.inr (.inr (.inr (.dct e)))))⟩
theorem Dk.flat {v : V} {x : PyData} (h : Dk d g H v x) : flatV v = true ∨ ∃ a, v = .ref a ∧ Gj.Cont H a := by
  cases h with
  | lst e => exact .inr ⟨_, rfl, .inl ⟨_, e⟩⟩
  | tup e => exact .inr ⟨_, rfl, .inr (.inl ⟨_, e⟩)⟩
  | dct e => exact .inr ⟨_, rfl, .inr (.inr ⟨_, e⟩)⟩
  | _ => exact .inl rfl
def isA (ws : List Str) : PyData → Bool
  | .str x => decide (x ∈ ws)
  | _ => false
section
variable {P : Program} {w : World} {K : PySem.W.Frag} {mg : Str → Option Value} {base : Heap} {C fI pN fN : Addr} {mc : Value} {fdN : FuncData}
/-! ### is_place -/
def spPlace : Sp := fun vs H Q _ => ∃ (d g : Addr) (v : V) (x : PyData), vs = [v] ∧ Dk d g H v x ∧ ∀ H', Ext H H' → Q (.bl (isN 20 x)) H'
theorem scPlace : FnScope ["value"] ["value"] (defScope sIsPlace) := ⟨rfl, rfl, rfl, by decide +kernel, rfl, by decide +kernel, by decide +kernel⟩
theorem ok_place {f fI : Addr} {fd fdI : FuncData} (F : Fun K "is_place" "is_place" sIsPlace f fd) (T : Names mg) (hP0 : ∃ t, mg "LAST_PLACE" = some (.int 20 t))
    (GI : FnOk P w K mg base CX0 1 fI fdI ["value"] spInt) (bI : Binds K fdI ["value"] []) (kI : PySem.W.keepIn K (.ref fI) = true) (mI : mg "is_int" = some (.ref fI)) : FnOk P w K mg base CX0 2 f fd ["value"] spPlace := by
  refine F.ok scPlace (fun vs H Q E h => ?_) (fun cdv A outer s H vs Q E hr h => ?_)
  · obtain ⟨d, g, v, x, rfl, _⟩ := h
    rfl
  · obtain ⟨d, g, v, x, rfl, hv, k⟩ := h
    obtain ⟨t3, hP⟩ := hP0
    refine ⟨_, pss_one (ps_ret (pe_and (pe_call GI hr rfl mI kI bI .nil pass0 (pa_cons (pv 0) pa_nil)) (pe_one (pe_chain op_le op_le pe_int (pv 0) (pe_glob (v := .int 20) rfl hP ⟨_, rfl⟩))))), ?_⟩
    refine ⟨_, rfl, _, _, rfl, hv.intv, isD x, rfl, ?_⟩
    cases hv with
    | int i =>
      refine iteT ?_
      refine ⟨_, rfl, _, _, rfl, rfl, _, rfl, ?_⟩
      refine ite2 (fun e => ?_) (fun e => ?_)
      · refine ⟨_, _, rfl, rfl, ?_⟩
        have : isN 20 (.int i) = decide (i ≤ 20) := decide_eq_decide.mpr ⟨fun h => h.2, fun h => ⟨of_decide_eq_true e, h⟩⟩
        show Q (.bl (decide (i ≤ 20))) H
        rw [← this]
        exact k H Ext.refl
      · have : isN 20 (.int i) = false := decide_eq_false fun h => e (decide_eq_true h.1)
        rw [this] at k
        exact k H Ext.refl
    | _ => exact iteF (k H Ext.refl)
/-! ### is_part -/
abbrev nIsPart : List Str := ["part", "value", "forest"]
def partB (ws : List Str) (p : Str) (x : PyData) : Bool := if p = "account" then isA ws x else if p = "amount" then isN 1000000000 x else if p = "mark" then isN 999 x else isN 20 x
def spPart (C : Addr) : Sp := fun vs H Q _ => ∃ (d g a : Addr) (p : Str) (v : V) (x : PyData) (rs : List FRow), vs = [.str p, v, .ref a] ∧ FoAt C H a rs ∧ Dk d g H v x ∧ ∀ H', Ext H H' → Q (.bl (partB (fNames rs) p x)) H'
theorem scPart : FnScope nIsPart ["part", "value", "forest"] (defScope sIsPart) := ⟨rfl, rfl, rfl, by decide +kernel, rfl, by decide +kernel, by decide +kernel⟩
theorem ok_part {f f1 f2 f3 : Addr} {fd fd1 fd2 fd3 : FuncData} (F : Fun K "is_part" "is_part" sIsPart f fd) (T : Names mg) (Z : Fo3 P w K mg base C fI pN fN mc fdN) (hM0 : ∃ t, mg "LAST_MARK" = some (.int 999 t))
    (GI : FnOk P w K mg base CX0 1 f1 fd1 ["value"] spInt) (bI : Binds K fd1 ["value"] []) (kI : PySem.W.keepIn K (.ref f1) = true) (mI : mg "is_int" = some (.ref f1))
    (GA : FnOk P w K mg base CX0 2 f2 fd2 ["value"] spAmt) (bA : Binds K fd2 ["value"] []) (kA : PySem.W.keepIn K (.ref f2) = true) (mA : mg "is_amount" = some (.ref f2))
    (GP : FnOk P w K mg base CX0 2 f3 fd3 ["value"] spPlace) (bP : Binds K fd3 ["value"] []) (kP : PySem.W.keepIn K (.ref f3) = true) (mP : mg "is_place" = some (.ref f3)) :
    FnOk P w K mg base CX0 3 f fd ["part", "value", "forest"] (spPart C) := by
  refine F.ok scPart (fun vs H Q E h => ?_) (fun cdv A outer s H vs Q E hr h => ?_)
  · obtain ⟨d, g, a, p, v, x, rs, rfl, _⟩ := h
    rfl
  · obtain ⟨d, g, a, p, v, x, rs, rfl, hF, hv, k⟩ := h
    have hu := hu_of hr
    have nd := scPart.nd
    have hr2 : Room 2 (A.deeper (envOfC "is_part" (defScope sIsPart) s.heap.objs.size f cdv)) := hr
    have hr1 : Room 1 (A.deeper (envOfC "is_part" (defScope sIsPart) s.heap.objs.size f cdv)) := hr.mono (by decide)
    have hrN := hr2
    obtain ⟨t3, hM⟩ := hM0
    refine ⟨_, pss_cons (ps_if (pt_cmpR op_eq (pv 0) pe_str (nomark _)) (pss_one (ps_ret (pe_cmpR (Gj.op_inO hr.units) (pv 1) (pe_prop (pv 2) Z.Z.cl Z.hpN Z.GN hrN Z.bN .nil pass0 rfl) rfl))) pss_nil)
(pss_cons (ps_if (pt_cmpR op_eq (pv 0) pe_str (nomark _)) (pss_one (ps_ret (pe_call GA hr2 rfl mA kA bA .nil pass0 (pa_cons (pv 1) pa_nil)))) pss_nil)
(pss_cons (ps_if (pt_cmpR op_eq (pv 0) pe_str (nomark _)) (pss_one (ps_ret (pe_and (pe_call GI hr1 rfl mI kI bI .nil pass0 (pa_cons (pv 1) pa_nil)) (pe_one (pe_chain op_le op_le pe_int (pv 1) (pe_glob (v := .int 999) rfl hM ⟨_, rfl⟩)))))) pss_nil)
(pss_one (ps_ret (pe_call GP hr2 rfl mP kP bP .nil pass0 (pa_cons (pv 1) pa_nil)))))), ?_⟩
    obtain ⟨dx, q0, h1, h2⟩ := id hF
    refine ⟨_, rfl, rfl, _, rfl, ?_⟩
    refine ite2 (fun e => ?_) (fun e1 => ?_)
    · have ep : p = "account" := by have := of_decide_eq_true e; injection this
      have eb : partB (fNames rs) p x = isA (fNames rs) x := by unfold partB; rw [if_pos ep]
      rw [eb] at k
      refine ⟨_, rfl, _, rfl, a, dx, _, rfl, h1, a, rs, rfl, hF, fun H1 t k1 _ ht => ?_⟩
      have hv1 : Dk d g H1 v x := hv.kp (Kp.of k1)
      refine ⟨t, fNames rs, rfl, .inr ht, ?_⟩
      rcases hv1.flat with hf | ⟨q, rfl, hq⟩
      · refine .inl ⟨hf, ?_⟩
        have : inV v ((fNames rs).map V.str) = isA (fNames rs) x := by
          cases hv with
          | str z => rw [inV_strs]; rfl
          | non => induction fNames rs with
            | nil => rfl
            | cons a r ih => exact ih
          | bl b => induction fNames rs with
            | nil => rfl
            | cons a r ih => exact ih
          | int i => induction fNames rs with
            | nil => rfl
            | cons a r ih => exact ih
          | _ => cases hf
        show Q (.bl (inV v ((fNames rs).map V.str))) H1
        rw [this]
        exact k H1 k1
      · have : isA (fNames rs) x = false := by cases hv <;> rfl
        rw [this] at k
        exact .inr ⟨q, rfl, hq, k H1 k1⟩
    have n1 : p ≠ "account" := fun h => e1 (by rw [h]; exact decide_eq_true rfl)
    refine ⟨_, rfl, rfl, _, rfl, ?_⟩
    refine ite2 (fun e => ?_) (fun e2 => ?_)
    · have ep : p = "amount" := by have := of_decide_eq_true e; injection this
      have eb : partB (fNames rs) p x = isN 1000000000 x := by unfold partB; rw [if_neg n1, if_pos ep]
      rw [eb] at k
      exact ⟨_, rfl, _, _, rfl, hv.amt, k⟩
    have n2 : p ≠ "amount" := fun h => e2 (by rw [h]; exact decide_eq_true rfl)
    refine ⟨_, rfl, rfl, _, rfl, ?_⟩
    refine ite2 (fun e => ?_) (fun e3 => ?_)
    · have ep : p = "mark" := by have := of_decide_eq_true e; injection this
      have eb : partB (fNames rs) p x = isN 999 x := by unfold partB; rw [if_neg n1, if_neg n2, if_pos ep]
      rw [eb] at k
      refine ⟨_, rfl, _, _, rfl, hv.intv, isD x, rfl, ?_⟩
      cases hv with
      | int i =>
        refine iteT ?_
        refine ⟨_, rfl, _, _, rfl, rfl, _, rfl, ?_⟩
        refine ite2 (fun e => ?_) (fun e => ?_)
        · refine ⟨_, _, rfl, rfl, ?_⟩
          have : isN 999 (.int i) = decide (i ≤ 999) := decide_eq_decide.mpr ⟨fun h => h.2, fun h => ⟨of_decide_eq_true e, h⟩⟩
          show Q (.bl (decide (i ≤ 999))) H
          rw [← this]
          exact k H Ext.refl
        · have : isN 999 (.int i) = false := decide_eq_false fun h => e (decide_eq_true h.1)
          rw [this] at k
          exact k H Ext.refl
      | _ => exact iteF (k H Ext.refl)
    have n3 : p ≠ "mark" := fun h => e3 (by rw [h]; exact decide_eq_true rfl)
    have eb : partB (fNames rs) p x = isN 20 x := by unfold partB; rw [if_neg n1, if_neg n2, if_neg n3]
    rw [eb] at k
    exact ⟨_, rfl, d, g, _, _, rfl, hv, k⟩
end
end Lw

set_option Elab.async false
set_option linter.all false
set_option maxRecDepth 100000
set_option maxHeartbeats 4000000
namespace Lw
open L2 hiding Ext
open PySem PySem.Spec PyProof.Rows Gn Gr Gk Go Gt Gf Gu
/-! ### what a fact is -/
def partsOf (k : Str) : Option (List Str) :=
  if k = "spender" then some ["place", "account", "amount"] else if k = "request" then some ["place", "account", "amount"] else if k = "deposit" then some ["mark", "account", "amount"] else if k = "release" then some ["place", "amount"]
  else if k = "consent" then some ["place", "place"] else if k = "refuse" then some ["place", "place"] else if k = "withdrawn" then some ["place"] else none
def ltB : List PyData → Bool
  | .int a :: .int b :: _ => decide (b < a)
  | _ => true
def factR (ws : List Str) (k : Str) (r : List PyData) : Bool := match partsOf k with
  | none => false
  | some ps => decide (r.length = ps.length) && ((List.zipWith (partB ws) ps r).all id && (!decide (k = "consent" ∨ k = "refuse") || ltB r))
def factB (ws : List Str) : PyData → Bool
  | .tuple (.str k :: r) => factR ws k r
  | _ => false
/-- where the parts stand in the program -/
structure Parts (K : PySem.W.Frag) (w : World) (mg : Str → Option Value) (dp da : Addr) (es : Array DictEntry) (n : Nat) : Prop where
  pm : mg "PARTS" = some (.ref dp)
  am : mg "ANSWERS" = some (.ref da)
  pd : KDict K w dp es n
  pl : PySem.W.KeysLit w.params es.toList
  no : ∀ z, partsOf z = none → PySem.W.nsIn K dp z = some none
  yes : ∀ z ps, partsOf z = some ps → ∃ ta, PySem.W.nsIn K dp z = some (some (.ref ta)) ∧ ∀ H : Hp, SqT K H ta (ps.map V.str)
  an : ∀ H : Hp, SqT K H da [V.str "consent", V.str "refuse"]
theorem parts_len {z : Str} {ps : List Str} (h : partsOf z = some ps) : ps.length ≤ 3 ∧ ((z = "consent" ∨ z = "refuse") → ps = (["place", "place"] : List Str)) := by
  unfold partsOf at h
  split at h
  · rename_i e; cases h; subst e; exact ⟨by decide, by decide⟩
  split at h
  · rename_i e; cases h; subst e; exact ⟨by decide, by decide⟩
  split at h
  · rename_i e; cases h; subst e; exact ⟨by decide, by decide⟩
  split at h
  · rename_i e; cases h; subst e; exact ⟨by decide, by decide⟩
  split at h
  · cases h; exact ⟨by decide, fun _ => rfl⟩
  split at h
  · cases h; exact ⟨by decide, fun _ => rfl⟩
  split at h
  · rename_i e; cases h; subst e; exact ⟨by decide, by decide⟩
  · cases h
section
variable {P : Program} {w : World} {K : PySem.W.Frag} {mg : Str → Option Value} {base : Heap} {C fI pN fN : Addr} {mc : Value} {fdN : FuncData}
/-! ### is_fact -/
abbrev nIsFact : List Str := ["value", "forest", "kind", "parts", "at", "part"]
def spIsFact (C : Addr) : Sp := fun vs H Q _ => ∃ (d g a : Addr) (v : V) (x : PyData) (rs : List FRow), vs = [v, .ref a] ∧ FoAt C H a rs ∧ Dk d g H v x ∧ ∀ H', Ext H H' → Q (.bl (factB (fNames rs) x)) H'
theorem scIsFact : FnScope nIsFact ["value", "forest"] (defScope sIsFact) := ⟨rfl, rfl, rfl, by decide +kernel, rfl, by decide +kernel, by decide +kernel⟩
theorem ok_isFact {f f3 dp da : Addr} {fd fd3 : FuncData} {es : Array DictEntry} {n : Nat} (F : Fun K "is_fact" "is_fact" sIsFact f fd) (T : Names mg) (PA_ : Parts K w mg dp da es n)
    (GP : FnOk P w K mg base CX0 3 f3 fd3 ["part", "value", "forest"] (spPart C)) (bP : Binds K fd3 ["part", "value", "forest"] []) (kP : PySem.W.keepIn K (.ref f3) = true) (mP : mg "is_part" = some (.ref f3)) :
    FnOk P w K mg base CX0 4 f fd ["value", "forest"] (spIsFact C) := by
  refine F.ok scIsFact (fun vs H Q E h => ?_) (fun cdv A outer s H vs Q E hr h => ?_)
  · obtain ⟨d, g, a, v, x, rs, rfl, _⟩ := h
    rfl
  · obtain ⟨d, g, a, v, x, rs, rfl, hF, hv, k⟩ := h
    have hu := hu_of hr
    have nd := scIsFact.nd
    have hPm := PA_.pm
    have hAm := PA_.am
    have hPD := PA_.pd
    refine ⟨_, pss_cons (ps_if (PW.pt (pw_or (pt_not (pt_val (pe_callB call_isi rfl T.isi (by decide +kernel) (pa_cons (pv 0) (pa_cons (pe_bltn (v := .ty "tuple") rfl T.tuple (by decide +kernel) rfl) pa_nil))))) (pw_or1 (pt_cmpR op_eq (pe_callB call_len_seq rfl T.len PySem.boot_len (pa_cons (pv 0) pa_nil)) pe_int (nomark _))))) (pss_one (ps_ret pe_bl)) pss_nil)
(pss_cons (ps_set (i := 2) nd rfl (.inl rfl) (pe_ix ix_tup (pv 0) pe_int (fun _ _ => rfl)))
(pss_cons (ps_if (PW.pt (pw_or (pt_not (pt_val (pe_callB call_isi rfl T.isi (by decide +kernel) (pa_cons (pv 2) (pa_cons (pe_bltn (v := .ty "str") rfl T.str (by decide +kernel) rfl) pa_nil))))) (pw_or1 (pt_cmpR (op_notIn_kd hPD) (pv 2) (pe_glob (v := .ref dp) rfl hPm rfl) rfl)))) (pss_one (ps_ret pe_bl)) pss_nil)
(pss_cons (ps_set (i := 3) nd rfl (.inl rfl) (pe_ix (r := rIxD K w) ix_kdict (pe_glob (v := .ref dp) rfl hPm rfl) (pv 2) (fun _ _ => rfl)))
(pss_cons (ps_if (pt_cmpR op_ne (pe_callB call_len_seq rfl T.len PySem.boot_len (pa_cons (pv 0) pa_nil)) (pe_op op_add (pe_callB call_len_seq rfl T.len PySem.boot_len (pa_cons (pv 3) pa_nil)) pe_int) (nomark _)) (pss_one (ps_ret pe_bl)) pss_nil)
(pss_cons (ps_if (pt_not (pt_val (pe_callB (cr_all rfl) rfl T.all (by decide +kernel) (pa_cons (pe_lc (own := [("at", 4), ("part", 5)]) (g := gTup K 2 (gCons (gName 4) (gCons (gName 5) gNil))) (tt := tYes) rfl nd (Gs.pi_enumS (by decide) (by decide) rfl T.enum (pa_cons (pv 3) pa_nil)) (blkOk_by (N := nIsFact) (sc := defScope sIsFact) (by decide +kernel))
(fun _ _ _ _ _ => (by exact (pg_tup rfl (pgs_cons (pg_name (i := 4) nd rfl (.inl rfl)) (pgs_cons (pg_name (i := 5) nd rfl (.inl rfl)) pgs_nil))))) (fun _ _ _ _ _ => pts_nil) (fun _ _ _ _ _ => pe_call GP hr rfl mP kP bP .nil pass0 (pa_cons (pv 5) (pa_cons (pe_ix (r := rIxT K) ix_tup (pv 0) (pv 4) (fun _ _ => rfl)) (pa_cons (pv 1) pa_nil))))) pa_nil)))) (pss_one (ps_ret pe_bl)) pss_nil)
(pss_one (ps_ret (pe_or (pe_cmpR op_notIn_seq (pv 2) (pe_glob (v := .ref da) rfl hAm rfl) rfl) (pe_one (pe_cmpR op_lt (pe_ix ix_tup (pv 0) pe_int (fun _ _ => rfl)) (pe_ix ix_tup (pv 0) pe_int (fun _ _ => rfl)) (nomark _))))))))))), ?_⟩
    cases hv with
    | non => exact ⟨_, rfl, _, _, _, _, false, rfl, .ty _, TyT.non.x, kit_ty (by decide +kernel), false, rfl, iteT (k _ Ext.refl)⟩
    | bl b => exact ⟨_, rfl, _, _, _, _, false, rfl, .ty _, (TyT.bl b).x, kit_ty (by decide +kernel), false, rfl, iteT (k _ Ext.refl)⟩
    | int i => exact ⟨_, rfl, _, _, _, _, false, rfl, .ty _, (TyT.int i).x, kit_ty (by decide +kernel), false, rfl, iteT (k _ Ext.refl)⟩
    | str z => exact ⟨_, rfl, _, _, _, _, false, rfl, .ty _, (TyT.str z).x, kit_ty (by decide +kernel), false, rfl, iteT (k _ Ext.refl)⟩
    | lst e _ _ _ => exact ⟨_, rfl, _, _, _, _, false, rfl, .ty _, (TyT.lst e).x, kit_ty (by decide +kernel), false, rfl, iteT (k _ Ext.refl)⟩
    | dct e _ _ => exact ⟨_, rfl, _, _, _, _, false, rfl, .ty _, (TyT.dct e).x, kit_ty (by decide +kernel), false, rfl, iteT (k _ Ext.refl)⟩
    | @tup p xs ds hp n1 n2 hall =>
    refine ⟨_, rfl, _, _, _, _, true, rfl, .ty _, (TyT.tup hp).x, kit_ty (by decide +kernel), true, rfl, iteF ?_⟩
    refine ⟨_, rfl, p, _, rfl, .inr (SqT.of hp), rfl, _, rfl, ?_⟩
    cases hall with
    | nil => exact iteT (k _ Ext.refl)
    | @cons v0 vr x0 dr h0 hr_ =>
    refine iteF ?_
    have a0 : atI (v0 :: vr) 0 = some v0 := (show atI (v0 :: vr) ((0 : Nat) : Int) = _ from atI_nat rfl)
    refine ⟨_, rfl, p, _, _, _, rfl, rfl, SqT.of hp, a0, ?_⟩
    have no : (∀ z, x0 ≠ .str z) → factB (fNames rs) (.tuple (x0 :: dr)) = false := fun h => by
      cases x0 with
      | str z => exact absurd rfl (h z)
      | _ => rfl
    cases h0 with
    | non => exact ⟨_, rfl, _, _, _, _, false, rfl, .ty _, TyT.non.x, kit_ty (by decide +kernel), false, rfl, iteT (k _ Ext.refl)⟩
    | bl b => exact ⟨_, rfl, _, _, _, _, false, rfl, .ty _, (TyT.bl b).x, kit_ty (by decide +kernel), false, rfl, iteT (k _ Ext.refl)⟩
    | int i => exact ⟨_, rfl, _, _, _, _, false, rfl, .ty _, (TyT.int i).x, kit_ty (by decide +kernel), false, rfl, iteT (k _ Ext.refl)⟩
    | lst e _ _ _ => exact ⟨_, rfl, _, _, _, _, false, rfl, .ty _, (TyT.lst e).x, kit_ty (by decide +kernel), false, rfl, iteT (k _ Ext.refl)⟩
    | tup e _ _ _ => exact ⟨_, rfl, _, _, _, _, false, rfl, .ty _, (TyT.tup e).x, kit_ty (by decide +kernel), false, rfl, iteT (k _ Ext.refl)⟩
    | dct e _ _ => exact ⟨_, rfl, _, _, _, _, false, rfl, .ty _, (TyT.dct e).x, kit_ty (by decide +kernel), false, rfl, iteT (k _ Ext.refl)⟩
    | str z =>
    refine ⟨_, rfl, _, _, _, _, true, rfl, .ty _, (TyT.str z).x, kit_ty (by decide +kernel), true, rfl, iteF ?_⟩
    have ek : factB (fNames rs) (.tuple (.str z :: dr)) = factR (fNames rs) z dr := rfl
    rw [ek] at k
    cases hps : partsOf z with
    | none =>
      refine ⟨_, rfl, z, none, rfl, rfl, PA_.no z hps, _, rfl, iteT ?_⟩
      have : factR (fNames rs) z dr = false := by unfold factR; rw [hps]
      rw [this] at k
      exact k _ Ext.refl
    | some ps =>
    obtain ⟨ta, hta, hT⟩ := PA_.yes z ps hps
    obtain ⟨pl3, pans⟩ := parts_len hps
    refine ⟨_, rfl, z, _, rfl, rfl, hta, _, rfl, iteF ?_⟩
    refine ⟨_, rfl, dp, z, .ref ta, rfl, rfl, ⟨es, n, _, PA_.pd.at_, PA_.pl, hta, rfl⟩, ?_⟩
    have ln := DkAll.len hr_
    have er : factR (fNames rs) z dr = (decide (dr.length = ps.length) && ((List.zipWith (partB (fNames rs)) ps dr).all id && (!decide (z = "consent" ∨ z = "refuse") || ltB dr))) := by unfold factR; rw [hps]
    rw [er] at k
    -- how many
    refine ⟨_, rfl, p, _, rfl, .inr (SqT.of hp), _, rfl, ta, _, rfl, .inr (hT H), _, _, rfl, rfl, rfl, _, rfl, ?_⟩
    have evl : decide (V.int (((V.str z :: vr).length : Nat) : Int) = V.int ((((ps.map V.str).length : Nat) : Int) + 1)) = decide (dr.length = ps.length) := by
      refine decide_eq_decide.mpr ⟨fun e => ?_, fun e => ?_⟩
      · injection e with e
        rw [List.length_cons, List.length_map] at e
        omega
      · congr 1
        rw [List.length_cons, List.length_map]
        omega
    show if (!decide (V.int (((V.str z :: vr).length : Nat) : Int) = V.int ((((ps.map V.str).length : Nat) : Int) + 1))) = true then _ else _
    rw [evl]
    by_cases hlen : dr.length = ps.length
    case neg =>
      rw [decide_eq_false hlen] at k ⊢
      exact iteT (k _ Ext.refl)
    rw [decide_eq_true hlen] at k ⊢
    refine iteF ?_
    -- its parts
    refine ⟨_, rfl, ta, _, rfl, hT H, fun D hD => ?_⟩
    have zl : (List.zipWith (partB (fNames rs)) ps dr).length = ps.length := by rw [List.length_zipWith]; omega
    refine lc_it Gs.walk_enumS (fun i H' => H' D = some (.lst (((List.zipWith (partB (fNames rs)) ps dr).take i).map V.bl)) ∧ Ext H H') ⟨upd_same, Ext.new hD⟩ (fun i H' _ _ => hT H') ?_ ?_
    · rintro i x H2 H2' hi ⟨d2, k2⟩ ⟨t, x1, x2, rfl, ht, rfl, e1, e2⟩
      cases e1
      have e2 : (ps.map V.str)[i]? = some x2 := e2
      rw [List.getElem?_map] at e2
      obtain ⟨q, hq, rfl⟩ := Option.map_eq_some_iff.mp e2
      have il := (List.getElem?_eq_some_iff.mp hq).1
      have hvi := List.getElem?_eq_getElem (l := vr) (i := i) (by omega)
      generalize vr[i] = vi at hvi
      obtain ⟨xi, hxi, dki⟩ := hr_.get hvi
      have k3 := k2.trans (Ext.new (o := .tup [.int (1 + (i : Nat)), .str q]) ht)
      have d3 := new_same (o := .tup [.int (1 + (i : Nat)), .str q]) ht _ _ d2
      refine ⟨t, _, rfl, SqT.of upd_same, rfl, _, _, rfl, _, _, rfl, rfl, rfl, yes_of ?_⟩
      generalize upd H2 t (.tup [.int (1 + (i : Nat)), .str q]) = H3 at k3 d3 ⊢
      have ai : atI (V.str z :: vr) (1 + ((i : Nat) : Int)) = some vi := by
        rw [show 1 + ((i : Nat) : Int) = ((i + 1 : Nat) : Int) by omega]
        exact atI_nat hvi
      refine ⟨_, rfl, _, rfl, _, rfl, p, _, _, _, rfl, rfl, SqT.of (k3 _ _ hp), ai, _, rfl, d, g, a, q, vi, xi, rs, rfl, hF.ext k3, dki.kp (Kp.of k3), fun H4 k4 => ?_⟩
      refine ⟨_, k4 _ _ d3, ?_, ?_, fun y o e => ?_⟩
      · rw [List.length_map, List.length_take]
        exact small1000 (by omega)
      · have hzi : (List.zipWith (partB (fNames rs)) ps dr)[i]? = some (partB (fNames rs) q xi) := by rw [List.getElem?_zipWith, hq, hxi]
        rw [upd_same, List.take_add_one, hzi, List.map_append]
        rfl
      · rw [upd_ne (ne_of_none e hD)]
        exact k4 _ _ (k3 _ _ e)
    rintro H2 ⟨d2, k2⟩
    rw [List.length_map, List.take_of_length_le (by omega)] at d2
    refine ⟨D, _, rfl, SqL.of d2, _, rfl, ?_⟩
    cases hall : (List.zipWith (partB (fNames rs)) ps dr).all id with
    | false =>
      rw [hall] at k
      exact iteT (k _ k2)
    | true =>
    rw [hall] at k
    refine iteF ?_
    refine ⟨_, rfl, da, _, rfl, .inr (PA_.an H2), rfl, rfl, _, rfl, ?_⟩
    by_cases hz : z = "consent" ∨ z = "refuse"
    · have e1 : inV (V.str z) [V.str "consent", V.str "refuse"] = true := by
        rcases hz with rfl | rfl
        · decide +kernel
        · decide +kernel
      rw [e1]
      refine iteF ?_
      have eps := pans hz
      subst eps
      match dr, hlen, hall, hr_, k with
      | [y1, y2], _, hall, hr_, k =>
        have h12 : isN 20 y1 = true ∧ isN 20 y2 = true := by
          have : ((partB (fNames rs) "place" y1) && (partB (fNames rs) "place" y2 && true)) = true := hall
          rw [Bool.and_true, Bool.and_eq_true] at this
          exact this
        obtain ⟨h1, h2⟩ := h12
        cases hr_ with
        | @cons w1 _ _ _ g1 hr_ =>
        cases hr_ with
        | @cons w2 _ _ _ g2 hr_ =>
        cases hr_
        cases y1 with
        | int i1 =>
          cases y2 with
          | int i2 =>
            cases g1
            cases g2
            rw [decide_eq_true hz] at k
            have b2 : atI [V.str z, V.int i1, V.int i2] 2 = some (V.int i2) := (show atI [V.str z, V.int i1, V.int i2] ((2 : Nat) : Int) = _ from atI_nat rfl)
            have b1 : atI [V.str z, V.int i1, V.int i2] 1 = some (V.int i1) := (show atI [V.str z, V.int i1, V.int i2] ((1 : Nat) : Int) = _ from atI_nat rfl)
            exact ⟨_, rfl, p, _, _, _, rfl, rfl, SqT.of (k2 _ _ hp), b2, _, rfl, p, _, _, _, rfl, rfl, SqT.of (k2 _ _ hp), b1, _, _, rfl, rfl, k _ k2⟩
          | _ => cases h2
        | _ => cases h1
    · have e1 : inV (V.str z) [V.str "consent", V.str "refuse"] = false := by
        have : inV (V.str z) ((["consent", "refuse"] : List Str).map V.str) = decide (z ∈ (["consent", "refuse"] : List Str)) := inV_strs z _
        refine this.trans (decide_eq_false fun h => hz ?_)
        simpa using h
      rw [e1]
      refine iteT ?_
      rw [decide_eq_false hz] at k
      exact k _ k2
end
end Lw

set_option Elab.async false
set_option linter.all false
set_option maxRecDepth 100000
set_option maxHeartbeats 4000000
/-! {k: v for ..} whose keys are tuples of ints and texts -/
namespace Gdw
open L2 hiding Ext
open PySem PySem.Spec PyProof.Rows Gn Gk Gu
/-- the tuple at b is stored as a key of D -/
theorem set_tup {X : Cx} {pins : List (Addr × Obj)} {σ : L2.St} {H : Hp} {s : Shared} {E : Value → Shared → Prop} {D b : Addr} {kvs : List (List Key × V)} {k : List Key} {v : V} {u r : Value} {Q : Unit → Shared → Prop} (hu : X.A.units < cLine) (I : L2.Inv X pins σ H s)
    (hD : H D = some (.dT kvs)) (hb : H b = some (.tup (k.map kV))) (hz : kvs.length < sizeLine) (ru : RelV (.ref b) u) (rv : RelV v r) (h : ∀ s', L2.Inv X pins σ (upd H D (.dT (putK kvs k v))) s' → Q () s') : wpAny (model X.prog X.w) X.A (dictSet D u r) Q E s := by
  obtain rfl : u = .ref b := ru
  obtain ⟨z, hd, xs, rel, dd⟩ := dt_of I.hok hD
  have e := Paired.length rel
  have hl : (putK kvs k v).length ≤ sizeLine := by have := length_putK kvs k v; omega
  refine wpAny_dictSet_heap (hsz := by omega) (show (tupleKind (mixKind X.prog X.w)).room X.A from hu) (key_of I.hok hb) dd fun h' dd' hs => h _ ?_
  obtain ⟨q, es, ep, hq, h2, h3, h4, _, h5⟩ := dd'
  refine d_write I (by rw [hD]; exact True.intro) hs ⟨q, hq⟩ ⟨hl, hd, _, (rel.put k hb rv).keeps fun c ys ec => ?_, q, es, ep, hq, h2, h3, h4, h5⟩
  rw [upd_ne (ne_of ec hD (fun z => nomatch z))]
  exact ec
section
variable {X : Cx}
/-- one turn's end: the pair is stored, what follows holds -/
def Sto (D : Addr) (y z : V) (H : Hp) (Nx : Hp → Prop) : Prop := ∃ kvs k b, y = .ref b ∧ H b = some (.tup (k.map kV)) ∧ H D = some (.dT kvs) ∧ kvs.length < sizeLine ∧ Nx (upd H D (.dT (putK kvs k z)))
def tDt (wi : TI) (g : TG) (tk tv : TE) (vs : List Nat) : TE := fun σ H Q => wi σ H fun J H1 => ∀ D, H1 D = none → ∃ W : Nat → Nat → Hp → Prop, (∃ m, W 0 m (upd H1 D (.dT []))) ∧ ∀ i m H, W i m H →
  (J.stop i H ∧ Q (.ref D) H) ∨ (J.go i H ∧ ∃ Nx : Hp → Prop, (∀ H', Nx H' → ∃ m', m' < m ∧ W (i + 1) m' H') ∧ ∀ x H', J.yld i H x H' → g x (wipe σ vs) H' fun σ2 H2 => wipe σ2 vs = wipe σ vs ∧ tk σ2 H2 fun y H4 => tv σ2 H4 fun z H5 => Sto D y z H5 Nx)
theorem pe_dct {kx vx tg iter : Expr} {scope : Scope} {own : List (Str × Nat)} {pos : Pos} {wi : TI} {g : TG} {tk tv : TE} (hu : X.A.units < cLine) (hc : X.calm = true) (hN : X.N.Nodup) (hi : PI X tg iter wi) (ok : BlkOk X.N X.env.scope scope own)
    (hg : ∀ (s : Shared) (H : Hp) (C : Addr) (cl : List (Str × Addr)) (fp : List Addr), PG (X.blk s H scope (compEnvC scope cl C X.env) fp) tg g)
    (hk : ∀ (s : Shared) (H : Hp) (C : Addr) (cl : List (Str × Addr)) (fp : List Addr), PE (X.blk s H scope (compEnvC scope cl C X.env) fp) kx tk)
    (he : ∀ (s : Shared) (H : Hp) (C : Addr) (cl : List (Str × Addr)) (fp : List Addr), PE (X.blk s H scope (compEnvC scope cl C X.env) fp) vx tv) (hs : ∀ x, foldedSetIterable iter X.env x = pure x := by intro _; rfl) :
    PE X (.DictComp kx vx [⟨tg, iter, [], 0⟩] scope pos) (tDt wi g tk tv (own.map (·.2))) := by
  refine ⟨fun pins s σ H Q I h => ?_⟩
  rw [arm_eval_DictComp]
  have hfree : ∀ y ∈ scope.names, y.2 = .free → ∃ c, X.env.cells.lookup y.1 = some c := fun y hy e => I.ok.has _ ((ok.free y hy e).elim .inl .inr)
  refine wpAny_comprehension_free rfl hs (closure_ok hfree) ok.kind (fun y hy e => by rw [ok.uniq y hy, e]) (thn (hi.run pins s σ H _ I h) fun xv s1 hx => thn hx fun itv s2 h2 => ?_)
  obtain ⟨it, fp, tn, J, H2, rfl, I2, T, st2, f2, q⟩ := h2
  refine wpAny_newObj_type (newEnv_comp ?_)
  have fr : ∀ {b}, s2.heap.objs.size ≤ b → H2 b = none := fun h => I2.hok.fresh h
  obtain ⟨W, ⟨m0, w0⟩, turn⟩ := q _ (fr (Nat.le_refl _))
  have I3 := I2.laid (t' := s2.toks) (fun b o e => Heap.get?_push_of_some { cls := .type "dict", data := .dict #[] } e) (Nat.le_refl _) (dt_empty (P := X.prog) (w := X.w) (H := upd H2 s2.heap.objs.size (.dT [])) s2.heap I2.big)
  have old : ∀ b ∈ fp, b < s2.heap.objs.size := fun b hb => let ⟨o, e, _⟩ := T.obj _ _ st2 b hb; Heap.lt_size e
  generalize hD : s2.heap.objs.size = D at w0 turn I3 fr old ⊢
  have f3 : ∀ b ∈ fp, FpOk X pins (upd H2 D (.dT [])) b ∧ b < (s2.heap.push { cls := .type "dict", data := .dict #[] }).objs.size := fun b hb => by
    refine ⟨⟨?_, (f2 b hb).2⟩, by rw [Heap.size_push, hD]; exact Nat.lt_succ_of_lt (old b hb)⟩
    rw [upd_ne (Nat.ne_of_lt (old b hb))]
    exact (f2 b hb).1
  have st3 : tn 0 (s2.heap.push { cls := .type "dict", data := .dict #[] }) := T.keep _ _ _ st2 fun b _ o e => Heap.get?_push_of_some _ e
  generalize hH : upd H2 D (.dT []) = H3 at w0 I3 f3
  generalize hs3 : ({ s2 with heap := s2.heap.push { cls := .type "dict", data := .dict #[] }, toks := s2.toks } : Shared) = s3 at I3
  have h3 : s3.heap = s2.heap.push { cls := .type "dict", data := .dict #[] } := by rw [← hs3]
  rw [← h3] at f3 st3
  have I4 := block_start I3 ok hN f3
  have st4 := T.keep (i := 0) _ ({ s3 with heap := pushCells (s3.heap.push { cls := .type "dict", data := .dict #[] }) scope.names } : Shared).heap st3 fun b _ o e => pushCells_keeps _ _ _ _ (Heap.get?_push_of_some _ e)
  have hC : ∀ {σ' H' s6}, L2.Inv (X.blk s3 H3 scope (compEnvC scope (cellsFrom (s3.heap.objs.size + 1) scope.names (cloFrom X.env.cells scope.names [])) s3.heap.objs.size X.env) fp) [] σ' H' s6 → H' s3.heap.objs.size = none := fun I6 => I6.free
  have nfp : ∀ b ∈ fp, H3 b = none := fun b hb => (f3 b hb).1.1
  have pg := hg s3 H3 s3.heap.objs.size (cellsFrom (s3.heap.objs.size + 1) scope.names (cloFrom X.env.cells scope.names [])) fp
  have pk := hk s3 H3 s3.heap.objs.size (cellsFrom (s3.heap.objs.size + 1) scope.names (cloFrom X.env.cells scope.names [])) fp
  have pe := he s3 H3 s3.heap.objs.size (cellsFrom (s3.heap.objs.size + 1) scope.names (cloFrom X.env.cells scope.names [])) fp
  have hl : ∀ {pins σ' H' s6}, L2.Inv (X.blk s3 H3 scope (compEnvC scope (cellsFrom (s3.heap.objs.size + 1) scope.names (cloFrom X.env.cells scope.names [])) s3.heap.objs.size X.env) fp) pins σ' H' s6 → ∃ m, s6.heap.Ns s3.heap.objs.size m := fun I6 => let ⟨m, hn, _⟩ := I6.loc; ⟨m, hn⟩
  generalize hce : compEnvC scope (cellsFrom (s3.heap.objs.size + 1) scope.names (cloFrom X.env.cells scope.names [])) s3.heap.objs.size X.env = ce at I4 pg pk pe hC hl
  have go : codeAny (model X.prog X.w) X.A (.compLoop (.DictComp kx vx [⟨tg, iter, [], 0⟩] scope pos) 0 (.ref it) (.ref D) ce) (compPost (model X.prog X.w) X.A X.xe none (EP X pins σ Q) (.ref D) s3.heap.objs.size) { s3 with heap := pushCells (s3.heap.push { cls := .type "dict", data := .dict #[] }) scope.names } := by
    have fpo : ∀ {σ' H' s'}, L2.Inv (X.blk s3 H3 scope ce fp) [] σ' H' s' → (∀ b ∈ fp, H' b = none) → ∀ b ∈ fp, FpOk (X.blk s3 H3 scope ce fp) [] H' b := fun I' hn b hb =>
      ⟨hn b hb, (I'.ok.exf b hb).1, I'.ok.exfs b hb, .inl hb, fun x c e => (I'.ok.exf b hb).2 x c e, fun p hp => absurd (show p ∈ ([] : List (Addr × Obj)) ++ [] from hp) (by simp)⟩
    refine compLoop_anyD (fun n s' => ∃ i H', L2.Inv (X.blk s3 H3 scope ce fp) [] (wipe σ (own.map (·.2))) H' s' ∧ tn i s'.heap ∧ (∀ b ∈ fp, H' b = none) ∧ W i n H') ?_ m0 ⟨0, H3, I4, st4, nfp, w0⟩
    rintro n s5 ⟨i, H5, I5, st5, n5, w5⟩
    rcases turn i n H5 w5 with ⟨stop, qq⟩ | ⟨run, Nx, hNx, step⟩
    · refine thnF (T.done (X.blk s3 H3 scope ce fp) rfl rfl rfl hc i [] s5 _ H5 (fun _ _ => False) I5 (fpo I5 n5) st5 stop) fun r s6 ⟨hr, I6⟩ => ?_
      subst hr
      obtain ⟨m, hm⟩ := hl I6
      have I7 : L2.Inv X pins σ H5 s6 := I3.call' (ch := fp) I6.os I6.base I6.hok I6.bare fun b hb => let f := (f3 b hb).1.2; ⟨f.2.2.1, f.1, f.2.2.2.1, f.2.2.2.2⟩
      refine ⟨m, hm, fun h'' sb => ?_⟩
      obtain ⟨f0, f1, _, f3, f4, f5⟩ := I3.fpOk (Nat.le_refl _) (hC I6)
      exact ⟨.ref D, H5, I7.turned (t' := s6.toks) (fun b o hb e => (sb.2 b hb).trans e) f0 f1 f3 f4 f5, rfl, qq⟩
    · refine thnF (T.item (X.blk s3 H3 scope ce fp) rfl rfl rfl hc i [] s5 _ H5 (fun _ _ => False) I5 (fpo I5 n5) st5 run) fun r s6 ⟨u, hr, h6⟩ => ?_
      subst hr
      refine thnF h6 fun _ s7 ⟨x, H7, I7, r7, y7, st7, n7⟩ => ?_
      refine thnF (pg.run _ s7 _ H7 x u _ (I7.pinned (fpo I7 n7) (T.obj _ _ st7)) r7 (step x H7 y7)) fun _ s8 ⟨σ8, H8, I8, hw8, q8⟩ => ?_
      refine wpAny_pure ?_
      rw [if_pos rfl]
      refine thnF (pk.run _ s8 σ8 H8 _ I8 q8) fun z s10 ⟨yk, H10, I10, r10, q10⟩ => ?_
      refine thnF (pe.run _ s10 σ8 H10 _ I10 q10) fun z2 s11 ⟨yv, H11, I11, r11, kvs, k, b, ek, hb, hD11, hz11, nx⟩ => ?_
      subst ek
      refine set_tup (X := X.blk s3 H3 scope ce fp) hu I11 hD11 hb hz11 r10 r11 fun s12 I12 => ?_
      obtain ⟨m', hm, w'⟩ := hNx _ nx
      have pin : ∀ b ∈ fp, ∃ o, s7.heap.get? b = some o ∧ s12.heap.get? b = some o ∧ (upd H11 D (.dT (putK kvs k yv))) b = none := fun b hb => by
        obtain ⟨o, e, _⟩ := T.obj _ _ st7 b hb
        have z := I12.pin (b, o) (List.mem_append_right _ (List.mem_append_right _ (mem_pinsAt hb e)))
        exact ⟨o, e, z.1, z.2.1⟩
      refine ⟨m', hm, i + 1, _, (I12.unpinned (pins := [])).weak (by rw [← hw8, wipe_length]) (fun j v e => ?_), T.keep _ _ _ st7 fun b hb o e => ?_, fun b hb => (pin b hb).choose_spec.2.2, w'⟩
      · rw [← hw8] at e
        exact (wipe_some e).1
      · obtain ⟨o', e1, e2, _⟩ := pin b hb
        rw [e] at e1
        cases e1
        exact e2
  have fin := codeAny_compStart_dict go (T.self X.A 0 _ _ _ st4 go)
  show codeAny _ _ (.compStart (.DictComp kx vx [⟨tg, iter, [], 0⟩] scope pos) 0 (.ref it) (.ref D) (compEnvC scope (cellsFrom (s3.heap.objs.size + 1) scope.names (cloFrom X.env.cells scope.names [])) s3.heap.objs.size X.env)) (compPost (model X.prog X.w) X.A X.xe none (EP X pins σ Q) (.ref D) s3.heap.objs.size) { s3 with heap := pushCells (s3.heap.push { cls := .type "dict", data := .dict #[] }) scope.names }
  rw [hce]
  exact fin
end
theorem putK_app {α : Type} [DecidableEq α] {l : List (α × V)} {k : α} {v : V} (h : k ∉ l.map Prod.fst) : putK l k v = l ++ [(k, v)] := by
  unfold putK
  rw [if_neg]
  intro z
  rw [List.any_eq_true] at z
  obtain ⟨q, hq, e⟩ := z
  exact h (by rw [← of_decide_eq_true e]; exact List.mem_map_of_mem hq)
/-- a dict copied, each value by its own rule -/
theorem dct_copy {σ : L2.St} {H1 : Hp} {D d : Addr} {od : Obj} {kvs : List (List Key × V)} {j : Nat} {tv : TE} {vs : List Nat} {Qd : Hp → Prop} (f : List Key × V → V) (hn : (kvs.map Prod.fst).Nodup) (hl : kvs.length ≤ 1000000) (hd : H1 d = some (.frz od (.dT kvs))) (hD : H1 D = none)
    (hw : ∀ x, wipe ((wipe σ vs).set j (some x)) vs = wipe σ vs) (hj : ∀ x, ((wipe σ vs).set j (some x))[j]? = some (some x))
    (hv : ∀ (q : Addr) (kv : List Key × V) (H : Hp) (R : VK), kv ∈ kvs → Ext H1 H → H q = some (.tup (kv.1.map kV)) → R (f kv) H → tv ((wipe σ vs).set j (some (.ref q))) H R)
    (h : ∀ H, Ext H1 H → H D = some (.dT (kvs.map fun kv => (kv.1, f kv))) → Qd H) :
    ∃ W : Nat → Nat → Hp → Prop, (∃ m, W 0 m (upd H1 D (.dT []))) ∧ ∀ i m H, W i m H → ((Itkt d od kvs).stop i H ∧ Qd H) ∨ ((Itkt d od kvs).go i H ∧ ∃ Nx : Hp → Prop, (∀ H', Nx H' → ∃ m', m' < m ∧ W (i + 1) m' H') ∧
      ∀ x H', (Itkt d od kvs).yld i H x H' → gName j x (wipe σ vs) H' fun σ2 H2 => wipe σ2 vs = wipe σ vs ∧ tVar j σ2 H2 fun y H4 => tv σ2 H4 fun z H5 => Sto D y z H5 Nx) := by
  have z64 : (1000000 : Nat) < sizeLine := by rw [sizeLine_eq]; decide
  refine ⟨fun i m H => m = kvs.length - i ∧ i ≤ kvs.length ∧ Ext H1 H ∧ H D = some (.dT ((kvs.take i).map fun kv => (kv.1, f kv))), ⟨_, rfl, Nat.zero_le _, Ext.new hD, upd_same⟩, ?_⟩
  rintro i m H ⟨rfl, hi, e, eD⟩
  have ed := e _ _ hd
  by_cases lt : i < kvs.length
  · refine .inr ⟨walk_keysT.goes i H lt ed, fun H' => Ext H1 H' ∧ H' D = some (.dT ((kvs.take (i + 1)).map fun kv => (kv.1, f kv))), fun H' p => ⟨kvs.length - (i + 1), by omega, rfl, lt, p.1, p.2⟩, fun x H' y => ?_⟩
    obtain ⟨rfl, k, v, q, hk, rfl, hq⟩ := walk_keysT.yields i H x H' lt ed y
    refine ⟨hw _, _, hj _, hv q (k, v) _ _ (List.mem_of_getElem? hk) e hq ⟨_, k, q, rfl, hq, eD, by rw [List.length_map, List.length_take]; omega, fun b o hb => ?_, ?_⟩⟩
    · rw [upd_ne (ne_of_none hb hD)]
      exact e _ _ hb
    · rw [upd_same, List.take_add_one, hk, putK_app]
      · rw [List.map_append]
        rfl
      · rw [List.map_map]
        intro z
        have e2 : (kvs.map Prod.fst)[i]? = some k := by rw [List.getElem?_map, hk]; rfl
        obtain ⟨j', hj', ej⟩ := List.getElem_of_mem z
        rw [List.length_map, List.length_take] at hj'
        rw [List.getElem_map, List.getElem_take] at ej
        have e3 : (kvs.map Prod.fst)[j']? = some k := by
          rw [List.getElem?_map, List.getElem?_eq_getElem (by omega)]
          exact congrArg some ej
        have := (List.getElem?_inj (by rw [List.length_map]; omega) hn).mp (e3.trans e2.symm)
        omega
  · have ei : i = kvs.length := by omega
    subst ei
    rw [List.take_length] at eD
    exact .inl ⟨walk_keysT.stops H ed, h H e eD⟩
end Gdw

set_option Elab.async false
set_option linter.all false
set_option maxRecDepth 100000
set_option maxHeartbeats 4000000
namespace Lw
open L2 hiding Ext
open PySem PySem.Spec PyProof.Rows Gn Gr Gk Go Gt Gf Gu
/-! ### facts -/
inductive Fact
  | row (b : Bool) (p : Int) (n : Str) (z : Int)
  | dep (m : Int) (n : Str) (z : Int)
  | rel (p z : Int)
  | wd (p : Int)
  | ans (b : Bool) (p q : Int)
deriving DecidableEq
def kinds : Fin 7 → Str
  | 0 => "spender"
  | 1 => "request"
  | 2 => "deposit"
  | 3 => "release"
  | 4 => "withdrawn"
  | 5 => "consent"
  | 6 => "refuse"
namespace Fact
def tag : Fact → Fin 7
  | .row true _ _ _ => 0
  | .row false _ _ _ => 1
  | .dep .. => 2
  | .rel .. => 3
  | .wd .. => 4
  | .ans true _ _ => 5
  | .ans false _ _ => 6
def n1 : Fact → Int
  | .row _ p _ _ => p
  | .dep m _ _ => m
  | .rel p _ => p
  | .wd p => p
  | .ans _ p _ => p
def rest : Fact → List V
  | .row _ _ n z => [.str n, .int z]
  | .dep _ n z => [.str n, .int z]
  | .rel _ z => [.int z]
  | .wd _ => []
  | .ans _ _ q => [.int q]
def vals (f : Fact) : List V := .str (kinds f.tag) :: .int f.n1 :: f.rest
def drest : Fact → List PyData
  | .row _ _ n z => [.str n, .int z]
  | .dep _ n z => [.str n, .int z]
  | .rel _ z => [.int z]
  | .wd _ => []
  | .ans _ _ q => [.int q]
def data (f : Fact) : PyData := .tuple (.str (kinds f.tag) :: .int f.n1 :: f.drest)
def ok : Fact → Prop
  | .row _ _ n _ => nameOk n = true
  | .dep _ n _ => nameOk n = true
  | _ => True
end Fact
theorem kinds_inj : ∀ t u : Fin 7, (kinds t = kinds u) = (t = u) := by
  intro t u
  exact propext ⟨fun h => by revert t u; decide +kernel, fun h => by rw [h]⟩
theorem kind_eq (t u : Fin 7) : decide (V.str (kinds t) = V.str (kinds u)) = decide (t = u) := by
  by_cases h : t = u
  · rw [h]; simp
  · rw [decide_eq_false h]
    refine decide_eq_false fun e => h ?_
    rw [← kinds_inj t u]
    injection e
theorem in_rows : ∀ t : Fin 7, inV (.str (kinds t)) [.str "spender", .str "request"] = decide (t.val < 2) := by decide +kernel
theorem in_ans : ∀ t : Fin 7, inV (.str (kinds t)) [.str "consent", .str "refuse"] = decide (5 ≤ t.val) := by decide +kernel
theorem in_three : ∀ t : Fin 7, inV (.str (kinds t)) [.str "consent", .str "refuse", .str "withdrawn"] = decide (4 ≤ t.val) := by decide +kernel
theorem kinds_ok : ∀ t : Fin 7, PyData.strOk (kinds t) = true := by decide +kernel
theorem name_okF {n : Str} (h : nameOk n = true) : PyData.strOk n = true := (name_asc19 h).ok
def FAt (H : Hp) (a : Addr) (f : Fact) : Prop := H a = some (.tup f.vals)
theorem dp_fact {K : PySem.W.Frag} {H : Hp} {a : Addr} {f : Fact} (h : FAt H a f) : Dp K H (.ref a) f.data := by
  refine .tup (SqT.of h) (.cons (.str _) (.cons (.int _) ?_))
  cases f with
  | row b p n z => exact .cons (.str _) (.cons (.int _) .nil)
  | dep m n z => exact .cons (.str _) (.cons (.int _) .nil)
  | rel p z => exact .cons (.int _) .nil
  | wd p => exact .nil
  | ans b p q => exact .cons (.int _) .nil
theorem shaped_tup {ds : List PyData} (h : ∀ x ∈ ds, flatD x = true) : SeqAt.shaped (.tuple ds) = true := by
  obtain ⟨b1, b2⟩ := lay_flats h
  have e : PyData.depth (.tuple ds) = PyData.depthAll ds + 1 := by simp only [PyData.depth]
  unfold SeqAt.shaped
  rw [e]
  simp only [PyData.canLay0, b1, Bool.true_and, decide_eq_true_eq]
  omega
theorem flat_rest {f : Fact} (h : f.ok) : ∀ x ∈ f.drest, flatD x = true := by
  intro x hx
  cases f with
  | row b p n z =>
    simp only [Fact.drest, List.mem_cons, List.not_mem_nil, or_false] at hx
    rcases hx with rfl | rfl
    · exact name_okF h
    · rfl
  | dep m n z =>
    simp only [Fact.drest, List.mem_cons, List.not_mem_nil, or_false] at hx
    rcases hx with rfl | rfl
    · exact name_okF h
    · rfl
  | rel p z =>
    simp only [Fact.drest, List.mem_cons, List.not_mem_nil, or_false] at hx
    rw [hx]; rfl
  | wd p => cases hx
  | ans b p q =>
    simp only [Fact.drest, List.mem_cons, List.not_mem_nil, or_false] at hx
    rw [hx]; rfl
theorem shaped_fact {f : Fact} (h : f.ok) : SeqAt.shaped f.data = true := shaped_tup fun x hx => by
  rcases List.mem_cons.mp hx with rfl | hx
  · exact kinds_ok _
  rcases List.mem_cons.mp hx with rfl | hx
  · rfl
  · exact flat_rest h x hx
theorem bd {α : Type} [BEq α] [LawfulBEq α] [DecidableEq α] (x y : α) : (x == y) = decide (x = y) := by
  by_cases h : x = y
  · subst h; simp
  · rw [decide_eq_false h]
    exact Bool.eq_false_iff.mpr fun e => h (eq_of_beq e)
theorem eqv_fact (f g : Fact) : PyData.eqv f.data g.data = decide (f = g) := by
  have hk : ∀ t u : Fin 7, (kinds t == kinds u) = decide (t = u) := fun t u => by
    by_cases h : t = u
    · rw [h]; simp
    · rw [decide_eq_false h]
      exact Bool.eq_false_iff.mpr fun e => h (by rw [← kinds_inj t u]; exact eq_of_beq e)
  unfold Fact.data
  cases f with
  | row b p n z => cases g <;> cases b <;> (try rename_i b' _ _ _; cases b') <;> simp [PyData.eqv, PyData.eqvAll, Fact.tag, Fact.n1, Fact.drest, hk, bd, Bool.and_assoc, Bool.decide_and]
  | dep m n z => cases g <;> (try rename_i b' _ _ _; cases b') <;> (try rename_i b' _ _; cases b') <;> simp [PyData.eqv, PyData.eqvAll, Fact.tag, Fact.n1, Fact.drest, hk, bd, Bool.and_assoc, Bool.decide_and]
  | rel p z => cases g <;> (try rename_i b' _ _ _; cases b') <;> (try rename_i b' _ _; cases b') <;> simp [PyData.eqv, PyData.eqvAll, Fact.tag, Fact.n1, Fact.drest, hk, bd, Bool.and_assoc, Bool.decide_and]
  | wd p => cases g <;> (try rename_i b' _ _ _; cases b') <;> (try rename_i b' _ _; cases b') <;> simp [PyData.eqv, PyData.eqvAll, Fact.tag, Fact.n1, Fact.drest, hk, bd, Bool.and_assoc, Bool.decide_and]
  | ans b p q => cases g <;> cases b <;> (try rename_i b' _ _; cases b') <;> simp [PyData.eqv, PyData.eqvAll, Fact.tag, Fact.n1, Fact.drest, hk, bd, Bool.and_assoc, Bool.decide_and]
theorem FAt.ext {H H' : Hp} {a : Addr} {f : Fact} (h : FAt H a f) (k : Ext H H') : FAt H' a f := k _ _ h
/-- a fact as a key -/
def Fact.ks : Fact → List Key
  | .row b p n z => [.inr (kinds (Fact.row b p n z).tag), .inl p, .inr n, .inl z]
  | .dep m n z => [.inr "deposit", .inl m, .inr n, .inl z]
  | .rel p z => [.inr "release", .inl p, .inl z]
  | .wd p => [.inr "withdrawn", .inl p]
  | .ans b p q => [.inr (kinds (Fact.ans b p q).tag), .inl p, .inl q]
theorem ks_vals (f : Fact) : f.ks.map kV = f.vals := by cases f <;> rfl
theorem FAt.key {H : Hp} {a : Addr} {f : Fact} (h : FAt H a f) : H a = some (.tup (f.ks.map kV)) := by rw [ks_vals]; exact h
theorem ks_inj : ∀ {f g : Fact}, f.ks = g.ks → f = g := by
  have k1 : ∀ t u : Fin 7, kinds t = kinds u → t = u := fun t u h => by rw [kinds_inj t u] at h; exact h
  intro f g h
  cases f <;> cases g <;> simp only [Fact.ks, List.cons.injEq, Sum.inr.injEq, Sum.inl.injEq, reduceCtorEq, and_false, false_and, and_true] at h
  · rename_i b p n z b' p' n' z'
    obtain ⟨e, rfl, rfl, rfl⟩ := h
    have := k1 _ _ e
    cases b <;> cases b' <;> first | rfl | (simp [Fact.tag] at this)
  · rename_i b p n z m' n' z'
    have := k1 _ 2 h.1
    cases b <;> simp [Fact.tag] at this
  · rename_i m n z b' p' n' z'
    have := k1 2 _ h.1
    cases b' <;> simp [Fact.tag] at this
  · obtain ⟨_, rfl, rfl, rfl⟩ := h
    rfl
  · obtain ⟨_, rfl, rfl⟩ := h
    rfl
  · rename_i p z b' p' q'
    have := k1 3 _ h.1
    cases b' <;> simp [Fact.tag] at this
  · obtain ⟨_, rfl⟩ := h
    rfl
  · rename_i b p q p' z'
    have := k1 _ 3 h.1
    cases b <;> simp [Fact.tag] at this
  · rename_i b p q b' p' q'
    obtain ⟨e, rfl, rfl⟩ := h
    have := k1 _ _ e
    cases b <;> cases b' <;> first | rfl | (simp [Fact.tag] at this)
theorem ks_eq (f g : Fact) : decide (f.ks = g.ks) = decide (f = g) := decide_eq_decide.mpr ⟨ks_inj, fun e => by rw [e]⟩
/-- a fact of these accounts -/
def Fact.good (ws : List Str) : Fact → Prop
  | .row _ p n z => 1 ≤ p ∧ p ≤ 20 ∧ n ∈ ws ∧ 1 ≤ z ∧ z ≤ 1000000000
  | .dep m n z => 1 ≤ m ∧ m ≤ 999 ∧ n ∈ ws ∧ 1 ≤ z ∧ z ≤ 1000000000
  | .rel p z => 1 ≤ p ∧ p ≤ 20 ∧ 1 ≤ z ∧ z ≤ 1000000000
  | .wd p => 1 ≤ p ∧ p ≤ 20
  | .ans _ p q => 1 ≤ p ∧ p ≤ 20 ∧ 1 ≤ q ∧ q < p
theorem isN_some {m : Int} {x : PyData} (h : isN m x = true) : ∃ i, x = .int i ∧ 1 ≤ i ∧ i ≤ m := by
  cases x with
  | int i => exact ⟨i, rfl, of_decide_eq_true h⟩
  | _ => cases h
theorem isA_some {ws : List Str} {x : PyData} (h : isA ws x = true) : ∃ n, x = .str n ∧ n ∈ ws := by
  cases x with
  | str n => exact ⟨n, rfl, of_decide_eq_true h⟩
  | _ => cases h
theorem dk_int {d g : Addr} {H : Hp} {v : V} {i : Int} (h : Dk d g H v (.int i)) : v = .int i := by cases h; rfl
theorem dk_str {d g : Addr} {H : Hp} {v : V} {i : Str} (h : Dk d g H v (.str i)) : v = .str i := by cases h; rfl
theorem len4 {α : Type} {l : List α} (h : l.length = 3) : ∃ a b c, l = [a, b, c] := by
  match l, h with
  | [a, b, c], _ => exact ⟨a, b, c, rfl⟩
theorem len3 {α : Type} {l : List α} (h : l.length = 2) : ∃ a b, l = [a, b] := by
  match l, h with
  | [a, b], _ => exact ⟨a, b, rfl⟩
theorem len2' {α : Type} {l : List α} (h : l.length = 1) : ∃ a, l = [a] := by
  match l, h with
  | [a], _ => exact ⟨a, rfl⟩
/-- what is_fact says yes to -/
theorem fact_data {ws : List Str} {x : PyData} (h : factB ws x = true) : ∃ f : Fact, x = f.data ∧ f.good ws := by
  match x, h with
  | .tuple (.str k :: r), h =>
    have h : factR ws k r = true := h
    unfold factR at h
    cases hp : partsOf k with
    | none => rw [hp] at h; cases h
    | some ps =>
      rw [hp] at h
      simp only [Bool.and_eq_true] at h
      obtain ⟨hl, ha, hlt⟩ := h
      have hl := of_decide_eq_true hl
      have nac : ¬ ("place" : Str) = "account" := by decide +kernel
      have nam : ¬ ("place" : Str) = "amount" := by decide +kernel
      have nmk : ¬ ("place" : Str) = "mark" := by decide +kernel
      have pl : ∀ x, partB ws "place" x = isN 20 x := fun x => by unfold partB; rw [if_neg nac, if_neg nam, if_neg nmk]
      have ac : ∀ x, partB ws "account" x = isA ws x := fun x => by unfold partB; rw [if_pos rfl]
      have am : ∀ x, partB ws "amount" x = isN 1000000000 x := fun x => by unfold partB; rw [if_neg (by decide +kernel), if_pos rfl]
      have mk : ∀ x, partB ws "mark" x = isN 999 x := fun x => by unfold partB; rw [if_neg (by decide +kernel), if_neg (by decide +kernel), if_pos rfl]
      have row : ∀ b : Bool, ps = (["place", "account", "amount"] : List Str) → k = kinds (if b then 0 else 1) → ∃ f : Fact, PyData.tuple (.str k :: r) = f.data ∧ f.good ws := fun b e ek => by
        subst e
        obtain ⟨a, c, z, rfl⟩ := len4 hl
        simp only [List.zipWith_cons_cons, List.zipWith_nil_right, List.all_cons, List.all_nil, id, pl, ac, am, Bool.and_eq_true] at ha
        obtain ⟨h1, h2, h3, _⟩ := ha
        obtain ⟨p, rfl, p1, p2⟩ := isN_some h1
        obtain ⟨n, rfl, hn⟩ := isA_some h2
        obtain ⟨z, rfl, z1, z2⟩ := isN_some h3
        refine ⟨.row b p n z, ?_, p1, p2, hn, z1, z2⟩
        rw [ek]
        cases b <;> rfl
      have ans : ∀ b : Bool, ps = (["place", "place"] : List Str) → k = kinds (if b then 5 else 6) → (k = "consent" ∨ k = "refuse") → ∃ f : Fact, PyData.tuple (.str k :: r) = f.data ∧ f.good ws := fun b e ek e3 => by
        subst e
        obtain ⟨a, c, rfl⟩ := len3 hl
        simp only [List.zipWith_cons_cons, List.zipWith_nil_right, List.all_cons, List.all_nil, id, pl, Bool.and_eq_true] at ha
        obtain ⟨h1, h2, _⟩ := ha
        obtain ⟨p, rfl, p1, p2⟩ := isN_some h1
        obtain ⟨q, rfl, q1, q2⟩ := isN_some h2
        rw [decide_eq_true e3] at hlt
        have hlt : decide (q < p) = true := hlt
        refine ⟨.ans b p q, ?_, p1, p2, q1, of_decide_eq_true hlt⟩
        rw [ek]
        cases b <;> rfl
      unfold partsOf at hp
      split at hp
      · rename_i e; exact row true (Option.some.inj hp).symm e
      split at hp
      · rename_i e; exact row false (Option.some.inj hp).symm e
      split at hp
      · rename_i e
        cases Option.some.inj hp
        obtain ⟨a, c, z, rfl⟩ := len4 hl
        simp only [List.zipWith_cons_cons, List.zipWith_nil_right, List.all_cons, List.all_nil, id, mk, ac, am, Bool.and_eq_true] at ha
        obtain ⟨h1, h2, h3, _⟩ := ha
        obtain ⟨p, rfl, p1, p2⟩ := isN_some h1
        obtain ⟨n, rfl, hn⟩ := isA_some h2
        obtain ⟨z, rfl, z1, z2⟩ := isN_some h3
        exact ⟨.dep p n z, by rw [e]; rfl, p1, p2, hn, z1, z2⟩
      split at hp
      · rename_i e
        cases Option.some.inj hp
        obtain ⟨a, c, rfl⟩ := len3 hl
        simp only [List.zipWith_cons_cons, List.zipWith_nil_right, List.all_cons, List.all_nil, id, pl, am, Bool.and_eq_true] at ha
        obtain ⟨h1, h2, _⟩ := ha
        obtain ⟨p, rfl, p1, p2⟩ := isN_some h1
        obtain ⟨z, rfl, z1, z2⟩ := isN_some h2
        exact ⟨.rel p z, by rw [e]; rfl, p1, p2, z1, z2⟩
      split at hp
      · rename_i e; exact ans true (Option.some.inj hp).symm e (.inl e)
      split at hp
      · rename_i e; exact ans false (Option.some.inj hp).symm e (.inr e)
      split at hp
      · rename_i e
        cases Option.some.inj hp
        obtain ⟨a, rfl⟩ := len2' hl
        simp only [List.zipWith_cons_cons, List.zipWith_nil_right, List.all_cons, List.all_nil, id, pl, Bool.and_eq_true] at ha
        obtain ⟨p, rfl, p1, p2⟩ := isN_some ha.1
        exact ⟨.wd p, by rw [e]; rfl, p1, p2⟩
      · cases hp
theorem dk_fact {d g : Addr} {H : Hp} {v : V} {f : Fact} (h : Dk d g H v f.data) : ∃ p, v = .ref p ∧ FAt H p f := by
  unfold Fact.data at h
  cases h with
  | tup h n1 n2 a =>
    refine ⟨_, rfl, ?_⟩
    unfold FAt Fact.vals
    cases a with
    | cons h1 a =>
      cases a with
      | cons h2 a =>
        obtain rfl := dk_str h1
        obtain rfl := dk_int h2
        cases f with
        | row b p n z =>
          cases a with
          | cons h3 a =>
            cases a with
            | cons h4 a =>
              cases a
              obtain rfl := dk_str h3
              obtain rfl := dk_int h4
              exact h
        | dep b n z =>
          cases a with
          | cons h3 a =>
            cases a with
            | cons h4 a =>
              cases a
              obtain rfl := dk_str h3
              obtain rfl := dk_int h4
              exact h
        | rel p z =>
          cases a with
          | cons h3 a =>
            cases a
            obtain rfl := dk_int h3
            exact h
        | wd p =>
          cases a
          exact h
        | ans b p q =>
          cases a with
          | cons h3 a =>
            cases a
            obtain rfl := dk_int h3
            exact h
theorem fact_of {d g : Addr} {H : Hp} {ws : List Str} {v : V} {x : PyData} (h : Dk d g H v x) (hb : factB ws x = true) : ∃ p f, v = .ref p ∧ FAt H p f ∧ f.good ws ∧ x = f.data := by
  obtain ⟨f, rfl, hg⟩ := fact_data hb
  obtain ⟨p, rfl, hp⟩ := dk_fact h
  exact ⟨p, f, rfl, hp, hg, rfl⟩
end Lw

set_option Elab.async false
set_option linter.all false
set_option maxRecDepth 100000
set_option maxHeartbeats 4000000
/-! dicts whose keys are texts, whole numbers, truth values, None and tuples of texts and numbers, all in one -/
namespace Gdo
open PySem PySem.Spec PyProof.Rows
inductive OK where
  | non
  | bo (b : Bool)
  | sc (k : L2.Key)
  | tp (ks : List L2.Key)
deriving DecidableEq
def kD : L2.Key → PyData
  | .inl i => .int i
  | .inr x => .str x
def dk : OK → PyData
  | .non => .none
  | .bo b => .bool b
  | .sc k => kD k
  | .tp ks => .tuple (ks.map kD)
/-- no number that a truth value equals -/
def Big : OK → Prop
  | .sc (.inl i) => 2 ≤ i
  | _ => True
def Ky (P : Program) (w : World) (h : Heap) : OK → Value → Prop
  | .non, v => v = .none
  | .bo b, v => v = .bool b
  | .sc k, v => L2.keyIs k v = true
  | .tp ks, v => ∃ a, v = .ref a ∧ IsTupleKey (L2.mixKind P w) h ks a
def oh (P : Program) (w : World) : OK → Int
  | .non => reduceHash 0xFCA86420
  | .bo b => PpSet.hB b
  | .sc k => L2.keyH w k
  | .tp ks => tupleKeyHash (L2.mixKind P w) ks
def dr : OK → Nat
  | .tp ks => ks.length + 1
  | _ => 1
theorem reads_items {P : Program} {w : World} {h : Heap} : ∀ {ks : List L2.Key} {vs : List Value}, ItemsAre (L2.mixKind P w) ks vs → ReadsAll h vs (ks.map kD) []
  | [], _, .nil => .nil
  | k :: ks, _, .cons (v := v) h1 t => by
    have r : Reads h v (kD k) [] := by
      rcases L2.keyIs_shape h1 with ⟨i, t, rfl, rfl⟩ | ⟨x, t, rfl, rfl⟩
      · exact .int _ _
      · exact .str _ _
    exact .cons r (reads_items t)
theorem Ky.reads {P : Program} {w : World} {h : Heap} {k : OK} {v : Value} (z : Ky P w h k v) : Reads h v (dk k) [] := by
  cases k with
  | non => cases (show v = .none from z); exact .none
  | bo b => cases (show v = .bool b from z); exact .bool b
  | sc k =>
    rcases L2.keyIs_shape z with ⟨i, t, rfl, rfl⟩ | ⟨x, t, rfl, rfl⟩
    · exact .int _ _
    · exact .str _ _
  | tp ks =>
    obtain ⟨a, rfl, o, items, n, ho, hc, hd, hi⟩ := z
    exact .tuple ho hc hd (reads_items hi)
theorem kD_plain (k : L2.Key) : (kD k).plain = true ∧ (kD k).depth = 0 := by cases k <;> exact ⟨rfl, rfl⟩
theorem kDs_plain : ∀ ks : List L2.Key, PyData.plainAll (ks.map kD) = true ∧ PyData.depthAll (ks.map kD) = 0
  | [] => ⟨rfl, rfl⟩
  | k :: ks => by
    obtain ⟨a, b⟩ := kD_plain k
    obtain ⟨c, d⟩ := kDs_plain ks
    constructor
    · show (PyData.plain _ && PyData.plainAll _) = true
      rw [a, c]; rfl
    · show max (PyData.depth _) (PyData.depthAll _) = 0
      rw [b, d]; rfl
theorem dk_plain (k : OK) : (dk k).plain = true ∧ (dk k).depth ≤ 1 := by
  cases k with
  | non => exact ⟨rfl, Nat.zero_le _⟩
  | bo b => exact ⟨rfl, Nat.zero_le _⟩
  | sc k =>
    obtain ⟨a, b⟩ := kD_plain k
    exact ⟨a, by show (kD k).depth ≤ 1; omega⟩
  | tp ks =>
    obtain ⟨a, b⟩ := kDs_plain ks
    refine ⟨a, ?_⟩
    show PyData.depthAll _ + 1 ≤ 1
    omega
theorem kD_eqv (a b : L2.Key) : PyData.eqv (kD a) (kD b) = decide (a = b) := by
  cases a with
  | inl i =>
    cases b with
    | inl j =>
      show (i == j) = _
      by_cases e : i = j
      · subst e; simp
      · rw [decide_eq_false (fun z => e (Sum.inl.inj z))]; simpa using e
    | inr y => exact (decide_eq_false (fun z => nomatch z)).symm
  | inr x =>
    cases b with
    | inl j => exact (decide_eq_false (fun z => nomatch z)).symm
    | inr y =>
      show (x == y) = _
      by_cases e : x = y
      · subst e; simp
      · rw [decide_eq_false (fun z => e (Sum.inr.inj z))]; simpa using e
theorem kDs_eqv : ∀ a b : List L2.Key, PyData.eqvAll (a.map kD) (b.map kD) = decide (a = b)
  | [], [] => (decide_eq_true rfl).symm
  | [], _ :: _ => (decide_eq_false (fun z => nomatch z)).symm
  | _ :: _, [] => (decide_eq_false (fun z => nomatch z)).symm
  | x :: a, y :: b => by
    show (PyData.eqv (kD x) (kD y) && PyData.eqvAll _ _) = _
    rw [kD_eqv, kDs_eqv a b]
    by_cases e : x = y
    · subst e
      by_cases e2 : a = b
      · subst e2; simp
      · rw [decide_eq_false e2, decide_eq_false (fun z => e2 (List.cons.inj z).2)]; simp
    · rw [decide_eq_false e, decide_eq_false (fun z => e (List.cons.inj z).1)]; rfl
theorem dk_eqv {x y : OK} (hx : Big x) (hy : Big y) : PyData.eqv (dk x) (dk y) = decide (x = y) := by
  cases x with
  | non => cases y with
    | non => exact (decide_eq_true rfl).symm
    | bo b => exact (decide_eq_false (fun z => nomatch z)).symm
    | sc k => cases k <;> exact (decide_eq_false (fun z => nomatch z)).symm
    | tp ks => exact (decide_eq_false (fun z => nomatch z)).symm
  | bo b => cases y with
    | non => exact (decide_eq_false (fun z => nomatch z)).symm
    | bo c => cases b <;> cases c <;> rfl
    | sc k =>
      rw [decide_eq_false (fun z => nomatch z)]
      cases k with
      | inl i =>
        have hy : 2 ≤ i := hy
        show ((if b then (1 : Int) else 0) == i) = false
        cases b <;> simp <;> omega
      | inr x => rfl
    | tp ks => exact (decide_eq_false (fun z => nomatch z)).symm
  | sc k => cases y with
    | non => cases k <;> exact (decide_eq_false (fun z => nomatch z)).symm
    | bo b =>
      rw [decide_eq_false (fun z => nomatch z)]
      cases k with
      | inl i =>
        have hx : 2 ≤ i := hx
        show (i == (if b then (1 : Int) else 0)) = false
        cases b <;> simp <;> omega
      | inr x => rfl
    | sc j =>
      show PyData.eqv (kD k) (kD j) = _
      rw [kD_eqv]
      by_cases e : k = j
      · subst e; simp
      · rw [decide_eq_false e, decide_eq_false (fun z => e (OK.sc.inj z))]
    | tp ks => cases k <;> exact (decide_eq_false (fun z => nomatch z)).symm
  | tp ks => cases y with
    | non => exact (decide_eq_false (fun z => nomatch z)).symm
    | bo b => exact (decide_eq_false (fun z => nomatch z)).symm
    | sc k => cases k <;> exact (decide_eq_false (fun z => nomatch z)).symm
    | tp js =>
      show PyData.eqvAll _ _ = _
      rw [kDs_eqv]
      by_cases e : ks = js
      · subst e; simp
      · rw [decide_eq_false e, decide_eq_false (fun z => e (OK.tp.inj z))]
section
variable {P : Program} {w : World} {A : Around} {E : Value → Shared → Prop} {s : Shared}
theorem ky_eq {x y : OK} {u v : Value} {Q : Bool → Shared → Prop} (hu : A.units + 1 < cLine) (bx : Big x) (by_ : Big y) (hx : Ky P w s.heap x u) (hy : Ky P w s.heap y v) (h : Q (decide (x = y)) s) : wpAny (model P w) A (eqBool u v) Q E s := by
  have e := SeqAt.eqAt_plain (dk x) (dk y) A s u v [] [] hx.reads hy.reads (dk_plain x).1 (dk_plain y).1 (by
    have := (dk_plain x).2
    have : min (dk x).depth (dk y).depth ≤ (dk x).depth := Nat.min_le_left ..
    omega)
  rw [dk_eqv bx by_] at e
  exact e P w E Q h
theorem ky_hash {k : OK} {v : Value} {Q : Int → Shared → Prop} (hu : A.units < cLine) (hk : Ky P w s.heap k v) (h : Q (oh P w k) { s with toks := s.toks + dr k }) : wpAny (model P w) A (pyHash v) Q E s := by
  cases k with
  | non =>
    exact (L2.noneKind P w).pyHash (k := none) (v := v) (by cases (show v = .none from hk); rfl) h
  | bo b => cases (show v = .bool b from hk); exact PpSet.pyHash_bool h
  | sc k => exact (L2.mixKind P w).pyHash (k := k) hk h
  | tp ks =>
    obtain ⟨a, rfl, hi⟩ := hk
    exact wpAny_pyHash_tuple hu hi h
theorem ky_quiet {k : OK} {v : Value} {Q : Bool → Shared → Prop} (hk : Ky P w s.heap k v) (h : Q true s) : wpAny (model P w) A (eqIsQuiet 8 v) Q E s := by
  cases k with
  | tp ks =>
    obtain ⟨a, rfl, hi⟩ := hk
    exact wpAny_eqIsQuiet_tuple hi h
  | non => cases (show v = .none from hk); exact wpAny_pure h
  | bo b => cases (show v = .bool b from hk); exact wpAny_pure h
  | sc k =>
    rcases L2.keyIs_shape hk with ⟨i, t, rfl, rfl⟩ | ⟨x, t, rfl, rfl⟩
    · exact wpAny_pure h
    · exact wpAny_pure h
end
end Gdo

set_option Elab.async false
set_option linter.all false
set_option maxRecDepth 100000
set_option maxHeartbeats 4000000
/-! such a dict: a key is looked for, set -/
namespace Gdo
open PySem PySem.Spec PyProof.Rows
abbrev Ent := OK × Value × Value
def entOf (P : Program) (w : World) (x : Ent) : DictEntry := ⟨oh P w x.1, x.2.1, x.2.2⟩
section
variable {P : Program} {w : World} {A : Around} {E : Value → Shared → Prop} {s : Shared}
variable {d : Addr} {o : Obj} {es : Array DictEntry} {ep : Nat} {xs : List Ent} {k : OK} {u : Value}
def Fnd (xs : List Ent) (k : OK) (rest : List Nat) (hit : Option Nat) : Prop :=
  rest.Nodup ∧ (∀ j (x : Ent), xs[j]? = some x → x.1 = k → j ∈ rest ∨ hit = some j) ∧ (∀ j, hit = some j → j ∉ rest ∧ ∃ x : Ent, xs[j]? = some x ∧ x.1 = k)
theorem ent_at (he : es.toList = xs.map (entOf P w)) (j : Nat) : es[j]? = (xs[j]?).map (entOf P w) := by
  rw [← Array.getElem?_toList, he, List.getElem?_map]
theorem ent_size (he : es.toList = xs.map (entOf P w)) : es.size = xs.length := by
  rw [← Array.length_toList, he, List.length_map]
theorem fnd_begin (he : es.toList = xs.map (entOf P w)) : Fnd xs k (placesWithHash es.size (fun i => es[i]?.map (·.hash)) (oh P w k)) none := by
  refine ⟨?_, fun j x hx hk => .inl ?_, fun j h => by cases h⟩
  · unfold placesWithHash
    exact List.Pairwise.filter _ List.nodup_range
  · unfold placesWithHash
    have hl : j < es.size := by rw [ent_size he]; exact (List.getElem?_eq_some_iff.mp hx).1
    refine List.mem_filter.mpr ⟨List.mem_range.mpr hl, ?_⟩
    show ((es[j]?.map (·.hash)) == some (oh P w k)) = true
    rw [ent_at he j, hx, ← hk]
    simp [entOf]
theorem fnd_skip {i : Nat} {rest : List Nat} {hit : Option Nat} (h : Fnd xs k (i :: rest) hit) (n : ∀ x : Ent, xs[i]? = some x → x.1 ≠ k) : Fnd xs k rest hit := by
  obtain ⟨h1, h2, h3⟩ := h
  refine ⟨(List.nodup_cons.mp h1).2, fun j x hx hk => ?_, fun j hj => ?_⟩
  · rcases h2 j x hx hk with z | z
    · rcases List.mem_cons.mp z with rfl | z
      · exact absurd hk (n x hx)
      · exact .inl z
    · exact .inr z
  · obtain ⟨a, b⟩ := h3 j hj
    exact ⟨fun z => a (List.mem_cons_of_mem _ z), b⟩
theorem key_uniq (hn : (xs.map (·.1)).Nodup) {i j : Nat} {x y : Ent} (hx : xs[i]? = some x) (hy : xs[j]? = some y) (e : x.1 = y.1) : i = j := by
  have a : (xs.map (·.1))[i]? = some x.1 := by rw [List.getElem?_map, hx]; rfl
  have b : (xs.map (·.1))[j]? = some x.1 := by rw [List.getElem?_map, hy, e]; rfl
  exact (List.getElem?_inj (List.getElem?_eq_some_iff.mp a).1 hn).mp (a.trans b.symm)
theorem fnd_hit {i : Nat} {rest : List Nat} {x : Ent} (hn : (xs.map (·.1)).Nodup) (h : Fnd xs k (i :: rest) none) (hx : xs[i]? = some x) (hk : x.1 = k) : Fnd xs k rest (some i) := by
  obtain ⟨h1, h2, h3⟩ := h
  refine ⟨(List.nodup_cons.mp h1).2, fun j y hy hk' => .inr ?_, fun j hj => ?_⟩
  · rw [key_uniq hn hx hy (hk.trans hk'.symm)]
  · cases hj
    exact ⟨(List.nodup_cons.mp h1).1, x, hx, hk⟩
theorem stored_ky (he : es.toList = xs.map (entOf P w)) (hk : ∀ x ∈ xs, Ky P w s.heap x.1 x.2.1) (l : List Nat) : ∀ v ∈ l.filterMap (fun i => es[i]?.map (·.key)), ∃ k', Ky P w s.heap k' v := by
  intro v hv
  obtain ⟨i, _, hi⟩ := List.mem_filterMap.mp hv
  rw [ent_at he i] at hi
  cases hx : xs[i]? with
  | none => rw [hx] at hi; cases hi
  | some x =>
    rw [hx] at hi
    cases hi
    exact ⟨x.1, hk x (List.mem_of_getElem? hx)⟩
theorem tells_no {stored : List Value} {Q : Bool → Shared → Prop} (hkey : Ky P w s.heap k u) (hst : ∀ v ∈ stored, ∃ k', Ky P w s.heap k' v) (h : Q false s) : wpAny (model P w) A (tableMayTell u stored) Q E s := by
  unfold tableMayTell
  split
  · exact wpAny_pure h
  · refine wpAny_bind (ky_quiet hkey ?_)
    simp only [Bool.not_true, Bool.false_eq_true, if_false]
    refine wpAny_bind ?_
    refine wpAny_forIn_list _ (fun rest r s' => s' = s ∧ r = (none, ()) ∧ ∀ v ∈ rest, ∃ k', Ky P w s.heap k' v) _ ?_ ?_ _ _ ⟨rfl, rfl, hst⟩
    · rintro x rest r s' ⟨rfl, rfl, hr⟩
      obtain ⟨k', hb⟩ := hr x List.mem_cons_self
      refine wpAny_bind (ky_quiet hb ?_)
      simp only [Bool.not_true, Bool.false_eq_true, if_false]
      exact wpAny_pure ⟨rfl, rfl, fun v hv => hr v (List.mem_cons_of_mem _ hv)⟩
    · rintro r s' ⟨rfl, rfl, _⟩
      exact wpAny_pure h
/-- the walk where no reference is among the keys -/
theorem walk_plain {Q : Option Nat → Shared → Prop} (hu : A.units + 1 < cLine) (bk : Big k) (hkey : Ky P w s.heap k u) (ho : s.heap.get? d = some o) (hd : o.data = .dict es ep) (he : es.toList = xs.map (entOf P w)) (hk : ∀ x ∈ xs, Ky P w s.heap x.1 x.2.1 ∧ Big x.1) (hn : (xs.map (·.1)).Nodup)
    (hnone : k ∉ xs.map (·.1) → Q none s) (hsome : ∀ j x, xs[j]? = some x → x.1 = k → Q (some j) s) :
    wpAny (model P w) A (dictWalkPlain d u (oh P w k) es (placesWithHash es.size (fun i => es[i]?.map (·.hash)) (oh P w k))) Q E s := by
  unfold dictWalkPlain
  refine wpAny_bind ?_
  refine wpAny_forIn_list _ (fun rest b s' => s' = s ∧ b = (none, ()) ∧ Fnd xs k rest none) _ ?_ ?_ _ _ ⟨rfl, rfl, fnd_begin he⟩
  · rintro i rest b s' ⟨rfl, rfl, F⟩
    rw [ent_at he i]
    cases hx : xs[i]? with
    | none => exact wpAny_pure ⟨rfl, rfl, fnd_skip F fun x z => by rw [hx] at z; cases z⟩
    | some x =>
      obtain ⟨kx, bx⟩ := hk x (List.mem_of_getElem? hx)
      show wpAny _ _ (if ((entOf P w x).hash == oh P w k) = true then _ else _) _ _ _
      by_cases hh : ((entOf P w x).hash == oh P w k) = true
      · rw [if_pos hh]
        refine wpAny_bind (wpAny_dictEpoch ho hd (wpAny_bind (ky_eq hu bx bk kx hkey (wpAny_bind (wpAny_dictEpoch ho hd ?_)))))
        show wpAny _ _ (if (ep != ep) = true then _ else _) _ E _
        rw [if_neg (by simp)]
        by_cases e : x.1 = k
        · rw [decide_eq_true e]
          exact wpAny_bind (wpAny_rule (wpAny_pure (wpAny_pure (hsome i x hx e))))
        · rw [decide_eq_false e]
          exact wpAny_bind (wpAny_rule (wpAny_pure ⟨rfl, rfl, fnd_skip F fun y z => by rw [hx] at z; cases z; exact e⟩))
      · rw [if_neg hh]
        refine wpAny_pure ⟨rfl, rfl, fnd_skip F fun y z e => ?_⟩
        rw [hx] at z
        cases z
        exact hh (by rw [← e]; simp [entOf])
  · rintro b s' ⟨rfl, rfl, F⟩
    refine wpAny_pure (hnone fun hm => ?_)
    obtain ⟨x, hx, e⟩ := List.mem_map.mp hm
    obtain ⟨j, hj⟩ := List.mem_iff_getElem?.mp hx
    rcases F.2.1 j x hj e with z | z
    · cases z
    · cases z
theorem ky_ref {h : Heap} {k' : OK} {b : Addr} (z : Ky P w h k' (.ref b)) : ∃ ks, k' = .tp ks ∧ IsTupleKey (L2.mixKind P w) h ks b := by
  cases k' with
  | non => cases (show Value.ref b = .none from z)
  | bo c => cases (show Value.ref b = .bool c from z)
  | sc k =>
    rcases L2.keyIs_shape z with ⟨i, t, _, e⟩ | ⟨x, t, _, e⟩
    · cases e
    · cases e
  | tp ks =>
    obtain ⟨a, e, hi⟩ := z
    cases e
    exact ⟨ks, rfl, hi⟩
theorem ky_str {h : Heap} {k' : OK} {v : Value} (z : Ky P w h k' v) (hs : isExactStrKey v = true) : ∃ x, k' = .sc (.inr x) := by
  cases k' with
  | non => cases (show v = .none from z); cases hs
  | bo c => cases (show v = .bool c from z); cases hs
  | sc k =>
    rcases L2.keyIs_shape z with ⟨i, t, rfl, rfl⟩ | ⟨x, t, rfl, rfl⟩
    · cases hs
    · exact ⟨x, rfl⟩
  | tp ks =>
    obtain ⟨a, rfl, _⟩ := z
    cases hs
theorem find_at {Q : Option Nat → Shared → Prop} (hu : A.units + 1 < cLine) (bk : Big k) (hkey : Ky P w s.heap k u) (ho : s.heap.get? d = some o) (hd : o.data = .dict es ep) (he : es.toList = xs.map (entOf P w)) (hk : ∀ x ∈ xs, Ky P w s.heap x.1 x.2.1 ∧ Big x.1) (hn : (xs.map (·.1)).Nodup)
    (hnone : k ∉ xs.map (·.1) → Q none s) (hsome : ∀ j x, xs[j]? = some x → x.1 = k → Q (some j) s) :
    wpAny (model P w) A (dictFind d u (oh P w k)) Q E s := by
  by_cases htx : ∃ x t, u = .str x t ∧ (es.all fun e => isExactStrKey e.key) = true
  · -- all are texts
    obtain ⟨x, t, rfl, hall⟩ := htx
    obtain ⟨x', rfl⟩ := ky_str hkey rfl
    have hx : ∀ y ∈ xs, ∃ z, y.1 = .sc (.inr z) := fun y hy => by
      refine ky_str (hk y hy).1 ?_
      have m : entOf P w y ∈ es := Array.mem_toList_iff.mp (by rw [he]; exact List.mem_map.mpr ⟨y, hy, rfl⟩)
      exact Array.all_eq_true'.mp hall _ m
    refine wpAny_dictFind_of (knd := L2.mixKind P w) (k := .inr x') (key := .str x t) hkey ho hd (fun e hin => ?_) ?_
    · have m : e ∈ xs.map (entOf P w) := by rw [← he]; exact Array.mem_toList_iff.mpr hin
      obtain ⟨y, hy, rfl⟩ := List.mem_map.mp m
      obtain ⟨z, ez⟩ := hx y hy
      have ky := (hk y hy).1
      refine ⟨.inr z, ?_, ?_⟩
      · rw [ez] at ky; exact ky
      · show oh P w y.1 = _
        rw [ez]; rfl
    · cases hf : es.findIdx? fun e => (L2.mixKind P w).is (.inr x') e.key with
      | none =>
        refine hnone fun hm => ?_
        obtain ⟨y, hy, e⟩ := List.mem_map.mp hm
        have m : entOf P w y ∈ es := Array.mem_toList_iff.mp (by rw [he]; exact List.mem_map.mpr ⟨y, hy, rfl⟩)
        have z := Array.findIdx?_eq_none_iff.mp hf _ m
        have ky := (hk y hy).1
        rw [e] at ky
        exact absurd (z.symm.trans ky) (by decide)
      | some i =>
        obtain ⟨hlt, hi, _⟩ := Array.findIdx?_eq_some_iff_getElem.mp hf
        have ei := ent_at he i
        rw [Array.getElem?_eq_getElem hlt] at ei
        obtain ⟨y, hy, e⟩ := Option.map_eq_some_iff.mp ei.symm
        refine hsome i y hy ?_
        rw [← e] at hi
        obtain ⟨z, ez⟩ := hx y (List.mem_of_getElem? hy)
        have ky := (hk y (List.mem_of_getElem? hy)).1
        rw [ez] at ky
        have ky : (L2.mixKind P w).is (.inr z) (entOf P w y).key = true := ky
        rw [ez, (L2.mixKind P w).inj _ _ _ hi ky]
  · have hany : ∀ b, u = .ref b → ¬ (es.any fun e => e.key == u && e.hash != oh P w k) = true := by
      rintro b rfl
      rw [← Array.any_toList, List.any_eq_true]
      rintro ⟨e, hin, hc⟩
      rw [he] at hin
      obtain ⟨y, hy, rfl⟩ := List.mem_map.mp hin
      simp only [entOf, Bool.and_eq_true, beq_iff_eq, bne_iff_ne, ne_eq] at hc
      obtain ⟨e1, e2⟩ := hc
      have ky := (hk y hy).1
      rw [e1] at ky
      obtain ⟨ks, q1, q2⟩ := ky_ref ky
      obtain ⟨js, q3, q4⟩ := ky_ref hkey
      exact e2 (by rw [q1, q3, q2.inj q4])
    have hst := stored_ky (s := s) (P := P) (w := w) he (fun x hx => (hk x hx).1) (placesWithHash es.size (fun i => es[i]?.map (·.hash)) (oh P w k))
    unfold dictFind
    try with_reducible refine wpAny_holding ?_
    refine wpAny_bind (wpAny_dictEntries ho hd ?_)
    dsimp only
    split
    · next x t =>
      rw [if_neg (fun z => htx ⟨x, t, rfl, z⟩)]
      by_cases hc : ((Value.str x t :: (placesWithHash es.size (fun i => es[i]?.map (·.hash)) (oh P w k)).filterMap fun i => es[i]?.map (·.key)).all carriedByValue) = true
      · rw [if_pos hc]
        exact walk_plain hu bk hkey ho hd he hk hn hnone hsome
      · rw [if_neg hc]
        split
        · next b e => cases e
        · generalize hst0 : (placesWithHash es.size (fun i => es[i]?.map (·.hash)) (oh P w k)).filterMap (fun i => es[i]?.map (·.key)) = stored at hst ⊢
          split <;> (first | refine wpAny_bind (wpAny_pure ?_) | refine wpAny_bind (tells_no hkey hst ?_)) <;> (
            rw [if_neg (by simp)]
            refine wpAny_bind ?_
            refine wpAny_forIn_list _ (fun rest b s' => s' = s ∧ ∃ hit, b = (none, hit) ∧ Fnd xs k rest hit) _ ?_ ?_ _ _ ⟨rfl, none, rfl, fnd_begin he⟩
            · rintro i rest b s' ⟨rfl, hit, rfl, F⟩
              rw [ent_at he i]
              cases hx : xs[i]? with
              | none => exact wpAny_pure ⟨rfl, hit, rfl, fnd_skip F fun x z => by rw [hx] at z; cases z⟩
              | some x =>
                obtain ⟨kx, bx⟩ := hk x (List.mem_of_getElem? hx)
                show wpAny _ _ (if ((entOf P w x).hash == oh P w k) = true then _ else _) _ _ _
                by_cases hh : ((entOf P w x).hash == oh P w k) = true
                · rw [if_pos hh]
                  refine wpAny_bind (wpAny_dictEpoch ho hd (wpAny_bind (ky_eq hu bx bk kx hkey (wpAny_bind (wpAny_dictEpoch ho hd ?_)))))
                  show wpAny _ _ (if (ep != ep) = true then _ else _) _ E _
                  rw [if_neg (by simp)]
                  by_cases e : x.1 = k
                  · rw [decide_eq_true e]
                    cases hit with
                    | some j =>
                      obtain ⟨q1, y, q2, q3⟩ := F.2.2 j rfl
                      exact absurd (show j ∈ i :: rest by rw [key_uniq hn hx q2 (e.trans q3.symm)]; exact List.mem_cons_self) q1
                    | none =>
                      first | rw [if_pos rfl] | skip
                      simp only [Option.isSome_none, Bool.false_eq_true, if_false]
                      first | refine wpAny_bind (wpAny_pure ?_) | skip
                      refine wpAny_bind (wpAny_rule ?_)
                      split
                      · exact wpAny_pure (wpAny_pure (hsome i x hx e))
                      · exact wpAny_pure ⟨rfl, some i, rfl, fnd_hit hn F hx e⟩
                  · rw [decide_eq_false e]
                    simp only [Bool.false_eq_true, if_false]
                    refine wpAny_bind (wpAny_rule ?_)
                    first | rw [if_neg (by simp)] | skip
                    have F2 := fnd_skip F fun y z => by rw [hx] at z; cases z; exact e
                    first
                      | exact wpAny_pure ⟨rfl, hit, rfl, F2⟩
                      | exact wpAny_bind (wpAny_pure (wpAny_pure ⟨rfl, hit, rfl, F2⟩))
                · rw [if_neg hh]
                  refine wpAny_pure ⟨rfl, hit, rfl, fnd_skip F fun y z e => ?_⟩
                  rw [hx] at z
                  cases z
                  exact hh (by rw [← e]; simp [entOf])
            · rintro b s' ⟨rfl, hit, rfl, F⟩
              cases hit with
              | none =>
                refine wpAny_pure (hnone fun hm => ?_)
                obtain ⟨x, hx, e⟩ := List.mem_map.mp hm
                obtain ⟨j, hj⟩ := List.mem_iff_getElem?.mp hx
                rcases F.2.1 j x hj e with z | z
                · cases z
                · cases z
              | some j =>
                obtain ⟨_, x, hx, e⟩ := F.2.2 j rfl
                exact wpAny_pure (hsome j x hx e))
    · by_cases hc : ((u :: (placesWithHash es.size (fun i => es[i]?.map (·.hash)) (oh P w k)).filterMap fun i => es[i]?.map (·.key)).all carriedByValue) = true
      · rw [if_pos hc]
        exact walk_plain hu bk hkey ho hd he hk hn hnone hsome
      · rw [if_neg hc]
        split
        · rw [if_neg (hany _ rfl)]
          generalize hst0 : (placesWithHash es.size (fun i => es[i]?.map (·.hash)) (oh P w k)).filterMap (fun i => es[i]?.map (·.key)) = stored at hst ⊢
          split <;> (first | refine wpAny_bind (wpAny_pure ?_) | refine wpAny_bind (tells_no hkey hst ?_)) <;> (
            rw [if_neg (by simp)]
            refine wpAny_bind ?_
            refine wpAny_forIn_list _ (fun rest b s' => s' = s ∧ ∃ hit, b = (none, hit) ∧ Fnd xs k rest hit) _ ?_ ?_ _ _ ⟨rfl, none, rfl, fnd_begin he⟩
            · rintro i rest b s' ⟨rfl, hit, rfl, F⟩
              rw [ent_at he i]
              cases hx : xs[i]? with
              | none => exact wpAny_pure ⟨rfl, hit, rfl, fnd_skip F fun x z => by rw [hx] at z; cases z⟩
              | some x =>
                obtain ⟨kx, bx⟩ := hk x (List.mem_of_getElem? hx)
                show wpAny _ _ (if ((entOf P w x).hash == oh P w k) = true then _ else _) _ _ _
                by_cases hh : ((entOf P w x).hash == oh P w k) = true
                · rw [if_pos hh]
                  refine wpAny_bind (wpAny_dictEpoch ho hd (wpAny_bind (ky_eq hu bx bk kx hkey (wpAny_bind (wpAny_dictEpoch ho hd ?_)))))
                  show wpAny _ _ (if (ep != ep) = true then _ else _) _ E _
                  rw [if_neg (by simp)]
                  by_cases e : x.1 = k
                  · rw [decide_eq_true e]
                    cases hit with
                    | some j =>
                      obtain ⟨q1, y, q2, q3⟩ := F.2.2 j rfl
                      exact absurd (show j ∈ i :: rest by rw [key_uniq hn hx q2 (e.trans q3.symm)]; exact List.mem_cons_self) q1
                    | none =>
                      first | rw [if_pos rfl] | skip
                      simp only [Option.isSome_none, Bool.false_eq_true, if_false]
                      first | refine wpAny_bind (wpAny_pure ?_) | skip
                      refine wpAny_bind (wpAny_rule ?_)
                      split
                      · exact wpAny_pure (wpAny_pure (hsome i x hx e))
                      · exact wpAny_pure ⟨rfl, some i, rfl, fnd_hit hn F hx e⟩
                  · rw [decide_eq_false e]
                    simp only [Bool.false_eq_true, if_false]
                    refine wpAny_bind (wpAny_rule ?_)
                    first | rw [if_neg (by simp)] | skip
                    have F2 := fnd_skip F fun y z => by rw [hx] at z; cases z; exact e
                    first
                      | exact wpAny_pure ⟨rfl, hit, rfl, F2⟩
                      | exact wpAny_bind (wpAny_pure (wpAny_pure ⟨rfl, hit, rfl, F2⟩))
                · rw [if_neg hh]
                  refine wpAny_pure ⟨rfl, hit, rfl, fnd_skip F fun y z e => ?_⟩
                  rw [hx] at z
                  cases z
                  exact hh (by rw [← e]; simp [entOf])
            · rintro b s' ⟨rfl, hit, rfl, F⟩
              cases hit with
              | none =>
                refine wpAny_pure (hnone fun hm => ?_)
                obtain ⟨x, hx, e⟩ := List.mem_map.mp hm
                obtain ⟨j, hj⟩ := List.mem_iff_getElem?.mp hx
                rcases F.2.1 j x hj e with z | z
                · cases z
                · cases z
              | some j =>
                obtain ⟨_, x, hx, e⟩ := F.2.2 j rfl
                exact wpAny_pure (hsome j x hx e))
        · generalize hst0 : (placesWithHash es.size (fun i => es[i]?.map (·.hash)) (oh P w k)).filterMap (fun i => es[i]?.map (·.key)) = stored at hst ⊢
          split <;> (first | refine wpAny_bind (wpAny_pure ?_) | refine wpAny_bind (tells_no hkey hst ?_)) <;> (
            rw [if_neg (by simp)]
            refine wpAny_bind ?_
            refine wpAny_forIn_list _ (fun rest b s' => s' = s ∧ ∃ hit, b = (none, hit) ∧ Fnd xs k rest hit) _ ?_ ?_ _ _ ⟨rfl, none, rfl, fnd_begin he⟩
            · rintro i rest b s' ⟨rfl, hit, rfl, F⟩
              rw [ent_at he i]
              cases hx : xs[i]? with
              | none => exact wpAny_pure ⟨rfl, hit, rfl, fnd_skip F fun x z => by rw [hx] at z; cases z⟩
              | some x =>
                obtain ⟨kx, bx⟩ := hk x (List.mem_of_getElem? hx)
                show wpAny _ _ (if ((entOf P w x).hash == oh P w k) = true then _ else _) _ _ _
                by_cases hh : ((entOf P w x).hash == oh P w k) = true
                · rw [if_pos hh]
                  refine wpAny_bind (wpAny_dictEpoch ho hd (wpAny_bind (ky_eq hu bx bk kx hkey (wpAny_bind (wpAny_dictEpoch ho hd ?_)))))
                  show wpAny _ _ (if (ep != ep) = true then _ else _) _ E _
                  rw [if_neg (by simp)]
                  by_cases e : x.1 = k
                  · rw [decide_eq_true e]
                    cases hit with
                    | some j =>
                      obtain ⟨q1, y, q2, q3⟩ := F.2.2 j rfl
                      exact absurd (show j ∈ i :: rest by rw [key_uniq hn hx q2 (e.trans q3.symm)]; exact List.mem_cons_self) q1
                    | none =>
                      first | rw [if_pos rfl] | skip
                      simp only [Option.isSome_none, Bool.false_eq_true, if_false]
                      first | refine wpAny_bind (wpAny_pure ?_) | skip
                      refine wpAny_bind (wpAny_rule ?_)
                      split
                      · exact wpAny_pure (wpAny_pure (hsome i x hx e))
                      · exact wpAny_pure ⟨rfl, some i, rfl, fnd_hit hn F hx e⟩
                  · rw [decide_eq_false e]
                    simp only [Bool.false_eq_true, if_false]
                    refine wpAny_bind (wpAny_rule ?_)
                    first | rw [if_neg (by simp)] | skip
                    have F2 := fnd_skip F fun y z => by rw [hx] at z; cases z; exact e
                    first
                      | exact wpAny_pure ⟨rfl, hit, rfl, F2⟩
                      | exact wpAny_bind (wpAny_pure (wpAny_pure ⟨rfl, hit, rfl, F2⟩))
                · rw [if_neg hh]
                  refine wpAny_pure ⟨rfl, hit, rfl, fnd_skip F fun y z e => ?_⟩
                  rw [hx] at z
                  cases z
                  exact hh (by rw [← e]; simp [entOf])
            · rintro b s' ⟨rfl, hit, rfl, F⟩
              cases hit with
              | none =>
                refine wpAny_pure (hnone fun hm => ?_)
                obtain ⟨x, hx, e⟩ := List.mem_map.mp hm
                obtain ⟨j, hj⟩ := List.mem_iff_getElem?.mp hx
                rcases F.2.1 j x hj e with z | z
                · cases z
                · cases z
              | some j =>
                obtain ⟨_, x, hx, e⟩ := F.2.2 j rfl
                exact wpAny_pure (hsome j x hx e))
end
end Gdo

set_option Elab.async false
set_option linter.all false
set_option maxRecDepth 100000
set_option maxHeartbeats 4000000
/-! such a dict: a key is set, asked; dict(rows) -/
namespace Gdo
open PySem PySem.Spec PyProof.Rows
def OdD (P : Program) (w : World) (h : Heap) (d : Addr) (xs : List Ent) : Prop :=
  ∃ o es ep, h.get? d = some o ∧ o.ExactDict ∧ o.data = .dict es ep ∧ es.toList = xs.map (entOf P w) ∧ (∀ x ∈ xs, Ky P w h x.1 x.2.1 ∧ Big x.1) ∧ (xs.map (·.1)).Nodup
def stor (xs : List Ent) (k : OK) (u v : Value) : List Ent := if k ∈ xs.map (·.1) then xs.map (fun x => if x.1 = k then (x.1, x.2.1, v) else x) else xs ++ [(k, u, v)]
theorem stor_len (xs : List Ent) (k : OK) (u v : Value) : (stor xs k u v).length ≤ xs.length + 1 := by
  unfold stor
  split
  · rw [List.length_map]; omega
  · rw [List.length_append]; exact Nat.le_refl _
theorem stor_keys (xs : List Ent) (k : OK) (u v : Value) (hn : (xs.map (·.1)).Nodup) : ((stor xs k u v).map (·.1)).Nodup := by
  unfold stor
  split
  · rw [List.map_map]
    have : ((fun x : Ent => x.1) ∘ fun x : Ent => if x.1 = k then (x.1, x.2.1, v) else x) = fun x : Ent => x.1 := by
      funext x
      show (if x.1 = k then (x.1, x.2.1, v) else x).1 = x.1
      split <;> rfl
    rw [this]; exact hn
  · next h =>
    rw [List.map_append]
    refine List.nodup_append.mpr ⟨hn, by simp, fun a ha b hb => ?_⟩
    rw [List.map_cons, List.map_nil, List.mem_singleton] at hb
    subst hb
    exact fun e => h (e ▸ ha)
section
variable {P : Program} {w : World} {A : Around} {E : Value → Shared → Prop} {s : Shared} {d : Addr} {xs : List Ent} {k : OK} {u v : Value}
theorem Ky.keeps {h h' : Heap} {k : OK} {u : Value} {o : Obj} {es ep} (z : Ky P w h k u) (ho : h.get? d = some o) (hd : o.data = .dict es ep) (hs : Heap.SameBut d h h') : Ky P w h' k u := by
  cases k with
  | tp ks =>
    obtain ⟨a, e, hi⟩ := z
    exact ⟨a, e, hi.keeps ho hd hs⟩
  | _ => exact z
theorem Ky.kept {h h' : Heap} {k : OK} {u : Value} (z : Ky P w h k u) (hs : ∀ b o, h.get? b = some o → h'.get? b = some o) : Ky P w h' k u := by
  cases k with
  | tp ks =>
    obtain ⟨a, e, o, items, n, ho, r⟩ := z
    exact ⟨a, e, o, items, n, hs _ _ ho, r⟩
  | _ => exact z
theorem OdD.kept {h h' : Heap} (z : OdD P w h d xs) (hs : ∀ b o, h.get? b = some o → h'.get? b = some o) : OdD P w h' d xs := by
  obtain ⟨o, es, ep, ho, hx, hd, he, hk, hn⟩ := z
  exact ⟨o, es, ep, hs _ _ ho, hx, hd, he, fun x hx => ⟨(hk x hx).1.kept hs, (hk x hx).2⟩, hn⟩
theorem set_at {Q : Unit → Shared → Prop} (hu : A.units + 1 < cLine) (bk : Big k) (hkey : Ky P w s.heap k u) (hm : OdD P w s.heap d xs) (hz : xs.length < sizeLine)
    (hQ : ∀ h' tk, OdD P w h' d (stor xs k u v) → Heap.SameBut d s.heap h' → Q () { s with heap := h', toks := tk }) : wpAny (model P w) A (dictSet d u v) Q E s := by
  obtain ⟨o, es, ep, ho, hc, hd, he, hk, hn⟩ := hm
  unfold dictSet
  try with_reducible refine wpAny_holding ?_
  refine wpAny_bind (ky_hash (by omega) hkey ?_)
  unfold dictSetHashed
  try with_reducible refine wpAny_holding ?_
  refine wpAny_bind (find_at (s := { s with toks := s.toks + dr k }) hu bk hkey ho hd he hk hn (fun hno => ?_) (fun j x hj hx => ?_))
  · refine wpAny_bind (wpAny_rule (wpAny_updateDictKeys (hz := by have e := ent_size he; omega) (s := { s with toks := s.toks + dr k }) ho hd (hQ _ _ ⟨_, _, ep + 1, Heap.get?_update_self _ ho (Obj.isFreed_of_dict (Obj.data_mapDictKeys hd _)),
      hc.mapDictKeys _, Obj.data_mapDictKeys hd _, ?_, ?_, stor_keys _ _ _ _ hn⟩ (Heap.SameBut.update ..))))
    · unfold stor
      rw [if_neg hno]
      simp [he, entOf]
    · unfold stor
      rw [if_neg hno]
      intro x hx
      rcases List.mem_append.mp hx with hx | hx
      · exact ⟨(hk x hx).1.keeps ho hd (Heap.SameBut.update ..), (hk x hx).2⟩
      · simp only [List.mem_singleton] at hx
        subst hx
        exact ⟨hkey.keeps ho hd (Heap.SameBut.update ..), bk⟩
  · have hin : k ∈ xs.map (·.1) := List.mem_map.mpr ⟨x, List.mem_of_getElem? hj, hx⟩
    refine wpAny_bind (wpAny_rule (wpAny_bind (wpAny_updateDict (s := { s with toks := s.toks + dr k }) ho hd (wpAny_point (hQ _ _ ⟨_, _, ep, Heap.get?_update_self _ ho (Obj.isFreed_of_dict (Obj.data_mapDict hd _)),
      hc.mapDict _, Obj.data_mapDict hd _, ?_, ?_, stor_keys _ _ _ _ hn⟩ (Heap.SameBut.update ..))))))
    · unfold stor
      rw [if_pos hin]
      apply List.ext_getElem?
      intro i
      rw [Array.getElem?_toList, Array.getElem?_modify, ent_at he i, List.getElem?_map, List.getElem?_map]
      cases hi : xs[i]? with
      | none => simp
      | some y =>
        by_cases e : j = i
        · subst e
          rw [hj] at hi
          cases hi
          rw [if_pos rfl]
          simp [entOf, hx]
        · rw [if_neg e]
          have : y.1 ≠ k := fun z => e (key_uniq hn hj hi (hx.trans z.symm))
          simp [this]
    · unfold stor
      rw [if_pos hin]
      intro x hx
      obtain ⟨y, hy, rfl⟩ := List.mem_map.mp hx
      have z := hk y hy
      split
      · exact ⟨z.1.keeps ho hd (Heap.SameBut.update ..), z.2⟩
      · exact ⟨z.1.keeps ho hd (Heap.SameBut.update ..), z.2⟩
end
end Gdo

set_option Elab.async false
set_option linter.all false
set_option maxRecDepth 100000
set_option maxHeartbeats 4000000
/-! dict(rows), the keys of any of these kinds -/
namespace Gdo
open PySem PySem.Spec PyProof.Rows L2
section
variable {P : Program} {w : World} {A : Around} {E : Value → Shared → Prop}
def storAll : List Ent → List Ent → List Ent
  | xs, [] => xs
  | xs, q :: r => storAll (stor xs q.1 q.2.1 q.2.2) r
theorem OdD.but {h h' : Heap} {d c : Addr} {xs : List Ent} (z : OdD P w h d xs) (hs : ∀ b o, b ≠ c → h.get? b = some o → h'.get? b = some o) (hd : d ≠ c) (hk : ∀ o, h.get? c = some o → o.cls ≠ .type "tuple") : OdD P w h' d xs := by
  obtain ⟨o, es, ep, ho, hx, hdt, he, kk, hn⟩ := z
  refine ⟨o, es, ep, hs _ _ hd ho, hx, hdt, he, fun x hx => ⟨?_, (kk x hx).2⟩, hn⟩
  have q := (kk x hx).1
  generalize x.1 = k at q ⊢
  cases k with
  | tp ks =>
    obtain ⟨a, e, oa, items, n, h1, h2, r⟩ := q
    exact ⟨a, e, oa, items, n, hs _ _ (fun z => hk oa (z ▸ h1) h2) h1, h2, r⟩
  | _ => exact q
/-- the pairs that are still to come, where they lie -/
def Prs (P : Program) (w : World) (h : Heap) (items : Array Value) (S I : Addr) (i : Nat) (rest : List Ent) : Prop :=
  ∀ (j : Nat) (q : Ent), rest[j]? = some q → ∃ b : Addr, items[i + j]? = some (.ref b) ∧ b ≠ S ∧ b ≠ I ∧ IsTup h b #[q.2.1, q.2.2] ∧ Ky P w h q.1 q.2.1 ∧ Big q.1
theorem ky_but {h h' : Heap} {c : Addr} {k : OK} {u : Value} (z : Ky P w h k u) (hs : ∀ b o, b ≠ c → h.get? b = some o → h'.get? b = some o) (hk : ∀ o, h.get? c = some o → o.cls ≠ .type "tuple") : Ky P w h' k u := by
  cases k with
  | tp ks =>
    obtain ⟨a, e, oa, items, n, h1, h2, r⟩ := z
    exact ⟨a, e, oa, items, n, hs _ _ (fun z => hk oa (z ▸ h1) h2) h1, h2, r⟩
  | _ => exact z
theorem fill {R : Result → Shared → Prop} {S I l : Addr} {items : Array Value} {res : Value} (hu : A.in1.units + 1 < cLine) (hh : A.handled = none) (n1 : l ≠ I) (n2 : S ≠ I) (n3 : S ≠ l) :
    ∀ (rest : List Ent) (i : Nat) (xs : List Ent) (ix : Int) (t : Tok) (s : Shared), items.size = i + rest.length → xs.length + rest.length ≤ 1000 → Prs P w s.heap items S I i rest →
      s.heap.IsListIter I l i → s.heap.IsList l items → OdD P w s.heap S xs →
      (∀ h' tk, OdD P w h' S (storAll xs rest) → (∀ b o, b ≠ S → b ≠ I → s.heap.get? b = some o → h'.get? b = some o) → R (.ok (.ret res)) { s with heap := h', toks := tk }) →
      codeAny (model P w) A (.builtin "dict.update.loop" ⟨[.ref S, .ref I, .int ix t, res], []⟩) R s := by
  intro rest
  induction rest with
  | nil =>
    intro i xs ix t s hz hl hp hit hL hm hR
    refine codeAny_builtin ud_entry (by
      rw [Around.under_plainId ud_plain _]
      show wpAny _ A.in1 (pyNext (.ref I) >>= _) _ _ s
      refine wpAny_bind (wpAny_pyNext_list_end (A := A.in1) hh hit hL (Array.getElem?_eq_none (Nat.le_of_eq hz)) fun h' he => ?_)
      show wpAny _ A.in1 (Builtin.Dict.addKeywords S [] >>= _) _ _ _
      refine wpAny_bind (wpAny_pure (wpAny_pure (hR h' s.toks (hm.but (c := I) (fun b o nb e => he b o nb e) n2 fun o ho => ?_) fun b o _ nb e => he b o nb e)))
      obtain ⟨oi, hoi, hci, _⟩ := hit
      rw [hoi] at ho
      cases ho
      intro hc
      rw [hci] at hc
      injection hc with hc
      exact absurd hc (by decide))
  | cons q r ih =>
    intro i xs ix t s hz hl hp hit hL hm hR
    rw [List.length_cons] at hz hl
    obtain ⟨b, hb, hbS, hbI, htup, hk, bk⟩ := hp 0 q rfl
    refine codeAny_builtin ud_entry (by
      rw [Around.under_plainId ud_plain _]
      show wpAny _ A.in1 (pyNext (.ref I) >>= _) _ _ s
      have ntI : ∀ o, s.heap.get? I = some o → o.cls ≠ .type "tuple" := fun o ho => by
        obtain ⟨oi, hoi, hci, _⟩ := hit
        rw [hoi] at ho
        cases ho
        intro hc
        rw [hci] at hc
        injection hc with hc
        exact absurd hc (by decide)
      have ntS : ∀ (h : Heap), OdD P w h S xs → ∀ o, h.get? S = some o → o.cls ≠ .type "tuple" := fun h z o ho => by
        obtain ⟨o2, es, ep, h1, hx, _⟩ := z
        rw [h1] at ho
        cases ho
        intro hc
        rw [hx.1] at hc
        injection hc with hc
        exact absurd hc (by decide)
      refine wpAny_bind (wpAny_pyNext_list_item (x := .ref b) hit hL (by simpa using hb) fun h1 hit1 hs1 => ?_)
      have k1 : ∀ c o, c ≠ I → s.heap.get? c = some o → h1.get? c = some o := fun c o nc e => hs1.extBut c o nc e
      have hm1 : OdD P w h1 S xs := hm.but k1 n2 ntI
      have htup1 : IsTup h1 b #[q.2.1, q.2.2] := htup.extBut hs1.extBut hbI
      have hL1 : h1.IsList l items := hL.extBut hs1.extBut n1
      have hkb : Ky P w h1 q.1 q.2.1 := ky_but hk k1 ntI
      obtain ⟨ot, hot, hct, nt, hdt⟩ := id htup1
      show wpAny _ A.in1 (holding [Value.ref b] _ >>= _) _ _ _
      refine wpAny_bind (wpAny_holding (wpAny_bind (wpAny_tryCatch ?_)))
      unfold Builtin.Dict.pairItems
      refine wpAny_bind (wpAny_typeOf (T := "tuple") ⟨ot, hot, hct⟩ (by
        rw [if_pos (by decide)]
        refine wpAny_bind (wpAny_seqItems hot hdt (wpAny_pure ?_))
        show wpAny _ A.in1 (holding [q.2.1, q.2.2] (dictSet S q.2.1 q.2.2)) _ _ _
        refine wpAny_holding (set_at (s := { s with heap := h1 }) hu bk hkb hm1 (by rw [sizeLine_eq]; omega) fun h2 tk hm2 hs2 => ?_)
        have k2 : ∀ c o, c ≠ S → h1.get? c = some o → h2.get? c = some o := fun c o nc e => hs2.extBut c o nc e
        refine wpAny_pure ⟨plainId_quiet ud_plain _, ih (i + 1) (stor xs q.1 q.2.1 q.2.2) (ix + 1) 0 _ (by omega) (by have := stor_len xs q.1 q.2.1 q.2.2; omega) (fun j q' e => ?_) (hit1.at fun o' e => k2 I o' (Ne.symm n2) e) (hL1.extBut hs2.extBut (Ne.symm n3)) hm2 fun h' tk' hd' kk => ?_⟩
        · obtain ⟨b', z1, z2, z3, z4, z5, z6⟩ := hp (j + 1) q' (by simpa using e)
          exact ⟨b', by rw [show i + 1 + j = i + (j + 1) by omega]; exact z1, z2, z3, (z4.extBut hs1.extBut z3).extBut hs2.extBut z2, ky_but (ky_but z5 k1 ntI) k2 (ntS h1 hm1), z6⟩
        · exact hR h' tk' hd' fun c oc h3 h4 e => kk c oc h3 h4 (k2 c oc h3 (k1 c oc h4 e))))
      )
end
end Gdo

set_option Elab.async false
set_option linter.all false
set_option maxRecDepth 100000
set_option maxHeartbeats 4000000
/-! dict(rows) and isinstance, as rules -/
namespace Gdo
open PySem PySem.Spec PyProof.Rows L2
/-- a dict by its entries -/
def RawO (a : Addr) (es : Array DictEntry) (ep : Nat) : HO := .ext fun h => ∃ o, h.get? a = some o ∧ o.ExactDict ∧ o.data = .dict es ep
theorem rawO_ok {P : Program} {w : World} {H : Hp} {h : Heap} {a : Addr} {es : Array DictEntry} {ep : Nat} (z : ∃ o, h.get? a = some o ∧ o.ExactDict ∧ o.data = .dict es ep) : ObjOk P w H h a (RawO a es ep) :=
  ⟨z, let ⟨o, e, _⟩ := z; ⟨o, e⟩, fun h1 h2 ⟨o, e, r⟩ k => ⟨o, k o e, r⟩⟩
/-- what a key is, as a value of the hand layer -/
def KyV (H : Hp) : OK → V → Prop
  | .non, v => v = .non
  | .bo b, v => v = .bl b
  | .sc k, v => v = kV k
  | .tp ks, v => ∃ a, v = .ref a ∧ H a = some (.tup (ks.map kV))
section
variable {X : Cx} {pins : List (Addr × Obj)} {σ : L2.St} {H : Hp} {s : Shared}
theorem items_keys {P : Program} {w : World} : ∀ {ks : List Key} {us : List Value}, Vals (ks.map kV) us → ItemsAre (mixKind P w) ks us
  | [], _, .nil => .nil
  | k :: ks, _, .cons r t => .cons (kV_is (P := P) (w := w) r) (items_keys t)
theorem KyV.ky (I : Inv X pins σ H s) {k : OK} {v : V} {u : Value} (z : KyV H k v) (r : RelV v u) : Ky X.prog X.w s.heap k u := by
  cases k with
  | non => cases (show v = .non from z); exact r
  | bo b => cases (show v = .bl b from z); exact r
  | sc k => cases (show v = kV k from z); exact kV_is (P := X.prog) (w := X.w) r
  | tp ks =>
    obtain ⟨a, rfl, e⟩ := z
    cases (show u = Value.ref a from r)
    obtain ⟨_, its, rv, o, h1, h2, n, h3⟩ := (show ObjOk X.prog X.w H s.heap a (.tup (ks.map kV)) from I.hok a _ e)
    exact ⟨a, rfl, o, _, n, h1, h2, h3, items_keys rv⟩
theorem ents_of (I : Inv X pins σ H s) : ∀ {ps : List Addr} {es : List (OK × V × V)}, Paired (fun p e => H p = some (.tup [e.2.1, e.2.2]) ∧ KyV H e.1 e.2.1 ∧ Big e.1) ps es →
    ∃ qs : List Ent, qs.length = ps.length ∧ ∀ (j : Nat) (q : Ent), qs[j]? = some q → ∃ b : Addr, ps[j]? = some b ∧ IsTup s.heap b #[q.2.1, q.2.2] ∧ Ky X.prog X.w s.heap q.1 q.2.1 ∧ Big q.1
  | _, _, .nil => ⟨[], rfl, fun j q e => by simp at e⟩
  | _, _, .cons (a := p) (b := e) h t => by
    obtain ⟨qs, hl, hq⟩ := ents_of I t
    obtain ⟨h1, h2, h3⟩ := h
    obtain ⟨_, its, rv, ht⟩ := (show ObjOk X.prog X.w H s.heap p (.tup [e.2.1, e.2.2]) from I.hok p _ h1)
    obtain ⟨u, y, rfl, ru, ry⟩ := vals2 rv
    refine ⟨(e.1, u, y) :: qs, by rw [List.length_cons, List.length_cons, hl], fun j q hj => ?_⟩
    cases j with
    | zero =>
      cases (Option.some.inj hj : (e.1, u, y) = q)
      exact ⟨p, rfl, ht, h2.ky I ru, h3⟩
    | succ j =>
      obtain ⟨b, z⟩ := hq j q (by simpa using hj)
      exact ⟨b, by simpa using z.1, z.2⟩
end
section
variable {X : Cx}
def rDictO : List V → Hp → VK → Prop := fun xs H Q => ∃ (l : Addr) (ps : List Addr) (es : List (OK × V × V)), xs = [.ref l] ∧ H l = some (.lst (ps.map V.ref)) ∧ Paired (fun p e => H p = some (.tup [e.2.1, e.2.2]) ∧ KyV H e.1 e.2.1 ∧ Big e.1) ps es ∧ ps.length ≤ 500 ∧
  ∀ p ents ep, H p = none → Q (.ref p) (upd H p (RawO p ents ep))
theorem cr_dictO (hc : X.calm = true) (hu : X.A.units + 8 < cLine) : CallR X (.type "dict") rDictO := by
  intro pins s σ H xs us Q I r h
  obtain ⟨l, ps, es, rfl, hl, hp, h5, q⟩ := h
  obtain ⟨u, rfl, rx⟩ := vals1 r
  cases (show u = Value.ref l from rx)
  obtain ⟨hz, its, n, rv, ho⟩ := (show ObjOk X.prog X.w H s.heap l (.lst (ps.map V.ref)) from I.hok l _ hl)
  have ei := refs_at rv
  subst ei
  obtain ⟨qs, ql, hq⟩ := ents_of I hp
  have hh := I.ok.hd hc
  refine callType_codes (Q₁ := fun obj t => obj = .ref s.heap.objs.size ∧ t = { s with heap := s.heap.push { cls := .type "dict", data := .dict #[] } }) PySem.F.kt_called_dict (PySem.F.kt_typeCall_dict_1 _) PySem.F.entry_dict_init (kt_code_dict_new _ ⟨rfl, rfl⟩) fun obj t ⟨e1, e2⟩ => ?_
  subst e1 e2
  have new : OdD X.prog X.w (s.heap.push { cls := .type "dict", data := .dict #[] }) s.heap.objs.size [] := ⟨_, #[], 0, Heap.get?_push_size _ rfl, ⟨rfl, rfl, rfl⟩, rfl, rfl, (fun x hx => by cases hx), .nil⟩
  have k0 : ∀ b o, s.heap.get? b = some o → (s.heap.push { cls := .type "dict", data := .dict #[] }).get? b = some o := fun b o e => Heap.get?_push_of_some _ e
  have hT : Shared.TypeIs { s with heap := s.heap.push { cls := .type "dict", data := .dict #[] } } (.ref s.heap.objs.size) "dict" := ⟨_, Heap.get?_push_size _ rfl, rfl⟩
  refine ⟨hT, PySem.F.args_dict_init_2 _ _, ?_⟩
  unfold Builtin.«dict.__init__»
  refine wpAny_bind (m := Builtin.Dict.selfAndRest _ _) ?_
  unfold Builtin.Dict.selfAndRest
  refine wpAny_bind (wpAny_notOrdered_dict hT ?_)
  show wpAny _ _ (pure (s.heap.objs.size, [Value.ref l])) _ _ _
  refine wpAny_pure ?_
  show wpAny _ _ (Builtin.Dict.updateFrom "dict.__init__" s.heap.objs.size (.ref l) [] .none) _ _ _
  unfold Builtin.Dict.updateFrom
  refine wpAny_bind (wpAny_typeOf (T := "list") ⟨_, k0 _ _ ho, rfl⟩ (by
    rw [if_pos (by decide)]
    refine wpAny_bind (miss_list (k0 _ _ ho) rfl rfl rfl hh fun h1 tk1 hk1 => ?_)
    rw [if_pos (show (none : Option Value).isNone = true from rfl)]
    have hl1 : h1.IsList l (ps.map Value.ref).toArray := ⟨_, hk1 _ _ (k0 _ _ ho), rfl, n, rfl⟩
    have hS1 : s.heap.objs.size < h1.objs.size := Heap.lt_size (hk1 _ _ (Heap.get?_push_size s.heap rfl))
    refine wpAny_bind (wpAny_rule (wpAny_bind (wpAny_pyIter_list hl1 ?_)))
    have k2 : ∀ b o, h1.get? b = some o → (h1.push { cls := .type "list_iterator", data := .fields #[.ref l, .int 0 0] }).get? b = some o := fun b o e => Heap.get?_push_of_some _ e
    have hlt : l < s.heap.objs.size := Heap.lt_size ho
    have kall : ∀ b o, s.heap.get? b = some o → (h1.push { cls := .type "list_iterator", data := .fields #[.ref l, .int 0 0] }).get? b = some o := fun b o e => k2 _ _ (hk1 _ _ (k0 _ _ e))
    have run := fill (P := X.prog) (w := X.w) (A := X.A.in1) (R := wants (fun r t => r = .none ∧ EP X pins σ Q (.ref s.heap.objs.size) t) X.xe) (S := s.heap.objs.size) (I := h1.objs.size) (l := l) (items := (ps.map Value.ref).toArray) (res := Value.none)
      (by show X.A.units + 1 + 1 + 1 < cLine; omega) hh (Nat.ne_of_lt (Nat.lt_trans hlt hS1)) (Nat.ne_of_lt hS1) (Nat.ne_of_gt hlt) qs 0 [] 0 0 { s with heap := h1.push { cls := .type "list_iterator", data := .fields #[.ref l, .int 0 0] }, toks := tk1 }
      (by simp [ql]) (by rw [List.length_nil]; omega) (fun j q' e => by
        obtain ⟨b, z1, z2, z3, z4⟩ := hq j q' e
        have hb : b < s.heap.objs.size := z2.lt
        exact ⟨b, by simp [z1], Nat.ne_of_lt hb, Nat.ne_of_lt (Nat.lt_trans hb hS1), z2.keeps kall, z3.kept kall, z4⟩)
      ⟨_, Heap.get?_push_size _ rfl, rfl, rfl⟩ (hl1.at fun o e => k2 _ _ e) (new.kept fun b o e => k2 _ _ (hk1 _ _ e))
      (fun h' tk hd' kk => ⟨rfl, by
        obtain ⟨o, ents, ep, h2, h3, h4, _⟩ := hd'
        have k3 : ∀ b o, s.heap.get? b = some o → h'.get? b = some o := fun b o e => kk b o (Nat.ne_of_lt (Heap.lt_size e)) (Nat.ne_of_lt (Nat.lt_trans (Heap.lt_size e) hS1)) (kall b o e)
        exact ⟨.ref s.heap.objs.size, upd H s.heap.objs.size (RawO s.heap.objs.size ents ep), I.laid (t' := tk) k3 (Nat.le_refl _) (rawO_ok ⟨o, h2, h3, h4⟩), rfl, q _ _ _ (I.hok.fresh (Nat.le_refl _))⟩⟩)
    · first
        | exact wpAny_pure ⟨plainId_quiet ud_plain _, run⟩
        | exact wpAny_bind (wpAny_pure (wpAny_pure ⟨plainId_quiet ud_plain _, run⟩))))
/-! ### isinstance, of such a dict too -/
inductive TyD (K : PySem.W.Frag) (H : Hp) : V → Value → Prop
  | x {v : V} {t : Value} (h : TyX K H v t) : TyD K H v t
  | raw {a : Addr} {es : Array DictEntry} {ep : Nat} (h : H a = some (RawO a es ep)) : TyD K H (.ref a) (.type "dict")
theorem tyD_kit {pins : List (Addr × Obj)} {σ : L2.St} {H : Hp} {s : Shared} {v : V} {u t : Value} (I : Inv X pins σ H s) (r : RelV v u) (z : TyD X.K H v t) : ∃ P : Heap → Prop, PySem.W.KitX X.K u t P ∧ P s.heap ∧ u ≠ .builtin "__main__.__loader__#opaque" := by
  cases z with
  | x h => exact kit_of I r h
  | @raw a es ep h =>
    cases (show u = Value.ref a from r)
    obtain ⟨⟨o, h1, h2, _⟩, _⟩ := I.hok a _ h
    exact ⟨_, PySem.W.kitx_dict, ⟨o, h1, h2.1⟩, fun z => nomatch z⟩
def rIsD (K : PySem.W.Frag) : List V → Hp → VK → Prop := fun xs H Q => ∃ (v c : V) (t u : Value) (b : Bool), xs = [v, c] ∧ ClsV c u ∧ TyD K H v t ∧ PySem.W.kitOne K t u = some b ∧ Q (.bl b) H
theorem call_isD : CallR X (.builtin "isinstance") (rIsD X.K) := by
  intro pins s σ H xs us Q I r h
  obtain ⟨v, c, t, u, b, rfl, k, ty, e, q⟩ := h
  obtain ⟨u1, u2, rfl, r1, r2⟩ := vals2 r
  obtain rfl := k.eq r2
  obtain ⟨P, Z, p, hx⟩ := tyD_kit I r1 ty
  exact PySem.W.kia_one Z I.kIn p e hx fun tk => ⟨.bl b, H, I.tok tk, rfl, q⟩
def rIsDT (K : PySem.W.Frag) : List V → Hp → VK → Prop := fun xs H Q => ∃ (v : V) (tp : Addr) (cs : List V) (t : Value) (us : List Value) (b : Bool), xs = [v, .ref tp] ∧ H tp = some (.tup cs) ∧ Paired ClsV cs us ∧ TyD K H v t ∧ PySem.W.kitAny K t us = some b ∧ Q (.bl b) H
theorem call_isDT : CallR X (.builtin "isinstance") (rIsDT X.K) := by
  intro pins s σ H xs us Q I r h
  obtain ⟨v, tp, cs, t, ws, b, rfl, hT, k, ty, e, q⟩ := h
  obtain ⟨u1, u2, rfl, r1, r2⟩ := vals2 r
  cases (show u2 = Value.ref tp from r2)
  obtain ⟨P, Z, p, hx⟩ := tyD_kit I r1 ty
  obtain ⟨_, its, rv, ⟨oc, od, dt, sl⟩, h1, h2, n, h3⟩ := (show ObjOk X.prog X.w H s.heap tp (.tup cs) from I.hok tp _ hT)
  obtain rfl := ClsV.all k rv
  simp only at h2 h3
  subst h2 h3
  exact PySem.W.kia_tup Z I.kIn p h1 e hx fun tk => ⟨.bl b, H, I.tok tk, rfl, q⟩
end
end Gdo

set_option Elab.async false
set_option linter.all false
set_option maxRecDepth 100000
set_option maxHeartbeats 4000000
/-! a dict with odd keys, tracked by its entries as values: stored to, walked, asked -/
namespace Gdo
open PySem PySem.Spec PyProof.Rows L2
/-- an entry: which key, the key's value, the value -/
abbrev EnV := OK × V × V
def EnR (x : EnV) (q : Ent) : Prop := x.1 = q.1 ∧ RelV x.2.1 q.2.1 ∧ RelV x.2.2 q.2.2
def RawP (P : Program) (w : World) (a : Addr) (xs : List EnV) (h : Heap) : Prop :=
  (a == sysModules) = false ∧ xs.length ≤ sizeLine ∧ (xs.map (·.1)).Nodup ∧ ∃ (o : Obj) (es : Array DictEntry) (ep : Nat) (qs : List Ent), h.get? a = some o ∧ o.ExactDict ∧ o.data = .dict es ep ∧ es.toList = qs.map (entOf P w) ∧ Paired EnR xs qs
def RawV (P : Program) (w : World) (a : Addr) (xs : List EnV) : HO := .ext (RawP P w a xs)
/-- its keys, where they stand -/
def EnK (H : Hp) (xs : List EnV) : Prop := ∀ x ∈ xs, KyV H x.1 x.2.1 ∧ Big x.1
def storV (xs : List EnV) (k : OK) (y v : V) : List EnV := if k ∈ xs.map (·.1) then xs.map (fun x => if x.1 = k then (x.1, x.2.1, v) else x) else xs ++ [(k, y, v)]
def scE (p : Key × V) : EnV := (.sc p.1, kV p.1, p.2)
theorem KyV.ext {H H' : Hp} {k : OK} {v : V} (z : KyV H k v) (e : ∀ a xs, H a = some (.tup xs) → H' a = some (.tup xs)) : KyV H' k v := by
  cases k with
  | tp ks =>
    obtain ⟨a, rfl, h⟩ := z
    exact ⟨a, rfl, e _ _ h⟩
  | _ => exact z
theorem enr_keys {xs : List EnV} {qs : List Ent} (h : Paired EnR xs qs) : qs.map (·.1) = xs.map (·.1) := by
  induction h with
  | nil => rfl
  | cons r _ ih => rw [List.map_cons, List.map_cons, ih, r.1]
theorem enr_get {xs : List EnV} {qs : List Ent} (h : Paired EnR xs qs) : ∀ {i : Nat} {x : EnV}, xs[i]? = some x → ∃ q, qs[i]? = some q ∧ EnR x q := by
  induction h with
  | nil => intro i x e; cases e
  | cons r _ ih =>
    intro i x e
    cases i with
    | zero => cases e; exact ⟨_, rfl, r⟩
    | succ i => exact ih e
theorem enr_mem {xs : List EnV} {qs : List Ent} (h : Paired EnR xs qs) : ∀ {q : Ent}, q ∈ qs → ∃ x ∈ xs, EnR x q := by
  induction h with
  | nil => intro q e; cases e
  | cons r _ ih =>
    intro q e
    rcases List.mem_cons.mp e with rfl | e
    · exact ⟨_, List.mem_cons_self .., r⟩
    · obtain ⟨x, h1, h2⟩ := ih e
      exact ⟨x, List.mem_cons_of_mem _ h1, h2⟩
theorem enr_stor {xs : List EnV} {qs : List Ent} {k : OK} {y v : V} {u r : Value} (h : Paired EnR xs qs) (ry : RelV y u) (rv : RelV v r) : Paired EnR (storV xs k y v) (stor qs k u r) := by
  unfold storV stor
  rw [enr_keys h]
  by_cases hk : k ∈ xs.map (·.1)
  · rw [if_pos hk, if_pos hk]
    clear hk
    induction h with
    | nil => exact .nil
    | @cons x q _ _ e _ ih =>
      refine .cons ?_ ih
      obtain ⟨e1, e2, e3⟩ := e
      show EnR (if x.1 = k then (x.1, x.2.1, v) else x) (if q.1 = k then (q.1, q.2.1, r) else q)
      rw [← e1]
      by_cases c : x.1 = k
      · rw [if_pos c, if_pos c]
        exact ⟨rfl, e2, rv⟩
      · rw [if_neg c, if_neg c]
        exact ⟨e1, e2, e3⟩
  · rw [if_neg hk, if_neg hk]
    clear hk
    induction h with
    | nil => exact .cons ⟨rfl, ry, rv⟩ .nil
    | cons e _ ih => exact .cons e ih
theorem storV_len (xs : List EnV) (k : OK) (y v : V) : (storV xs k y v).length ≤ xs.length + 1 := by
  unfold storV
  split
  · rw [List.length_map]; omega
  · rw [List.length_append]; exact Nat.le_refl _
theorem storV_keys {xs : List EnV} {k : OK} {y v : V} (hn : (xs.map (·.1)).Nodup) : ((storV xs k y v).map (·.1)).Nodup := by
  unfold storV
  split
  · rw [List.map_map]
    have : ((fun x : EnV => x.1) ∘ fun x : EnV => if x.1 = k then (x.1, x.2.1, v) else x) = fun x : EnV => x.1 := by
      funext x
      show (if x.1 = k then (x.1, x.2.1, v) else x).1 = x.1
      split <;> rfl
    rw [this]; exact hn
  · next h =>
    rw [List.map_append]
    refine List.nodup_append.mpr ⟨hn, by simp, fun a ha b hb => ?_⟩
    rw [List.map_cons, List.map_nil, List.mem_singleton] at hb
    subst hb
    exact fun e => h (e ▸ ha)
theorem storV_mem {xs : List EnV} {k : OK} {y v : V} {x : EnV} (h : x ∈ storV xs k y v) : (∃ x' ∈ xs, x'.1 = x.1 ∧ x'.2.1 = x.2.1 ∧ ((x.2.2 = x'.2.2 ∧ x.1 ≠ k) ∨ (x.2.2 = v ∧ x.1 = k))) ∨ x = (k, y, v) := by
  unfold storV at h
  split at h
  · obtain ⟨x', h1, rfl⟩ := List.mem_map.mp h
    by_cases c : x'.1 = k
    · rw [if_pos c]
      exact .inl ⟨x', h1, rfl, rfl, .inr ⟨rfl, c⟩⟩
    · rw [if_neg c]
      exact .inl ⟨x', h1, rfl, rfl, .inl ⟨rfl, c⟩⟩
  · next hn =>
    rcases List.mem_append.mp h with h | h
    · exact .inl ⟨x, h, rfl, rfl, .inl ⟨rfl, fun e => hn (e ▸ List.mem_map.mpr ⟨x, h, rfl⟩)⟩⟩
    · exact .inr (List.mem_singleton.mp h)
theorem sc_nodup : ∀ {l : List L2.Key}, l.Nodup → (l.map OK.sc).Nodup
  | [], _ => .nil
  | k :: r, h => by
    obtain ⟨h1, h2⟩ := List.nodup_cons.mp h
    refine List.nodup_cons.mpr ⟨fun m => ?_, sc_nodup h2⟩
    obtain ⟨x, hx, e⟩ := List.mem_map.mp m
    injection e with e
    exact h1 (e ▸ hx)
/-- what was stored is there -/
theorem storV_at (xs : List EnV) (k : OK) (y v : V) : ∃ x ∈ storV xs k y v, x.1 = k ∧ x.2.2 = v := by
  unfold storV
  by_cases h : k ∈ xs.map (·.1)
  · rw [if_pos h]
    obtain ⟨x, h1, h2⟩ := List.mem_map.mp h
    refine ⟨_, List.mem_map.mpr ⟨x, h1, rfl⟩, ?_⟩
    rw [if_pos h2]
    exact ⟨h2, rfl⟩
  · rw [if_neg h]
    exact ⟨_, List.mem_append_right _ (List.mem_singleton.mpr rfl), rfl, rfl⟩
theorem enk_stor {H : Hp} {xs : List EnV} {k : OK} {y v : V} (h : EnK H xs) (hk : KyV H k y) (hb : Big k) : EnK H (storV xs k y v) := fun x hx => by
  rcases storV_mem hx with ⟨x', h1, h2, h3, _⟩ | rfl
  · rw [← h2, ← h3]
    exact h x' h1
  · exact ⟨hk, hb⟩
theorem EnK.ext {H H' : Hp} {xs : List EnV} (h : EnK H xs) (e : ∀ a xs, H a = some (.tup xs) → H' a = some (.tup xs)) : EnK H' xs := fun x hx => ⟨(h x hx).1.ext e, (h x hx).2⟩
section
variable {X : Cx} {pins : List (Addr × Obj)} {σ : L2.St} {H : Hp} {s : Shared}
theorem raw_od (I : Inv X pins σ H s) {a : Addr} {xs : List EnV} (h : Rd H a (RawV X.prog X.w a xs)) (hk : EnK H xs) : (a == sysModules) = false ∧ xs.length ≤ sizeLine ∧ ∃ qs, OdD X.prog X.w s.heap a qs ∧ Paired EnR xs qs := by
  obtain ⟨⟨h1, h2, h3, o, es, ep, qs, h4, h5, h6, h7, h8⟩, _⟩ := (show ObjOk X.prog X.w H s.heap a (RawV X.prog X.w a xs) from h.ok I.hok)
  refine ⟨h1, h2, qs, ⟨o, es, ep, h4, h5, h6, h7, fun q hq => ?_, by rw [enr_keys h8]; exact h3⟩, h8⟩
  obtain ⟨x, hx, e1, e2, e3⟩ := enr_mem h8 hq
  rw [← e1]
  exact ⟨(hk x hx).1.ky I e2, (hk x hx).2⟩
theorem scE_od (I : Inv X pins σ H s) {a : Addr} {kvs : List (Key × V)} (h : H a = some (.dK kvs)) (hk : ∀ p ∈ kvs, Big (.sc p.1)) : (a == sysModules) = false ∧ kvs.length ≤ sizeLine ∧ (kvs.map (·.1)).Nodup ∧ ∃ qs, OdD X.prog X.w s.heap a qs ∧ Paired EnR (kvs.map scE) qs := by
  obtain ⟨z, hd, vs, rel, o, es, ep, h1, h2, h3, h4, h5, h6⟩ := dk_of I.hok h
  have key : ∀ {l : List (Key × V)} {m : List (Key × Value)}, KV l m → l.map (·.1) = m.map (·.1) := by
    intro l m r
    induction r with
    | nil => rfl
    | cons e _ ih => rw [List.map_cons, List.map_cons, ih, e.1]
  have hn : (kvs.map (·.1)).Nodup := by rw [key rel]; exact h6
  have go : ∀ {l : List (Key × V)} {m : List (Key × Value)} {ds : List DictEntry}, KV l m → Pairs (mixKind X.prog X.w) ds m → (∀ e ∈ ds, ∃ k, (mixKind X.prog X.w).is k e.key = true ∧ e.hash = (mixKind X.prog X.w).hash k) → (∀ p ∈ l, Big (.sc p.1)) →
      ∃ qs : List Ent, ds = qs.map (entOf X.prog X.w) ∧ Paired EnR (l.map scE) qs ∧ ∀ q ∈ qs, Ky X.prog X.w s.heap q.1 q.2.1 ∧ Big q.1 := by
    intro l m ds r
    induction r generalizing ds with
    | nil =>
      intro p _ _
      cases p
      exact ⟨[], rfl, .nil, fun q hq => by cases hq⟩
    | @cons p q l m e _ ih =>
      intro pr hh hb
      cases pr with
      | @cons en _ ds' _ p1 p2 p3 =>
        obtain ⟨qs, q1, q2, q3⟩ := ih p3 (fun e he => hh e (List.mem_cons_of_mem _ he)) fun p hp => hb p (List.mem_cons_of_mem _ hp)
        obtain ⟨e1, e2⟩ := e
        obtain ⟨k', k1, k2⟩ := hh en (List.mem_cons_self ..)
        have ek : k' = q.1 := (mixKind X.prog X.w).inj _ _ _ k1 p1
        subst ek
        refine ⟨(.sc q.1, en.key, en.val) :: qs, ?_, .cons ⟨by show OK.sc p.1 = .sc q.1; rw [e1], ?_, ?_⟩ q2, fun x hx => ?_⟩
        · rw [q1]
          show en :: _ = (⟨oh X.prog X.w (.sc q.1), en.key, en.val⟩ : DictEntry) :: _
          have : oh X.prog X.w (.sc q.1) = en.hash := k2.symm
          rw [this]
        · show RelV (kV p.1) en.key
          rw [e1]
          exact relV_key (show keyIs q.1 en.key = true from p1)
        · show RelV p.2 en.val
          rw [p2]
          exact e2
        · rcases List.mem_cons.mp hx with rfl | hx
          · refine ⟨p1, ?_⟩
            show Big (.sc q.1)
            rw [← e1]
            exact hb p (List.mem_cons_self ..)
          · exact q3 x hx
  obtain ⟨qs, q1, q2, q3⟩ := go rel h5 (fun e he => h4 e (Array.mem_toList_iff.mp he)) hk
  refine ⟨hd, z, hn, qs, ⟨o, es, ep, h1, h2, h3, q1, q3, ?_⟩, q2⟩
  have : qs.map (·.1) = (kvs.map (·.1)).map OK.sc := by
    rw [enr_keys q2, List.map_map, List.map_map]
    rfl
  rw [this]
  exact sc_nodup hn
end
end Gdo

set_option Elab.async false
set_option linter.all false
set_option maxRecDepth 100000
set_option maxHeartbeats 4000000
/-! rules for such a dict -/
namespace Gdo
open PySem PySem.Spec PyProof.Rows L2
section
variable {X : Cx} {pins : List (Addr × Obj)} {σ : L2.St} {H : Hp} {s : Shared} {A : Around} {E : Value → Shared → Prop}
theorem dget_at {P : Program} {w : World} {d : Addr} {xs : List Ent} {k : OK} {u : Value} {Q : Option Value → Shared → Prop} (hu : A.units + 1 < cLine) (bk : Big k) (hkey : Ky P w s.heap k u) (hm : OdD P w s.heap d xs) {q : Ent} (hq : q ∈ xs) (e : q.1 = k)
    (h : ∀ tk, Q (some q.2.2) { s with toks := tk }) : wpAny (model P w) A (dictGet d u) Q E s := by
  obtain ⟨o, es, ep, ho, hc, hd, he, hk, hn⟩ := hm
  unfold dictGet
  try with_reducible refine wpAny_holding ?_
  refine wpAny_bind (ky_hash (by omega) hkey (wpAny_bind (find_at (s := { s with toks := s.toks + dr k }) hu bk hkey ho hd he hk hn (fun hno => ?_) (fun j x hj hx => ?_))))
  · exact absurd (List.mem_map.mpr ⟨q, hq, e⟩) hno
  · obtain ⟨i, hi⟩ := List.mem_iff_getElem?.mp hq
    have ij : i = j := key_uniq hn hi hj (e.trans hx.symm)
    subst ij
    rw [hj] at hi
    cases hi
    refine wpAny_bind (wpAny_dictEntries (s := { s with toks := s.toks + dr k }) ho hd ?_)
    rw [ent_at he i, hj]
    exact wpAny_pure (h _)
theorem get_at {P : Program} {w : World} {d : Addr} {xs : List Ent} {k : OK} {u : Value} {Q : Value → Shared → Prop} (hu : A.in1.units + 1 < cLine) (bk : Big k) (hkey : Ky P w s.heap k u) (hm : OdD P w s.heap d xs) {q : Ent} (hq : q ∈ xs) (e : q.1 = k)
    (h : ∀ tk, Q q.2.2 { s with toks := tk }) : wpAny (model P w) A (getItem (.ref d) u) Q E s := by
  have ty : s.TypeIs (.ref d) "dict" := let ⟨o, _, _, ho, hc, _⟩ := hm; ⟨o, ho, hc.1⟩
  unfold getItem
  try with_reducible refine wpAny_holding ?_
  refine wpAny_bind (wpAny_sequenceKey ty (by decide) ?_)
  refine wpAny_bind (wpAny_callSpecial?_slot (name := Str.ofString "__getitem__") ty PySem.F.slot_dict_getitem
    (wpAny_call_entry PySem.F.slot_dict_getitem ty PySem.F.entry_dict_getitem ?_ (PySem.args_dict_getitem _ _)))
  show wpAny _ _ (dictGet d u >>= _) _ _ s
  refine wpAny_bind (dget_at (A := A.in1) hu bk hkey hm hq e fun tk => ?_)
  exact wpAny_pure ⟨_, rfl, wpAny_pure (h _)⟩
theorem put_at {P : Program} {w : World} {d : Addr} {xs : List Ent} {k : OK} {u v : Value} {Q : Unit → Shared → Prop} (hu : A.in1.units + 1 < cLine) (bk : Big k) (hkey : Ky P w s.heap k u) (hm : OdD P w s.heap d xs) (hz : xs.length < sizeLine)
    (hQ : ∀ h' tk, OdD P w h' d (stor xs k u v) → Heap.SameBut d s.heap h' → Q () { s with heap := h', toks := tk }) : wpAny (model P w) A (setItem (.ref d) u v) Q E s := by
  have ty : s.TypeIs (.ref d) "dict" := let ⟨o, _, _, ho, hc, _⟩ := hm; ⟨o, ho, hc.1⟩
  unfold setItem
  try with_reducible refine wpAny_holding ?_
  refine wpAny_bind (wpAny_sequenceKey ty (by decide) ?_)
  refine wpAny_bind (wpAny_callSpecial?_slot (name := Str.ofString "__setitem__") ty PySem.F.slot_dict_setitem
    (wpAny_call_entry PySem.F.slot_dict_setitem ty PySem.F.entry_dict_setitem ?_ (PySem.args_dict_setitem _ _ _)))
  show wpAny _ _ (Builtin.Dict.notOrdered "__setitem__" ⟨[.ref d, u, v], []⟩ >>= _) _ _ s
  refine wpAny_bind (wpAny_notOrdered_dict ty ?_)
  show wpAny _ _ (dictSet d u v >>= _) _ _ s
  exact wpAny_bind (set_at (A := A.in1) hu bk hkey hm hz fun h' tk a b => wpAny_pure ⟨.none, rfl, wpAny_pure (hQ h' tk a b)⟩)
/-- behind a[y] = v, a dict with whatever keys -/
def OPut (P : Program) (w : World) (H : Hp) (a : Addr) (y v : V) (H' : Hp) : Prop :=
  ∃ (kvs : List (Key × V)) (k : OK), H a = some (.dK kvs) ∧ (∀ p ∈ kvs, Big (.sc p.1)) ∧ KyV H k y ∧ Big k ∧ kvs.length < sizeLine ∧ H' = upd H a (RawV P w a (storV (kvs.map scE) k y v))
def sOPut (P : Program) (w : World) (td ty tv : TE) : TS := fun D σ H => tv σ H fun v H1 => td σ H1 fun x H2 => ty σ H2 fun y H3 => ∃ a H4, x = .ref a ∧ (DPut H3 a y v H4 ∨ OPut P w H3 a y v H4) ∧ D.nx σ H4
variable {o i e value : Expr} {pos pos' tpos : Pos} {td ty tv : TE}
theorem ps_oput {P : Program} {w : World} (hP : X.prog = P) (hw : X.w = w) (hu : X.A.units + 2 < cLine) (ho : PE X o td) (hi : PE X i ty) (hv : PE X value tv) (hs : swapsWith value (some (.Subscript o i pos')) pos.line X.env = pure false) :
    PS X (.Assign [.Subscript o i pos'] value pos) (sOPut P w td ty tv) := by
  subst hP hw
  refine ⟨fun pins s σ H D I h => ?_⟩
  refine wpAny_Assign_Subscript (thn (hv.run pins s σ H _ I h) fun r s1 ⟨v, H1, I1, rv, q1⟩ => thn (ho.run pins s1 σ H1 _ I1 q1) fun u s2 ⟨x, H2, I2, rx, q2⟩ => thn (hi.run pins s2 σ H2 _ I2 q2) fun iv s3 ⟨y, H3, I3, ry, a, H4, ex, g, q3⟩ => ?_) hs
  subst ex
  obtain rfl : u = Value.ref a := rx
  rcases g with g | ⟨kvs, k, e1, e2, e3, e4, e5, rfl⟩
  · exact d_setItem (by omega) I3 g ry rv fun s4 I4 => ⟨σ, H4, I4, q3⟩
  · obtain ⟨z1, z2, z4, qs, z5, z6⟩ := scE_od I3 e1 e2
    have hl : qs.length = kvs.length := by rw [← Paired.length z6, List.length_map]
    refine put_at (by show X.A.units + 1 + 1 < cLine; omega) e4 (e3.ky I3 ry) z5 (by omega) fun h' tk hd sb => ⟨σ, _, ?_, q3⟩
    obtain ⟨o', es, ep, h1, h2, h3, h4, h5, h6⟩ := hd
    refine d_write (t' := tk) I3 (by rw [e1]; exact True.intro) sb ⟨o', h1⟩ ⟨⟨z1, ?_, ?_, o', es, ep, _, h1, h2, h3, h4, enr_stor z6 ry rv⟩, ⟨o', h1⟩, fun h1' h2' ⟨a1, a2, a3, ob, es', ep', qs', a4, r⟩ kk => ⟨a1, a2, a3, ob, es', ep', qs', kk _ a4, r⟩⟩
    · have := storV_len (kvs.map scE) k y v
      rw [List.length_map] at this
      omega
    · refine storV_keys ?_
      have : (kvs.map scE).map (·.1) = (kvs.map (·.1)).map OK.sc := by
        rw [List.map_map, List.map_map]
        rfl
      rw [this]
      exact sc_nodup z4
/-- the same again on such a dict -/
def RGet (P : Program) (w : World) (H : Hp) (a : Addr) (y v : V) : Prop := ∃ xs x, Rd H a (RawV P w a xs) ∧ EnK H xs ∧ x ∈ xs ∧ KyV H x.1 y ∧ x.2.2 = v
def tRGet (P : Program) (w : World) (td ty : TE) : TE := fun σ H Q => td σ H fun x H1 => ty σ H1 fun y H2 => ∃ a v, x = .ref a ∧ (DGet H2 a y (some v) ∨ RGet P w H2 a y v) ∧ Q v H2
theorem pe_rget {P : Program} {w : World} (hP : X.prog = P) (hw : X.w = w) (hu : X.A.units + 2 < cLine) (ho : PE X o td) (hi : PE X i ty) (hs : NoSl i) : PE X (.Subscript o i pos) (tRGet P w td ty) := by
  subst hP hw
  refine ⟨fun pins s σ H Q I h => ?_⟩
  refine subD_of PySem.F.slot_dict_getitem.lookup hs (thn (ho.run pins s σ H _ I h) fun u s1 ⟨x, H1, I1, rx, q1⟩ => thn (hi.run pins s1 σ H1 _ I1 q1) fun iv s2 ⟨y, H2, I2, ry, a, v, ex, g, q2⟩ => ?_)
  subst ex
  obtain rfl : u = Value.ref a := rx
  rcases g with g | ⟨xs, x, g, gk, gx, gy, rfl⟩
  · exact ⟨dict_typeIs I2 g, d_getItem (by omega) I2 g ry fun w' s3 I3 rw' => ⟨v, H2, I3, rw', q2⟩⟩
  · obtain ⟨z1, z2, qs, z3, z4⟩ := raw_od I2 g gk
    obtain ⟨j, hj⟩ := List.mem_iff_getElem?.mp gx
    obtain ⟨q, hq, e1, e2, e3⟩ := enr_get z4 hj
    refine ⟨let ⟨o, _, _, ho, hc, _⟩ := z3; ⟨o, ho, hc.1⟩, ?_⟩
    exact get_at (k := x.1) (q := q) (by show X.A.units + 1 + 1 < cLine; omega) (gk x gx).2 (gy.ky I2 ry) z3 (List.mem_of_getElem? hq) e1.symm fun tk => ⟨x.2.2, H2, I2.tok tk, e3, q2⟩
/-! ### walked -/
theorem frzR {P : Program} {w : World} {h : Heap} {d : Addr} {o : Obj} {xs : List EnV} (ok : HOk P w H h) (e : H d = some (.frz o (RawV P w d xs))) :
    (d == sysModules) = false ∧ h.get? d = some o ∧ o.ExactDict ∧ ∃ (es : Array DictEntry) (ep : Nat) (qs : List Ent), o.data = .dict es ep ∧ es.size = xs.length ∧ es.toList = qs.map (entOf P w) ∧ Paired EnR xs qs := by
  obtain ⟨hd, ⟨z1, z2, z3, o', es, ep, qs, h1, h2, h3, h4, h5⟩, _⟩ := ok d _ e
  rw [hd] at h1
  cases h1
  refine ⟨z1, hd, h2, es, ep, qs, h3, ?_, h4, h5⟩
  rw [← Array.length_toList, h4, List.length_map, ← Paired.length h5]
end
def Itkr (P : Program) (w : World) (d : Addr) (o : Obj) (xs : List EnV) : It :=
  ⟨fun i H => H d = some (.frz o (RawV P w d xs)) ∧ i < xs.length, fun i H x H' => H' = H ∧ ∃ e, xs[i]? = some e ∧ x = e.2.1, fun i H => H d = some (.frz o (RawV P w d xs)) ∧ xs.length ≤ i⟩
def Itir (P : Program) (w : World) (d : Addr) (o : Obj) (xs : List EnV) : It :=
  ⟨fun i H => H d = some (.frz o (RawV P w d xs)) ∧ i < xs.length, fun i H x H' => ∃ T e, xs[i]? = some e ∧ x = .ref T ∧ H T = none ∧ H' = upd H T (.tup [e.2.1, e.2.2]), fun i H => H d = some (.frz o (RawV P w d xs)) ∧ xs.length ≤ i⟩
theorem walk_keysR {P : Program} {w : World} {d : Addr} {o : Obj} {xs : List EnV} : Walk (Itkr P w d o xs) xs.length (fun H => H d = some (.frz o (RawV P w d xs))) (YAt (xs.map fun e => e.2.1)) :=
  ⟨fun _ _ hi q => ⟨q, hi⟩, fun _ q => ⟨q, Nat.le_refl _⟩, fun i _ _ _ _ _ ⟨h, e, he, hx⟩ => ⟨h, by rw [List.getElem?_map, he, hx]; rfl⟩⟩
theorem walk_itemsR {P : Program} {w : World} {d : Addr} {o : Obj} {xs : List EnV} : Walk (Itir P w d o xs) xs.length (fun H => H d = some (.frz o (RawV P w d xs))) (YPair (fun i => xs[i]?.map fun e => e.2.1) fun i => xs[i]?.map fun e => e.2.2) := by
  refine ⟨fun _ _ hi q => ⟨q, hi⟩, fun _ q => ⟨q, Nat.le_refl _⟩, fun i H x H' _ _ y => ?_⟩
  obtain ⟨T, e, h1, h2, h3, h4⟩ := y
  exact ⟨T, e.2.1, e.2.2, h2, h3, h4, by simp [h1], by simp [h1]⟩
section
variable {P : Program} {w : World} {K : PySem.W.Frag} {tg : Expr} {d : Addr} {o : Obj} {es : Array DictEntry} {ep : Nat}
theorem turn_keysR {xs : List EnV} (it : Addr) (hod : o.data = .dict es ep) : Turn P w K tg (Itkr P w d o xs) [it] it (fun i h => h.IsKeyIter it d i xs.length ep) where
  mem := by simp
  obj := fun i h st b hb => by
    have e : b = it := by simpa using hb
    subst e
    obtain ⟨oi, e, c, dd⟩ := st
    exact ⟨oi, e, fun v z => by rw [dd] at z; cases z⟩
  keep := fun i h h' st k => st.at fun oi e => k it (by simp) oi e
  item := by
    intro X hP hw hK hc i pins s σ H E I hf st hg
    subst hP hw hK
    obtain ⟨hd, hi⟩ := hg
    obtain ⟨f0, f1, f2, f3, f4, f5⟩ := hf it (by simp)
    obtain ⟨hs, hgd, hx, es', ep', qs, hdt, hsz, he, pr⟩ := frzR I.hok hd
    obtain ⟨rfl, rfl⟩ := dict_ep hod hdt
    obtain ⟨x, hxi⟩ : ∃ p, xs[i]? = some p := ⟨xs[i], List.getElem?_eq_getElem hi⟩
    obtain ⟨q, hq, e1, e2, e3⟩ := enr_get pr hxi
    have hen := ent_at he i
    rw [hq, Option.map_some] at hen
    refine next_key_item st hgd hdt hsz hen fun h' st' sb => ?_
    have I1 : Inv X pins σ H { s with heap := h' } := I.turned (t' := s.toks) (fun b ob hb e => (sb.2 b hb).trans e) f0 f1 f3 f4 f5
    obtain ⟨oi, e, c, dd⟩ := id st'
    exact ⟨q.2.1, rfl, go_of (s := { s with heap := h' }) e c dd (by decide) ⟨x.2.1, H, I1, e2, ⟨rfl, x, hxi, rfl⟩, st', fun b hb => (hf b hb).1⟩⟩
  done := by
    intro X hP hw hK hc i pins s σ H E I hf st hg
    subst hP hw hK
    obtain ⟨hd, hi⟩ := hg
    obtain ⟨f0, f1, f2, f3, f4, f5⟩ := hf it (by simp)
    obtain ⟨hs, hgd, hx, es', ep', qs, hdt, hsz, he, pr⟩ := frzR I.hok hd
    obtain ⟨rfl, rfl⟩ := dict_ep hod hdt
    exact next_key_end (I.ok.hd hc) st hgd hdt hsz hi fun h' eb => ⟨rfl, I.turned (t' := s.toks) (fun b ob hb e => eb b ob hb e) f0 f1 f3 f4 f5⟩
  self := fun A i s Q E st h => wpAny_pyIter_keyiter st h
theorem turn_itemsR {xs : List EnV} {elts : List Expr} {kk : Nat} {tpos : Pos} (it : Addr) (hod : o.data = .dict es ep) :
    Turn P w K (.Tuple elts kk tpos) (Itir P w d o xs) [it] it (fun i h => ∃ ok ov, IsItemIter h it d i xs.length ep ok ov) where
  mem := by simp
  obj := fun i h st b hb => by
    have e : b = it := by simpa using hb
    subst e
    obtain ⟨ok, ov, e⟩ := st
    exact ⟨_, e, fun v z => nomatch z⟩
  keep := fun i h h' st k => let ⟨ok, ov, e⟩ := st; ⟨ok, ov, k it (by simp) _ e⟩
  item := by
    intro X hP hw hK hc i pins s σ H E I hf st hg
    subst hP hw hK
    obtain ⟨hd, hi⟩ := hg
    obtain ⟨hs, hgd, hx, es', ep', qs, hdt, hsz, he, pr⟩ := frzR I.hok hd
    obtain ⟨rfl, rfl⟩ := dict_ep hod hdt
    obtain ⟨x, hxi⟩ : ∃ p, xs[i]? = some p := ⟨xs[i], List.getElem?_eq_getElem hi⟩
    obtain ⟨q, hq, e1, e2, e3⟩ := enr_get pr hxi
    have hen := ent_at he i
    rw [hq, Option.map_some] at hen
    have hlt' : i < es'.size := by omega
    have hei : es'[i] = entOf X.prog X.w q := by
      rw [Array.getElem?_eq_getElem hlt'] at hen
      exact Option.some.inj hen
    obtain ⟨ok, ov, hit⟩ := st
    rw [← hsz] at hit
    have hlt : it < s.heap.objs.size := Heap.lt_size hit
    refine wpAny_pyNext_items_item_raw hit ⟨o, hgd, hx, hdt⟩ hlt' fun h' ho hT hz hk => ?_
    rw [hei] at ho hT
    refine ⟨_, rfl, wpAny_letOwnedTupleGo_items (s := { s with heap := h' }) ho fun h'' he' sb => ?_⟩
    have hT2 : h''.get? s.heap.objs.size = some { cls := .type "tuple", data := .seq #[q.2.1, q.2.2] } := (sb.2 _ (Nat.ne_of_gt hlt)).trans hT
    have new : ObjOk X.prog X.w (upd H s.heap.objs.size (.tup [x.2.1, x.2.2])) h'' s.heap.objs.size (.tup [x.2.1, x.2.2]) :=
      ⟨by show 2 ≤ sizeLine; decide, [q.2.1, q.2.2], .cons e2 (.cons e3 .nil), ⟨_, hT2, rfl, _, rfl⟩⟩
    have I1 : Inv X pins σ (upd H s.heap.objs.size (.tup [x.2.1, x.2.2])) { s with heap := h'' } :=
      I.turnedNew (t' := s.toks) (ch := [it]) (fun b ob hb e => (sb.2 b (by simpa using hb)).trans (hk b ob (by simpa using hb) e)) hf (Nat.le_refl _) new
    refine ⟨.ref s.heap.objs.size, _, I1, rfl, ⟨_, x, hxi, rfl, I.hok.fresh (Nat.le_refl _), rfl⟩, ⟨q.2.1, q.2.2, ?_⟩, fun b hb => ?_⟩
    · rw [← hsz]; exact he'
    · have e : b = it := by simpa using hb
      rw [e, upd_ne (Nat.ne_of_lt hlt)]
      exact (hf it (by simp)).1
  done := by
    intro X hP hw hK hc i pins s σ H E I hf st hg
    subst hP hw hK
    obtain ⟨hd, hi⟩ := hg
    obtain ⟨f0, f1, f2, f3, f4, f5⟩ := hf it (by simp)
    obtain ⟨hs, hgd, hx, es', ep', qs, hdt, hsz, he, pr⟩ := frzR I.hok hd
    obtain ⟨rfl, rfl⟩ := dict_ep hod hdt
    obtain ⟨ok, ov, hit⟩ := st
    rw [← hsz] at hit
    exact wpAny_pyNext_items_end_raw (I.ok.hd hc) hit ⟨o, hgd, hx, hdt⟩ (by omega) fun h' eb => ⟨rfl, I.turned (t' := s.toks) (fun b ob hb e => eb b ob hb e) f0 f1 f3 f4 f5⟩
  self := fun A i s Q E st h => let ⟨_, _, e⟩ := st; PySem.W.kcp_self e h
end
section
variable {X : Cx} {tg e : Expr} {td : TE} {apos cpos : Pos}
/-- the dict is locked; its keys of either kind -/
def iKeysR (P : Program) (w : World) (td : TE) : TI := fun σ H R => td σ H fun x H1 => ∃ d o, x = .ref d ∧ ((∃ kvs, H1 d = some (.frz o (.dK kvs)) ∧ R (Itk d o kvs) H1) ∨ ∃ xs, H1 d = some (.frz o (RawV P w d xs)) ∧ R (Itkr P w d o xs) H1)
def iItemsR (P : Program) (w : World) (td : TE) : TI := fun σ H R => td σ H fun x H1 => ∃ d o, x = .ref d ∧ ((∃ kvs, H1 d = some (.frz o (.dK kvs)) ∧ R (Iti d o kvs) H1) ∨ ∃ xs, H1 d = some (.frz o (RawV P w d xs)) ∧ R (Itir P w d o xs) H1)
theorem pi_keysR {P : Program} {w : World} (hP : X.prog = P) (hw : X.w = w) (he : PE X e td) : PI X tg e (iKeysR P w td) := by
  subst hP hw
  refine ⟨fun pins s σ H R I h => ?_⟩
  refine thn (he.run pins s σ H _ I h) fun u s1 ⟨x, H1, I1, rx, d, o, ex, q⟩ => ?_
  subst ex
  obtain rfl : u = Value.ref d := rx
  rcases q with ⟨kvs, hd, q⟩ | ⟨xs, hd, q⟩
  · obtain ⟨hs, hgd, hx, es, ep, vs, hdt, hsz, kv, hm⟩ := I1.frzK hd
    refine iter_keys hs hgd hx hdt (pi_one (tk := s1.toks) I1 _ (turn_keys _ hdt) ⟨_, Heap.get?_push_size _ rfl, rfl, ?_⟩ q)
    rw [hsz] <;> rfl
  · obtain ⟨hs, hgd, hx, es, ep, qs, hdt, hsz, ent⟩ := frzR I1.hok hd
    refine iter_keys hs hgd hx hdt (pi_one (tk := s1.toks) I1 _ (turn_keysR _ hdt) ⟨_, Heap.get?_push_size _ rfl, rfl, ?_⟩ q)
    rw [hsz] <;> rfl
theorem pi_itemsR {P : Program} {w : World} (hP : X.prog = P) (hw : X.w = w) {elts : List Expr} {kk : Nat} {tpos : Pos} (he : PE X e td) (hbase : attributeBase e "items" X.env (eval e X.env) = eval e X.env := by rfl) (hline : (apos.endLine == cpos.line) = true := by rfl) :
    PI X (.Tuple elts kk tpos) (.Call (.Attribute e "items" apos) [] [] cpos) (iItemsR P w td) := by
  subst hP hw
  refine ⟨fun pins s σ H R I h => ?_⟩
  refine wpAny_Call_method (T := "dict") (id := "dict.items") hbase rfl hline F.plainAttrs_dict F.slot_dict_items F.type_dict_items (thn (he.run pins s σ H _ I h) fun u s1 ⟨x, H1, I1, rx, d, o, ex, q⟩ => ?_)
  subst ex
  obtain rfl : u = Value.ref d := rx
  rcases q with ⟨kvs, hd, q⟩ | ⟨xs, hd, q⟩
  · obtain ⟨hs, hgd, hx, es, ep, vs, hdt, hsz, kv, hm⟩ := I1.frzK hd
    have hl : kvs.length = vs.length := Paired.length kv
    refine ⟨hm.dictOf.typeIs, hm.dictOf.mapOf.noDict, ?_⟩
    have I2 : Inv X pins σ H1 { s1 with heap := s1.heap.push { cls := .type "dict_items", data := .fields #[.ref d] } } := I1.kept (t' := s1.toks) fun b ob q => Heap.get?_push_of_some _ q
    refine method_meetsIn F.slot_dict_items F.entry_dict_items rfl (PySem.evalArgs_none ⟨rfl, hm.dictOf.typeIs, F.args_dict_items_1 _, _, meets_dict_items (mixKind X.prog X.w) d hs, ⟨vs, hm.dictOf⟩, ?_⟩)
    refine wpAny_pyIter_items (d := d) (knd := mixKind X.prog X.w) ⟨_, Heap.get?_push_size _ rfl, rfl, rfl⟩ (hm.push _) (pi_one (tk := s1.toks) I2 _ (turn_items _ hdt) ⟨.none, .none, ?_⟩ q)
    rw [hl]
    exact Heap.get?_push_size _ rfl
  · obtain ⟨hs, hgd, hx, es, ep, qs, hdt, hsz, ent⟩ := frzR I1.hok hd
    have hR : s1.heap.DictRaw d es ep := ⟨o, hgd, hx, hdt⟩
    refine ⟨hR.typeIs, fun b z => by cases z; exact ⟨o, hgd, hx.2.1⟩, ?_⟩
    have I2 : Inv X pins σ H1 { s1 with heap := s1.heap.push { cls := .type "dict_items", data := .fields #[.ref d] } } := I1.kept (t' := s1.toks) fun b ob q => Heap.get?_push_of_some _ q
    refine method_meetsIn F.slot_dict_items F.entry_dict_items rfl (PySem.evalArgs_none ⟨rfl, hR.typeIs, F.args_dict_items_1 _, _, meets_dict_items_raw d hs, ⟨es, ep, hR⟩, ?_⟩)
    refine wpAny_pyIter_items_raw (d := d) ⟨_, Heap.get?_push_size _ rfl, rfl, rfl⟩ (hR.at fun o' z => Heap.get?_push_of_some _ z) (pi_one (tk := s1.toks) I2 _ (turn_itemsR _ hdt) ⟨.none, .none, ?_⟩ q)
    rw [hsz]
    exact Heap.get?_push_size _ rfl
end
/-! ### isinstance -/
inductive TyE (P : Program) (w : World) (K : PySem.W.Frag) (H : Hp) : V → Value → Prop
  | x {v : V} {t : Value} (h : TyX K H v t) : TyE P w K H v t
  | raw {a : Addr} {xs : List EnV} (h : H a = some (RawV P w a xs)) : TyE P w K H (.ref a) (.type "dict")
theorem tyE_kit {X : Cx} {pins : List (Addr × Obj)} {σ : L2.St} {H : Hp} {s : Shared} {v : V} {u t : Value} (I : Inv X pins σ H s) (r : RelV v u) (z : TyE X.prog X.w X.K H v t) : ∃ P : Heap → Prop, PySem.W.KitX X.K u t P ∧ P s.heap ∧ u ≠ .builtin "__main__.__loader__#opaque" := by
  cases z with
  | x h => exact kit_of I r h
  | @raw a xs h =>
    cases (show u = Value.ref a from r)
    obtain ⟨⟨_, _, _, o, _, _, _, h1, h2, _⟩, _⟩ := I.hok a _ h
    exact ⟨_, PySem.W.kitx_dict, ⟨o, h1, h2.1⟩, fun z => nomatch z⟩
def rIsE (P : Program) (w : World) (K : PySem.W.Frag) : List V → Hp → VK → Prop := fun xs H Q => ∃ (v c : V) (t u : Value) (b : Bool), xs = [v, c] ∧ ClsV c u ∧ TyE P w K H v t ∧ PySem.W.kitOne K t u = some b ∧ Q (.bl b) H
theorem call_isE {X : Cx} {P : Program} {w : World} (hP : X.prog = P) (hw : X.w = w) : CallR X (.builtin "isinstance") (rIsE P w X.K) := by
  subst hP hw
  intro pins s σ H xs us Q I r h
  obtain ⟨v, c, t, u, b, rfl, k, ty, e, q⟩ := h
  obtain ⟨u1, u2, rfl, r1, r2⟩ := vals2 r
  obtain rfl := k.eq r2
  obtain ⟨P, Z, p, hx⟩ := tyE_kit I r1 ty
  exact PySem.W.kia_one Z I.kIn p e hx fun tk => ⟨.bl b, H, I.tok tk, rfl, q⟩
end Gdo

set_option Elab.async false
set_option linter.all false
set_option maxRecDepth 100000
set_option maxHeartbeats 4000000
/-! d.get(k, x) where d's keys are tuples and k may be None -/
namespace Gdo
open PySem PySem.Spec PyProof.Rows L2
/-- a value that is a key, or None -/
def KeyAt (H : Hp) (v : V) : Option (List Key) → Prop
  | some k => ∃ t, v = .ref t ∧ H t = some (.tup (k.map kV))
  | none => v = .non
section
variable {X : Cx} {pins : List (Addr × Obj)} {σ : L2.St} {H : Hp} {s : Shared} {A : Around} {E : Value → Shared → Prop}
theorem none_missing {P : Program} {w : World} {d : Addr} {xs : List (List Key × Addr × Value)} {Q : Option Value → Shared → Prop} (hu : A.units + 1 < cLine) (hm : s.heap.DictOfH (tupleKind (mixKind P w)) d xs)
    (h : ∀ tk, Q none { s with toks := tk }) : wpAny (model P w) A (dictGet d .none) Q E s := by
  obtain ⟨o, es, ep, ho, hc, hd, he, hk, hn⟩ := hm
  unfold dictGet
  try with_reducible refine wpAny_holding ?_
  refine wpAny_bind (ky_hash (P := P) (w := w) (k := .non) (by omega) rfl (wpAny_bind (find_at (P := P) (w := w) (xs := xs.map fun x => (OK.tp x.1, .ref x.2.1, x.2.2)) (s := { s with toks := s.toks + dr .non }) hu (k := .non) trivial rfl ho hd ?_ ?_ ?_ (fun _ => ?_) (fun j x hj hx => ?_))))
  · rw [he, List.map_map]
    rfl
  · intro x hx
    obtain ⟨y, hy, rfl⟩ := List.mem_map.mp hx
    exact ⟨⟨_, rfl, hk y hy⟩, trivial⟩
  · rw [List.map_map]
    have e : ((fun x : OK × Value × Value => x.1) ∘ fun x : List Key × Addr × Value => (OK.tp x.1, Value.ref x.2.1, x.2.2)) = OK.tp ∘ fun x : List Key × Addr × Value => x.1 := rfl
    rw [e, ← List.map_map]
    exact List.Pairwise.map _ (fun a b ne z => ne (OK.tp.inj z)) hn
  · exact wpAny_pure (h _)
  · obtain ⟨y, hy, rfl⟩ := List.mem_map.mp (List.mem_of_getElem? hj)
    cases hx
def GetN (H : Hp) (a : Addr) (y : V) (o : Option V) : Prop := DGet H a y o ∨ (y = .non ∧ o = none ∧ ∃ kvs, Rd H a (.dT kvs))
theorem GetN.at_ {a : Addr} {kvs : List (List Key × V)} {y : V} {o : Option (List Key)} (h : H a = some (.dT kvs)) (hk : KeyAt H y o) : GetN H a y (o.bind (valV kvs)) := by
  cases o with
  | some k =>
    obtain ⟨t, rfl, ht⟩ := hk
    exact .inl (DGet.t h ht)
  | none => exact .inr ⟨hk, rfl, kvs, .inl h⟩
theorem d_getN {a : Addr} {y d : V} {o : Option V} {u r : Value} {Q : Value → Shared → Prop} (hu : A.units + 2 < cLine) (I : Inv X pins σ H s) (g : GetN H a y o) (ry : RelV y u) (rd : RelV d r) (h : ∀ w' s', Inv X pins σ H s' → RelV (o.getD d) w' → Q w' s') :
    wpAny (model X.prog X.w) A (call (.builtin "dict.get") [.ref a, u, r]) Q E s := by
  rcases g with g | ⟨rfl, rfl, kvs, e⟩
  · exact d_get2 (by omega) I g ry rd h
  · cases (show u = .none from ry)
    obtain ⟨z, hd, xs, rel, dd⟩ := dt_rd I.hok e
    refine call_meetsIn (S := fun A R s => A.units + 2 < cLine ∧ s.heap.DictOfH (tupleKind (mixKind X.prog X.w)) a xs ∧ ∀ tk, R (.ok (.ret r)) { s with toks := tk }) PySem.F.slot_dict_get dd.typeIs PySem.F.entry_dict_get (PySem.F.args_dict_get_3 _ _ _) (.of_wp fun A R s ⟨hu, hm, h⟩ => ?_) ⟨hu, dd, fun tk => h _ _ (I.tok tk) rd⟩
    show wpAny _ _ (dictGet a .none >>= _) _ _ s
    refine wpAny_bind (none_missing (A := A.in1) (by show A.units + 1 + 1 < cLine; omega) hm fun tk => ?_)
    show wpAny _ _ (Builtin.Dict.missed a .none >>= _) _ _ _
    exact wpAny_bind (wpAny_missed_other hd (wpAny_pure ⟨r, rfl, h tk⟩))
end
def tGetN (td ty tx : TE) : TE := fun σ H Q => td σ H fun x H1 => ∃ a, x = .ref a ∧ IsD H1 a ∧ ty σ H1 fun y H2 => tx σ H2 fun z H3 => ∃ o, GetN H3 a y o ∧ Q (o.getD z) H3
section
variable {X : Cx} {o e f : Expr} {apos cpos : Pos} {td ty tx : TE}
theorem pe_getN (hu : X.A.units + 2 < cLine) (ho : PE X o td) (he : PE X e ty) (hf : PE X f tx) (m : M2 X o "get" apos e f cpos) : PE X (.Call (.Attribute o "get" apos) [e, f] [] cpos) (tGetN td ty tx) := by
  refine ⟨fun pins s σ H Q I h => ?_⟩
  refine wpAny_Call_method m.base m.few m.line PySem.F.plainAttrs_dict PySem.F.slot_dict_get PySem.F.type_dict_get (thn (ho.run pins s σ H _ I h) fun u s1 ⟨x, H1, I1, rx, a, ex, d, q1⟩ => ?_)
  subst ex
  obtain rfl : u = Value.ref a := rx
  obtain ⟨t1, t2, _⟩ := isD_at I1 d
  refine ⟨t1, t2, ?_⟩
  rw [m.trees]
  refine Calls.callWith_builtin rfl (Calls.evalArgs_plain (Calls.spliced_cons (thn (he.run pins s1 σ H1 _ I1 q1) fun iv s2 ⟨y, H2, I2, ry, q2⟩ =>
    Calls.spliced_cons (thn (hf.run pins s2 σ H2 _ I2 q2) fun fv s3 ⟨z, H3, I3, rz, ov, g, q3⟩ => Calls.spliced_nil ?_))))
  exact d_getN hu I3 g ry rz fun w' s4 I4 rw' => ⟨_, H3, I4, rw', q3⟩
end
end Gdo

set_option Elab.async false
set_option linter.all false
set_option maxRecDepth 100000
set_option maxHeartbeats 4000000
namespace Lw
open L2 hiding Ext
open PySem PySem.Spec PyProof.Rows Gn Gr Gk Go Gt Gf Gu
theorem len2 (f : Fact) : 2 ≤ f.vals.length := by show 2 ≤ f.rest.length + 1 + 1; omega
theorem at0 (f : Fact) : atI f.vals 0 = some (.str (kinds f.tag)) := (show atI f.vals ((0 : Nat) : Int) = _ from atI_nat rfl)
theorem at1 (f : Fact) : atI f.vals 1 = some (.int f.n1) := (show atI f.vals ((1 : Nat) : Int) = _ from atI_nat rfl)
/-- the rows that a fact supposes -/
def Fact.sup : Fact → List (Fin 7 × Int)
  | .rel p _ => [(0, p)]
  | .wd p => [(1, p)]
  | .ans _ p q => [(1, p), (0, q)]
  | _ => []
def SupAt (H : Hp) (vs : List V) (ss : List (Fin 7 × Int)) : Prop := vs.length = ss.length ∧ ∀ (i : Nat) (s : Fin 7 × Int), ss[i]? = some s → ∃ t, vs[i]? = some (V.ref t) ∧ H t = some (.tup [.str (kinds s.1), .int s.2])
theorem SupAt.ext {H H' : Hp} {vs : List V} {ss : List (Fin 7 × Int)} (h : SupAt H vs ss) (k : Ext H H') : SupAt H' vs ss :=
  ⟨h.1, fun i s hs => by obtain ⟨t, a, b⟩ := h.2 i s hs; exact ⟨t, a, k _ _ b⟩⟩
def contr (f g : Fact) : Bool := g.sup.any fun s => decide (s.2 = f.n1) && !decide (s.1 = f.tag)
section
variable {P : Program} {w : World} {K : PySem.W.Frag} {mg : Str → Option Value} {base : Heap}
/-- the module's tuples, the built-in names -/
structure FactN (K : PySem.W.Frag) (mg : Str → Option Value) : Prop where
  rows : ∃ t, mg "ROWS" = some (.ref t) ∧ ∀ H, SqT K H t [.str "spender", .str "request"]
  answers : ∃ t, mg "ANSWERS" = some (.ref t) ∧ ∀ H, SqT K H t [.str "consent", .str "refuse"]
  any : mg "any" = none
  max : mg "max" = none
def spSup : Sp := fun vs H Q _ => ∃ (a : Addr) (f : Fact), vs = [.ref a] ∧ FAt H a f ∧ ∀ (H' : Hp) (l : Addr) (xs : List V), Ext H H' → H' l = some (.lst xs) → SupAt H' xs f.sup → Q (.ref l) H'
theorem scSup : FnScope ["fact", "kind"] ["fact"] (defScope sSupposedRows) := ⟨rfl, rfl, rfl, by decide +kernel, rfl, by decide +kernel, by decide +kernel⟩
theorem ok_sup {f : Addr} {fd : FuncData} (F : Fun K "supposed_rows" "supposed_rows" sSupposedRows f fd) (T : FactN K mg) : FnOk P w K mg base CX0 1 f fd ["fact"] spSup := by
  refine F.ok scSup (fun vs H Q E h => ?_) (fun cdv A outer s H vs Q E hr h => ?_)
  · obtain ⟨a, f, rfl, _⟩ := h
    rfl
  · obtain ⟨a, f, rfl, hf, k⟩ := h
    have hu := hu_of hr
    have nd := scSup.nd
    obtain ⟨tA, gA, sA⟩ := T.answers
    refine ⟨_, pss_cons (ps_set (i := 1) nd rfl (.inl rfl) (pe_ix ix_tup (pv 0) pe_int (fun _ _ => rfl)))
      (pss_cons (ps_if (pt_cmpR op_eq (pv 1) pe_str (nomark _)) (pss_one (ps_ret (pe_lst (pa_cons (pe_tup (pa_cons pe_str (pa_cons (pe_ix ix_tup (pv 0) pe_int (fun _ _ => rfl)) pa_nil))) pa_nil)))) pss_nil)
      (pss_cons (ps_if (pt_cmpR op_eq (pv 1) pe_str (nomark _)) (pss_one (ps_ret (pe_lst (pa_cons (pe_tup (pa_cons pe_str (pa_cons (pe_ix ix_tup (pv 0) pe_int (fun _ _ => rfl)) pa_nil))) pa_nil)))) pss_nil)
      (pss_cons (ps_if (pt_cmpR op_in_seq (pv 1) (pe_glob (v := .ref tA) rfl gA rfl) rfl) (pss_one (ps_ret (pe_lst (pa_cons (pe_tup (pa_cons pe_str (pa_cons (pe_ix ix_tup (pv 0) pe_int (fun _ _ => rfl)) pa_nil))) (pa_cons (pe_tup (pa_cons pe_str (pa_cons (pe_ix ix_tup (pv 0) pe_int (fun _ _ => rfl)) pa_nil))) pa_nil))))) pss_nil)
      (pss_one (ps_ret (pe_lst pa_nil)))))), ?_⟩
    refine ⟨_, rfl, a, _, _, _, rfl, rfl, SqT.of hf, at0 f, ?_⟩
    refine ⟨_, rfl, rfl, _, rfl, ?_⟩
    have one : ∀ (s : Fin 7 × Int) (H1 : Hp) (t l : Addr), f.sup = [s] → H t = none → H1 = upd H t (.tup [.str (kinds s.1), .int s.2]) → H1 l = none → Q (.ref l) (upd H1 l (.lst [.ref t])) := fun s H1 t l e ht e1 hl => by
      subst e1
      refine k _ l _ ((Ext.new ht).trans (Ext.new hl)) upd_same ?_
      rw [e]
      refine ⟨rfl, fun i s' hs => ?_⟩
      cases i with
      | zero =>
        cases hs
        exact ⟨t, rfl, new_same hl _ _ upd_same⟩
      | succ i => cases hs
    refine ite2 (fun e => ?_) (fun n1 => ?_)
    · have e := (kind_eq f.tag 3).symm.trans e
      cases f with
      | rel p z =>
        refine ⟨_, rfl, a, _, _, _, rfl, rfl, SqT.of hf, rfl, by show 2 ≤ sizeLine; decide, fun t ht => ?_⟩
        exact ⟨by show 1 ≤ sizeLine; decide, fun l hl => one (0, p) _ t l rfl ht rfl hl⟩
      | row b _ _ _ => cases b <;> cases e
      | dep _ _ _ => cases e
      | wd _ => cases e
      | ans b _ _ => cases b <;> cases e
    refine ⟨_, rfl, rfl, _, rfl, ?_⟩
    refine ite2 (fun e => ?_) (fun n2 => ?_)
    · have e := (kind_eq f.tag 4).symm.trans e
      cases f with
      | wd p =>
        refine ⟨_, rfl, a, _, _, _, rfl, rfl, SqT.of hf, rfl, by show 2 ≤ sizeLine; decide, fun t ht => ?_⟩
        exact ⟨by show 1 ≤ sizeLine; decide, fun l hl => one (1, p) _ t l rfl ht rfl hl⟩
      | row b _ _ _ => cases b <;> cases e
      | dep _ _ _ => cases e
      | rel _ _ => cases e
      | ans b _ _ => cases b <;> cases e
    refine ⟨_, rfl, tA, _, rfl, .inr (sA H), rfl, rfl, _, rfl, ?_⟩
    have n1 : decide (f.tag = 3) = false := (kind_eq f.tag 3).symm.trans (Bool.eq_false_iff.mpr n1)
    have n2 : decide (f.tag = 4) = false := (kind_eq f.tag 4).symm.trans (Bool.eq_false_iff.mpr n2)
    refine ite2 (fun e => ?_) (fun n3 => ?_)
    · have e := (in_ans f.tag).symm.trans e
      cases f with
      | ans b p q =>
        refine ⟨_, rfl, a, _, _, _, rfl, rfl, SqT.of hf, rfl, by show 2 ≤ sizeLine; decide, fun t ht => ?_⟩
        have h1 := new_same (o := .tup [.str "request", .int p]) ht _ _ hf
        refine ⟨_, rfl, a, _, _, _, rfl, rfl, SqT.of h1, rfl, by show 2 ≤ sizeLine; decide, fun t2 ht2 => ?_⟩
        refine ⟨by show 2 ≤ sizeLine; decide, fun l hl => ?_⟩
        refine k _ l _ (((Ext.new ht).trans (Ext.new ht2)).trans (Ext.new hl)) upd_same ⟨rfl, fun i s' hs => ?_⟩
        match i, hs with
        | 0, hs =>
          cases hs
          exact ⟨t, rfl, new_same hl _ _ (new_same ht2 _ _ upd_same)⟩
        | 1, hs =>
          cases hs
          exact ⟨t2, rfl, new_same hl _ _ upd_same⟩
        | i + 2, hs => cases hs
      | row b _ _ _ => cases b <;> cases e
      | dep _ _ _ => cases e
      | rel _ _ => cases e
      | wd _ => cases e
    have n3 : decide (5 ≤ f.tag.val) = false := (in_ans f.tag).symm.trans (Bool.eq_false_iff.mpr n3)
    refine ⟨Nat.zero_le _, fun l hl => ?_⟩
    refine k _ l [] (Ext.new hl) upd_same ?_
    cases f with
    | row b _ _ _ => exact ⟨rfl, fun i s hs => by cases hs⟩
    | dep _ _ _ => exact ⟨rfl, fun i s hs => by cases hs⟩
    | rel _ _ => cases n1
    | wd _ => cases n2
    | ans b _ _ => cases b <;> cases n3
def spContr : Sp := fun vs H Q _ => ∃ (a b : Addr) (f g : Fact), vs = [.ref a, .ref b] ∧ FAt H a f ∧ FAt H b g ∧ ∀ H', Ext H H' → Q (.bl (contr f g)) H'
theorem scContr : FnScope ["row", "fact", "kind", "place"] ["row", "fact"] (defScope sContradicts) := ⟨rfl, rfl, rfl, by decide +kernel, rfl, by decide +kernel, by decide +kernel⟩
theorem ok_contr {f fS : Addr} {fd fdS : FuncData} (F : Fun K "contradicts" "contradicts" sContradicts f fd) (T : FactN K mg) (GS : FnOk P w K mg base CX0 1 fS fdS ["fact"] spSup) (bS : Binds K fdS ["fact"] []) (kS : PySem.W.keepIn K (.ref fS) = true) (mS : mg "supposed_rows" = some (.ref fS)) :
    FnOk P w K mg base CX0 2 f fd ["row", "fact"] spContr := by
  refine F.ok scContr (fun vs H Q E h => ?_) (fun cdv A outer s H vs Q E hr h => ?_)
  · obtain ⟨a, b, f, g, rfl, _⟩ := h
    rfl
  · obtain ⟨a, b, f, g, rfl, hf, hg, k⟩ := h
    have hu := hu_of hr
    have nd := scContr.nd
    refine ⟨_, pss_one (ps_ret (pe_callB (cr_any rfl) rfl T.any (by decide +kernel) (pa_cons (pe_lc (own := [("kind", 2), ("place", 3)]) (g := gTup K 2 (gCons (gName 2) (gCons (gName 3) gNil))) (tt := tYes) rfl nd (pi_list (pe_call GS hr rfl mS kS bS .nil pass0 (pa_cons (pv 1) pa_nil))) (blkOk_by (N := ["row", "fact", "kind", "place"]) (sc := defScope sContradicts) (by decide +kernel))
      (fun _ _ _ _ _ => by exact (pg_tup rfl (pgs_cons (pg_name (i := 2) nd rfl (.inl rfl)) (pgs_cons (pg_name (i := 3) nd rfl (.inl rfl)) pgs_nil)))) (fun _ _ _ _ _ => pts_nil)
      (fun _ _ _ _ _ => pe_and (pe_cmpR op_eq (pv 3) (pe_ix (r := rIxT K) ix_tup (pv 0) pe_int (fun _ _ => rfl)) (nomark _)) (pe_one (pe_cmpR op_ne (pv 2) (pe_ix (r := rIxT K) ix_tup (pv 0) pe_int (fun _ _ => rfl)) (nomark _))))) pa_nil))), ?_⟩
    refine ⟨_, rfl, b, g, rfl, hg, fun H1 l xs k1 hl hS => ?_⟩
    refine ⟨l, rfl, ⟨_, SqL.of hl⟩, fun D hD => ?_⟩
    let fv : Fin 7 × Int → Bool := fun s => decide (s.2 = f.n1) && !decide (s.1 = f.tag)
    refine lc_list (K := K) (a := l) (xs := xs) (fun i H' => H' D = some (.lst (((g.sup.take i).map fv).map V.bl)) ∧ Ext H1 H') ⟨upd_same, Ext.new hD⟩ (fun i H' _ ⟨_, e⟩ => SqL.of (e _ _ hl)) ?_ ?_
    · rintro i x H2 hx ⟨d2, k2⟩
      have hi : i < xs.length := by
        rcases Nat.lt_or_ge i xs.length with h | h
        · exact h
        · rw [List.getElem?_eq_none h] at hx; cases hx
      have hi2 : i < g.sup.length := by rw [← hS.1]; exact hi
      have hsi := List.getElem?_eq_getElem hi2
      obtain ⟨t, h1, h2⟩ := hS.2 i _ hsi
      rw [hx] at h1
      cases h1
      have h2 := k2 _ _ h2
      have hf2 := k2 _ _ (k1 _ _ hf)
      have fin : ∀ c : Bool, fv g.sup[i] = c → ∃ ys, H2 D = some (.lst ys) ∧ ys.length < sizeLine ∧ (upd H2 D (.lst (ys ++ [V.bl c]))) D = some (.lst (((g.sup.take (i + 1)).map fv).map V.bl)) ∧ Ext H1 (upd H2 D (.lst (ys ++ [V.bl c]))) := fun c ec => by
        refine ⟨_, d2, ?_, ?_, fun a o e => ?_⟩
        · have h2 : g.sup.length ≤ 2 := by cases g <;> (show _ ≤ 2) <;> simp [Fact.sup]
          rw [List.length_map, List.length_map, List.length_take]
          exact small1000 (by omega)
        · rw [upd_same, take_succ_map fv hsi, List.map_append, ec]
          rfl
        · rw [upd_ne (ne_of_none e hD)]
          exact k2 a o e
      refine ⟨t, _, rfl, SqT.of h2, rfl, _, _, rfl, _, _, rfl, rfl, rfl, yes_of ?_⟩
      refine ⟨_, rfl, _, rfl, a, _, _, _, rfl, rfl, SqT.of hf2, at1 f, rfl, _, rfl, ?_⟩
      have e1 : decide (V.int g.sup[i].2 = V.int f.n1) = decide (g.sup[i].2 = f.n1) := by
        by_cases h : g.sup[i].2 = f.n1
        · rw [h]; simp
        · rw [decide_eq_false h]; exact decide_eq_false fun z => h (by injection z)
      refine ite2 (fun e => ?_) (fun e => ?_)
      · refine ⟨_, rfl, _, rfl, a, _, _, _, rfl, rfl, SqT.of hf2, at0 f, rfl, ?_⟩
        refine fin _ ?_
        show (decide (g.sup[i].2 = f.n1) && !decide (g.sup[i].1 = f.tag)) = _
        rw [← e1, e, Bool.true_and, ← kind_eq]
      · refine fin _ ?_
        show (decide (g.sup[i].2 = f.n1) && !decide (g.sup[i].1 = f.tag)) = _
        rw [← e1, Bool.eq_false_iff.mpr e, Bool.false_and]
    · rintro H2 ⟨d2, k2⟩
      refine ⟨D, _, rfl, SqL.of d2, ?_⟩
      rw [hS.1, List.take_length, List.any_map]
      exact k _ (k1.trans k2)
/-! ### slot -/
theorem iteS2 {c : Bool} {A B : Prop} (h : c = true) (a : A) : if c = true then A else B := by
  rw [if_pos h]
  exact a
theorem iteN2 {c : Bool} {A B : Prop} (h : c = false) (b : B) : if c = true then A else B := by
  rw [if_neg (by rw [h]; exact Bool.false_ne_true)]
  exact b
def Fact.slot : Fact → Option (List Key)
  | .row _ p _ _ => some [.inr "row", .inl p]
  | .dep m _ _ => some [.inr "deposit", .inl m]
  | .ans _ p q => some [.inr "answer", .inl p, .inl q]
  | _ => none
def spSlot : Sp := fun vs H Q _ => ∃ (a : Addr) (f : Fact), vs = [.ref a] ∧ FAt H a f ∧ ∀ (H' : Hp) (v : V), Ext H H' → Gdo.KeyAt H' v f.slot → Q v H'
theorem scSlot : FnScope ["fact", "kind"] ["fact"] (defScope sSlot) := ⟨rfl, rfl, rfl, by decide +kernel, rfl, by decide +kernel, by decide +kernel⟩
theorem at2a (b : Bool) (p q : Int) : atI (Fact.ans b p q).vals 2 = some (.int q) := (show atI (Fact.ans b p q).vals ((2 : Nat) : Int) = _ from atI_nat rfl)
theorem ok_slot {f : Addr} {fd : FuncData} (F : Fun K "slot" "slot" sSlot f fd) (T : FactN K mg) : FnOk P w K mg base CX0 1 f fd ["fact"] spSlot := by
  refine F.ok scSlot (fun vs H Q E h => ?_) (fun cdv A outer s H vs Q E hr h => ?_)
  · obtain ⟨a, f, rfl, _⟩ := h
    rfl
  · obtain ⟨a, f, rfl, hf, k⟩ := h
    have hu := hu_of hr
    have nd := scSlot.nd
    obtain ⟨tR, gR, sR⟩ := T.rows
    obtain ⟨tA, gA, sA⟩ := T.answers
    refine ⟨_, pss_cons (ps_set (i := 1) nd rfl (.inl rfl) (pe_ix ix_tup (pv 0) pe_int (fun _ _ => rfl)))
      (pss_cons (ps_if (pt_cmpR op_in_seq (pv 1) (pe_glob (v := .ref tR) rfl gR rfl) rfl) (pss_one (ps_ret (pe_tup (pa_cons pe_str (pa_cons (pe_ix ix_tup (pv 0) pe_int (fun _ _ => rfl)) pa_nil))))) pss_nil)
      (pss_cons (ps_if (pt_cmpR op_eq (pv 1) pe_str (nomark _)) (pss_one (ps_ret (pe_tup (pa_cons pe_str (pa_cons (pe_ix ix_tup (pv 0) pe_int (fun _ _ => rfl)) pa_nil))))) pss_nil)
      (pss_cons (ps_if (pt_cmpR op_in_seq (pv 1) (pe_glob (v := .ref tA) rfl gA rfl) rfl) (pss_one (ps_ret (pe_tup (pa_cons pe_str (pa_cons (pe_ix ix_tup (pv 0) pe_int (fun _ _ => rfl)) (pa_cons (pe_ix ix_tup (pv 0) pe_int (fun _ _ => rfl)) pa_nil)))))) pss_nil)
      (pss_one (ps_ret pe_non))))), ?_⟩
    refine ⟨_, rfl, a, _, _, _, rfl, rfl, SqT.of hf, at0 f, ?_⟩
    refine ⟨_, rfl, tR, _, rfl, .inr (sR H), rfl, rfl, _, rfl, ?_⟩
    show if inV (.str (kinds f.tag)) [.str "spender", .str "request"] = true then _ else _
    rw [in_rows]
    cases f with
    | row b p n z =>
      refine iteS2 (by cases b <;> rfl) ?_
      refine ⟨_, rfl, a, _, _, _, rfl, rfl, SqT.of hf, at1 _, by show 2 ≤ sizeLine; decide, fun t ht => ?_⟩
      exact k _ _ (Ext.new ht) ⟨t, rfl, upd_same⟩
    | dep m n z =>
      refine iteN2 rfl ?_
      refine ⟨_, rfl, rfl, _, rfl, iteS2 (by show decide (V.str (kinds 2) = V.str "deposit") = true; decide +kernel) ?_⟩
      refine ⟨_, rfl, a, _, _, _, rfl, rfl, SqT.of hf, at1 _, by show 2 ≤ sizeLine; decide, fun t ht => ?_⟩
      exact k _ _ (Ext.new ht) ⟨t, rfl, upd_same⟩
    | rel p z =>
      refine iteN2 rfl ?_
      refine ⟨_, rfl, rfl, _, rfl, iteN2 (by show decide (V.str (kinds 3) = V.str "deposit") = false; decide +kernel) ?_⟩
      refine ⟨_, rfl, tA, _, rfl, .inr (sA H), rfl, rfl, _, rfl, ?_⟩
      show if inV (.str (kinds (Fact.rel p z).tag)) [.str "consent", .str "refuse"] = true then _ else _
      rw [in_ans]
      exact iteN2 rfl (k _ _ Ext.refl rfl)
    | wd p =>
      refine iteN2 rfl ?_
      refine ⟨_, rfl, rfl, _, rfl, iteN2 (by show decide (V.str (kinds 4) = V.str "deposit") = false; decide +kernel) ?_⟩
      refine ⟨_, rfl, tA, _, rfl, .inr (sA H), rfl, rfl, _, rfl, ?_⟩
      show if inV (.str (kinds (Fact.wd p).tag)) [.str "consent", .str "refuse"] = true then _ else _
      rw [in_ans]
      exact iteN2 rfl (k _ _ Ext.refl rfl)
    | ans b p q =>
      refine iteN2 (by cases b <;> rfl) ?_
      refine ⟨_, rfl, rfl, _, rfl, iteN2 (by
        cases b
        · show decide (V.str (kinds 6) = V.str "deposit") = false; decide +kernel
        · show decide (V.str (kinds 5) = V.str "deposit") = false; decide +kernel) ?_⟩
      refine ⟨_, rfl, tA, _, rfl, .inr (sA H), rfl, rfl, _, rfl, ?_⟩
      show if inV (.str (kinds (Fact.ans b p q).tag)) [.str "consent", .str "refuse"] = true then _ else _
      rw [in_ans]
      refine iteS2 (by cases b <;> rfl) ?_
      refine ⟨_, rfl, a, _, _, _, rfl, rfl, SqT.of hf, at1 _, _, rfl, a, _, _, _, rfl, rfl, SqT.of hf, at2a b p q, by show 3 ≤ sizeLine; decide, fun t ht => ?_⟩
      exact k _ _ (Ext.new ht) ⟨t, rfl, upd_same⟩
end
end Lw

set_option Elab.async false
set_option linter.all false
set_option maxRecDepth 100000
set_option maxHeartbeats 4000000
namespace Lw
open L2 hiding Ext
open PySem PySem.Spec PyProof.Rows Gn Gr Gk Go Gt Gf Gu Gdw
abbrev sNtInit : Stmt := (cBody (top 39)).getD 0 (.Pass ⟨0, 0, 0, 0⟩)
abbrev sNtTwin : Stmt := (cBody (top 39)).getD 1 (.Pass ⟨0, 0, 0, 0⟩)
/-! ### what notes hold -/
def knownL (fs : List Fact) : List (List Key × V) := fs.map fun f => (f.ks, .bl true)
def takenL (fs : List Fact) : List (List Key × Fact) := fs.filterMap fun f => f.slot.map fun k => (k, f)
def rowK (s : Fin 7 × Int) : List Key := [.inr (kinds s.1), .inl s.2]
def suppS (acc : List (List Key × V)) (s : Fin 7 × Int) : List (List Key × V) := putK acc (rowK s) (.bl true)
def suppF (acc : List (List Key × V)) (f : Fact) : List (List Key × V) := f.sup.foldl suppS acc
def suppL (fs : List Fact) : List (List Key × V) := fs.foldl suppF []
def intAt {α : Type} [DecidableEq α] (acc : List (α × V)) (k : α) : Int := match valV acc k with
  | some (.int i) => i
  | _ => 0
def relS (acc : List (Key × V)) : Fact → List (Key × V)
  | .rel p z => putK acc (.inl p) (.int (if intAt acc (.inl p) > z then intAt acc (.inl p) else z))
  | _ => acc
def relL (fs : List Fact) : List (Key × V) := fs.foldl relS []
def depS (acc : List (Key × V)) : Fact → List (Key × V)
  | .dep _ n z => putK acc (.inr n) (.int (intAt acc (.inr n) + z))
  | _ => acc
def depL (fs : List Fact) : List (Key × V) := fs.foldl depS []
theorem putK_fst {α : Type} [DecidableEq α] (l : List (α × V)) (k : α) (v : V) : (putK l k v).map Prod.fst = if k ∈ l.map Prod.fst then l.map Prod.fst else l.map Prod.fst ++ [k] := by
  by_cases h : k ∈ l.map Prod.fst
  · rw [if_pos h]
    unfold putK
    rw [if_pos]
    · rw [List.map_map]
      refine List.map_congr_left fun p hp => ?_
      show (if p.1 = k then (p.1, v) else p).1 = p.1
      split <;> rfl
    · obtain ⟨p, hp, e⟩ := List.mem_map.mp h
      exact List.any_eq_true.mpr ⟨p, hp, decide_eq_true e⟩
  · rw [if_neg h, putK_app h, List.map_append]
    rfl
theorem putK_nodup {α : Type} [DecidableEq α] {l : List (α × V)} {k : α} {v : V} (h : (l.map Prod.fst).Nodup) : ((putK l k v).map Prod.fst).Nodup := by
  rw [putK_fst]
  split
  · exact h
  · rename_i n
    refine List.nodup_append.mpr ⟨h, (by simp), fun a ha b hb => ?_⟩
    rw [List.mem_singleton.mp hb]
    intro e
    exact n (e ▸ ha)
theorem putK_len {α : Type} [DecidableEq α] (l : List (α × V)) (k : α) (v : V) : (putK l k v).length ≤ l.length + 1 := length_putK l k v
theorem sup_len (f : Fact) : f.sup.length ≤ 2 := by cases f <;> (show _ ≤ 2) <;> simp [Fact.sup]
theorem suppS_fold (ss : List (Fin 7 × Int)) : ∀ acc : List (List Key × V), (acc.map Prod.fst).Nodup → ((ss.foldl suppS acc).map Prod.fst).Nodup ∧ (ss.foldl suppS acc).length ≤ acc.length + ss.length := by
  induction ss with
  | nil => exact fun acc h => ⟨h, Nat.le_refl _⟩
  | cons s r ih =>
    intro acc h
    obtain ⟨a, b⟩ := ih (suppS acc s) (putK_nodup h)
    have := putK_len acc (rowK s) (.bl true)
    refine ⟨a, Nat.le_trans b ?_⟩
    show (putK acc (rowK s) (.bl true)).length + _ ≤ _
    rw [List.length_cons]
    omega
theorem supp_fold (fs : List Fact) : ∀ acc : List (List Key × V), (acc.map Prod.fst).Nodup → ((fs.foldl suppF acc).map Prod.fst).Nodup ∧ (fs.foldl suppF acc).length ≤ acc.length + 2 * fs.length := by
  induction fs with
  | nil => exact fun acc h => ⟨h, Nat.le_refl _⟩
  | cons f r ih =>
    intro acc h
    obtain ⟨c, d⟩ := suppS_fold f.sup acc h
    obtain ⟨a, b⟩ := ih (suppF acc f) c
    have := sup_len f
    have d : (suppF acc f).length ≤ _ := d
    exact ⟨a, by rw [List.length_cons]; exact Nat.le_trans b (by omega)⟩
theorem supp_nodup (fs : List Fact) : ((suppL fs).map Prod.fst).Nodup := (supp_fold fs [] List.nodup_nil).1
theorem supp_len (fs : List Fact) : (suppL fs).length ≤ 2 * fs.length := by
  have := (supp_fold fs [] List.nodup_nil).2
  rw [List.length_nil, Nat.zero_add] at this
  exact this
theorem known_nodup {fs : List Fact} (h : fs.Nodup) : ((knownL fs).map Prod.fst).Nodup := by
  unfold knownL
  rw [List.map_map]
  exact List.Pairwise.map _ (fun a b ne z => ne (ks_inj z)) h
theorem taken_len (fs : List Fact) : (takenL fs).length ≤ fs.length := List.length_filterMap_le _ _
/-! ### where they stand -/
structure NC (K : PySem.W.Frag) (CN : Addr) : Prop where
  cl : Cls K CN
  n1 : NoAttr K CN "known"
  n2 : NoAttr K CN "taken"
  n3 : NoAttr K CN "supposed"
  n4 : NoAttr K CN "released"
  n5 : NoAttr K CN "deposited"
def TakenAt (H : Hp) (tv : List (List Key × V)) (ts : List (List Key × Fact)) : Prop := Paired (fun p q => p.1 = q.1 ∧ ∃ b, p.2 = .ref b ∧ FAt H b q.2) tv ts
theorem TakenAt.but {H H' : Hp} {tv : List (List Key × V)} {ts : List (List Key × Fact)} (h : TakenAt H tv ts) (k : ∀ b xs, H b = some (.tup xs) → H' b = some (.tup xs)) : TakenAt H' tv ts := by
  unfold TakenAt at h ⊢
  induction h with
  | nil => exact .nil
  | cons h _ ih => exact .cons (let ⟨e, b, e2, f⟩ := h; ⟨e, b, e2, k _ _ f⟩) ih
theorem TakenAt.keys {H : Hp} {tv : List (List Key × V)} {ts : List (List Key × Fact)} (h : TakenAt H tv ts) : tv.map Prod.fst = ts.map Prod.fst := by
  unfold TakenAt at h
  induction h with
  | nil => rfl
  | cons h _ ih => rw [List.map_cons, List.map_cons, ih, h.1]
theorem TakenAt.val {H : Hp} {tv : List (List Key × V)} {ts : List (List Key × Fact)} (h : TakenAt H tv ts) (k : List Key) : (ts.find? (fun q => decide (q.1 = k)) = none ∧ valV tv k = none) ∨ ∃ q b, ts.find? (fun q => decide (q.1 = k)) = some q ∧ valV tv k = some (.ref b) ∧ FAt H b q.2 := by
  unfold TakenAt at h
  induction h with
  | nil => exact .inl ⟨rfl, rfl⟩
  | @cons p q ps qs h _ ih =>
    obtain ⟨e, b, e2, f⟩ := h
    obtain ⟨pk, pv⟩ := p
    cases e2
    by_cases hk : q.1 = k
    · refine .inr ⟨q, b, ?_, valV_pos (e.trans hk), f⟩
      rw [List.find?_cons_of_pos (p := fun q : List Key × Fact => decide (q.1 = k)) (decide_eq_true hk)]
    · rw [List.find?_cons_of_neg (p := fun q : List Key × Fact => decide (q.1 = k)) (by simpa using hk), valV_neg (fun z => hk (e.symm.trans z))]
      exact ih
structure NtAt (CN : Addr) (H : Hp) (a : Addr) (fs : List Fact) (k t s r d : Addr) : Prop where
  obj : ∃ dx, H a = some (.ins CN dx [("known", .ref k), ("taken", .ref t), ("supposed", .ref s), ("released", .ref r), ("deposited", .ref d)])
  hk : H k = some (.dT (knownL fs))
  ht : ∃ tv, H t = some (.dT tv) ∧ TakenAt H tv (takenL fs)
  hs : H s = some (.dT (suppL fs))
  hr : H r = some (.dK (relL fs))
  hd : H d = some (.dK (depL fs))
  kt : k ≠ t
  ks : k ≠ s
  ts : t ≠ s
  rd : r ≠ d
  nd : fs.Nodup
  tn : ((takenL fs).map Prod.fst).Nodup
  len : fs.length ≤ 100000
  ok : ∀ f ∈ fs, f.ok
theorem NtAt.ext {CN a k t s r d : Addr} {H H' : Hp} {fs : List Fact} (h : NtAt CN H a fs k t s r d) (e : Ext H H') : NtAt CN H' a fs k t s r d :=
  { h with obj := let ⟨dx, o⟩ := h.obj; ⟨dx, e _ _ o⟩, hk := e _ _ h.hk, ht := let ⟨tv, a, b⟩ := h.ht; ⟨tv, e _ _ a, b.but fun b xs z => e _ _ z⟩, hs := e _ _ h.hs, hr := e _ _ h.hr, hd := e _ _ h.hd }
section
variable {P : Program} {w : World} {K : PySem.W.Frag} {mg : Str → Option Value} {base : Heap} {CN : Addr}
/-! ### Notes.__init__ -/
def spNtInit (CN : Addr) : Sp := fun vs H Q _ => ∃ (x dx : Addr), vs = [.ref x] ∧ H x = some (.ins CN dx []) ∧
  ∀ H' k t s r d, (∀ a o, a ≠ x → H a = some o → H' a = some o) → NtAt CN H' x [] k t s r d → H k = none → H t = none → H s = none → H r = none → H d = none → Q .non H'
theorem scNtInit : FnScope ["self"] ["self"] (defScope sNtInit) := ⟨rfl, rfl, rfl, by decide +kernel, rfl, by decide +kernel, by decide +kernel⟩
theorem ok_ntInit {f : Addr} {fd : FuncData} (F : Fun K "__init__" "Notes.__init__" sNtInit f fd) (Z : NC K CN) : FnOk P w K mg base CX0 1 f fd ["self"] (spNtInit CN) := by
  refine F.ok scNtInit (fun vs H Q E h => ?_) (fun cdv A outer s H vs Q E hr h => ?_)
  · obtain ⟨x, dx, rfl, _⟩ := h
    rfl
  · obtain ⟨x, dx, rfl, hx, q⟩ := h
    refine ⟨_, pss_cons (ps_fld (pv 0) pe_dnewT rfl) (pss_cons (ps_fld (pv 0) pe_dnewT rfl) (pss_cons (ps_fld (pv 0) pe_dnewT rfl) (pss_cons (ps_fld (pv 0) pe_dnewK rfl) (pss_one (ps_fld (pv 0) pe_dnewK rfl))))), ?_⟩
    intro k hk
    have x1 := new_same (o := .dT []) hk _ _ hx
    refine ⟨_, rfl, x, CN, dx, [], rfl, x1, Z.cl, Z.n1, by decide, ?_⟩
    intro t ht
    have nx : ∀ {b : Addr} {h : Hp}, h x = some (.ins CN dx []) → h b = none → b ≠ x := fun h1 h2 e => by rw [e, h1] at h2; cases h2
    have kx : k ≠ x := nx hx hk
    have tx : t ≠ x := fun e => by rw [e, upd_same] at ht; cases ht
    have tk : t ≠ k := fun e => by rw [e, upd_ne kx, upd_same] at ht; cases ht
    refine ⟨_, rfl, x, CN, dx, [("known", .ref k)], rfl, by rw [upd_ne (Ne.symm tx), upd_same]; rfl, Z.cl, Z.n2, by show 1 < 1000; decide, ?_⟩
    intro s hs
    have sx : s ≠ x := fun e => by rw [e, upd_same] at hs; cases hs
    have st : s ≠ t := fun e => by rw [e, upd_ne tx, upd_same] at hs; cases hs
    have sk : s ≠ k := fun e => by rw [e, upd_ne kx, upd_ne (Ne.symm tk), upd_ne kx, upd_same] at hs; cases hs
    refine ⟨_, rfl, x, CN, dx, [("known", .ref k), ("taken", .ref t)], rfl, by rw [upd_ne (Ne.symm sx), upd_same]; rfl, Z.cl, Z.n3, by show 2 < 1000; decide, ?_⟩
    intro r hr'
    have rx : r ≠ x := fun e => by rw [e, upd_same] at hr'; cases hr'
    have rs : r ≠ s := fun e => by rw [e, upd_ne sx, upd_same] at hr'; cases hr'
    have rt : r ≠ t := fun e => by rw [e, upd_ne tx, upd_ne (Ne.symm st), upd_ne tx, upd_same] at hr'; cases hr'
    have rk : r ≠ k := fun e => by rw [e, upd_ne kx, upd_ne (Ne.symm sk), upd_ne kx, upd_ne (Ne.symm tk), upd_ne kx, upd_same] at hr'; cases hr'
    refine ⟨_, rfl, x, CN, dx, [("known", .ref k), ("taken", .ref t), ("supposed", .ref s)], rfl, by rw [upd_ne (Ne.symm rx), upd_same]; rfl, Z.cl, Z.n4, by show 3 < 1000; decide, ?_⟩
    intro d hd
    have dx' : d ≠ x := fun e => by rw [e, upd_same] at hd; cases hd
    have dr : d ≠ r := fun e => by rw [e, upd_ne rx, upd_same] at hd; cases hd
    have ds : d ≠ s := fun e => by rw [e, upd_ne sx, upd_ne (Ne.symm rs), upd_ne sx, upd_same] at hd; cases hd
    have dt : d ≠ t := fun e => by rw [e, upd_ne tx, upd_ne (Ne.symm rt), upd_ne tx, upd_ne (Ne.symm st), upd_ne tx, upd_same] at hd; cases hd
    have dk : d ≠ k := fun e => by rw [e, upd_ne kx, upd_ne (Ne.symm rk), upd_ne kx, upd_ne (Ne.symm sk), upd_ne kx, upd_ne (Ne.symm tk), upd_ne kx, upd_same] at hd; cases hd
    refine ⟨_, rfl, x, CN, dx, [("known", .ref k), ("taken", .ref t), ("supposed", .ref s), ("released", .ref r)], rfl, by rw [upd_ne (Ne.symm dx'), upd_same]; rfl, Z.cl, Z.n5, by show 4 < 1000; decide, ?_⟩
    have low : ∀ b o, b ≠ x → H b = some o → b ≠ k ∧ b ≠ t ∧ b ≠ s ∧ b ≠ r ∧ b ≠ d := fun b o nb hb => by
      have h1 : b ≠ k := ne_of_none hb hk
      have h2 : b ≠ t := fun e => by rw [← e, upd_ne nb, upd_ne h1, hb] at ht; cases ht
      have h3 : b ≠ s := fun e => by rw [← e, upd_ne nb, upd_ne h2, upd_ne nb, upd_ne h1, hb] at hs; cases hs
      have h4 : b ≠ r := fun e => by rw [← e, upd_ne nb, upd_ne h3, upd_ne nb, upd_ne h2, upd_ne nb, upd_ne h1, hb] at hr'; cases hr'
      have h5 : b ≠ d := fun e => by rw [← e, upd_ne nb, upd_ne h4, upd_ne nb, upd_ne h3, upd_ne nb, upd_ne h2, upd_ne nb, upd_ne h1, hb] at hd; cases hd
      exact ⟨h1, h2, h3, h4, h5⟩
    have no : ∀ b, b ≠ x → b = k ∨ b = t ∨ b = s ∨ b = r ∨ b = d → H b = none := fun b nb hb => by
      cases e : H b with
      | none => rfl
      | some o =>
        obtain ⟨h1, h2, h3, h4, h5⟩ := low b o nb e
        rcases hb with h | h | h | h | h
        · exact absurd h h1
        · exact absurd h h2
        · exact absurd h h3
        · exact absurd h h4
        · exact absurd h h5
    refine q _ k t s r d (fun b o nb hb => ?_) ⟨⟨dx, upd_same⟩, ?_, ⟨[], ?_, .nil⟩, ?_, ?_, ?_, Ne.symm tk, Ne.symm sk, Ne.symm st, Ne.symm dr, List.nodup_nil, List.nodup_nil, Nat.zero_le _, fun f hf => (by cases hf)⟩ (no k kx (.inl rfl)) (no t tx (.inr (.inl rfl))) (no s sx (.inr (.inr (.inl rfl)))) (no r rx (.inr (.inr (.inr (.inl rfl))))) (no d dx' (.inr (.inr (.inr (.inr rfl)))))
    · obtain ⟨h1, h2, h3, h4, h5⟩ := low b o nb hb
      rw [upd_ne nb, upd_ne h5, upd_ne nb, upd_ne h4, upd_ne nb, upd_ne h3, upd_ne nb, upd_ne h2, upd_ne nb, upd_ne h1]
      exact hb
    · rw [upd_ne kx, upd_ne (Ne.symm dk), upd_ne kx, upd_ne (Ne.symm rk), upd_ne kx, upd_ne (Ne.symm sk), upd_ne kx, upd_ne (Ne.symm tk), upd_ne kx, upd_same]
      rfl
    · rw [upd_ne tx, upd_ne (Ne.symm dt), upd_ne tx, upd_ne (Ne.symm rt), upd_ne tx, upd_ne (Ne.symm st), upd_ne tx, upd_same]
    · rw [upd_ne sx, upd_ne (Ne.symm ds), upd_ne sx, upd_ne (Ne.symm rs), upd_ne sx, upd_same]
      rfl
    · rw [upd_ne rx, upd_ne (Ne.symm dr), upd_ne rx, upd_same]
      rfl
    · rw [upd_ne dx', upd_same]
      rfl
end
end Lw

set_option Elab.async false
set_option linter.all false
set_option maxRecDepth 100000
set_option maxHeartbeats 4000000
namespace Lw
open L2 hiding Ext
open PySem PySem.Spec PyProof.Rows Gn Gr Gk Go Gt Gf Gu Gdw
/-! ### Notes.twin -/
theorem copy_fld {K : PySem.W.Frag} {σ : L2.St} {H : Hp} {a dx d CN : Addr} {fs : List (Str × V)} {fld : Str} {j : Nat} {tv : TE} {kvs : List (List Key × V)} {Q : VK} (f : List Key × V → V) (c : Cls K CN) (n : NoAttr K CN fld) (h0 : σ[0]? = some (some (.ref a)))
    (ha : H a = some (.ins CN dx fs)) (hf : fs.lookup fld = some (.ref d)) (hd : H d = some (.dT kvs)) (hn : (kvs.map Prod.fst).Nodup) (hl : kvs.length ≤ 1000000) (hw : ∀ x, wipe ((wipe σ [j]).set j (some x)) [j] = wipe σ [j]) (hj : ∀ x, ((wipe σ [j]).set j (some x))[j]? = some (some x))
    (hv : ∀ (od : Obj) (q : Addr) (kv : List Key × V) (H2 : Hp) (R : VK), kv ∈ kvs → Ext (upd H d (.frz od (.dT kvs))) H2 → H2 q = some (.tup (kv.1.map kV)) → R (f kv) H2 → tv ((wipe σ [j]).set j (some (.ref q))) H2 R)
    (h : ∀ H' D, Ext H H' → H D = none → H' D = some (.dT (kvs.map fun kv => (kv.1, f kv))) → Q (.ref D) H') : tLockE (tDt (iKeys (tFld K (tVar 0) fld)) (gName j) (tVar j) tv [j]) σ H Q := by
  have ad : a ≠ d := fun e => by rw [e, hd] at ha; cases ha
  refine ⟨d, _, hd, trivial, fun od => ?_⟩
  refine ⟨.ref a, h0, a, CN, dx, fs, .ref d, rfl, by rw [upd_ne ad]; exact ha, c, n, hf, d, od, rfl, .inr ⟨kvs, upd_same, fun D hD => ?_⟩⟩
  have Dd : D ≠ d := fun e => by rw [e, upd_same] at hD; cases hD
  refine dct_copy f hn hl upd_same hD hw hj (hv od) fun H' e hD' => ⟨e _ _ upd_same, h _ D (fun b o hb => ?_) (by rw [upd_ne Dd] at hD; exact hD) (by rw [upd_ne Dd]; exact hD')⟩
  by_cases eb : b = d
  · subst eb
    rw [upd_same]
    rw [hd] at hb
    exact hb
  · rw [upd_ne eb]
    exact e _ _ (by rw [upd_ne eb]; exact hb)
theorem NtAt.but {CN C' a k t s r d x ox : Addr} {H H' : Hp} {fs : List Fact} {fx : List (Str × V)} (h : NtAt CN H a fs k t s r d) (hx : H x = some (.ins C' ox fx)) (ax : a ≠ x) (e : ∀ b o, b ≠ x → H b = some o → H' b = some o) : NtAt CN H' a fs k t s r d :=
  { h with
    obj := let ⟨dx, o⟩ := h.obj; ⟨dx, e _ _ ax o⟩
    hk := e _ _ (ne_of h.hk hx (by intro z; cases z)) h.hk
    ht := let ⟨tv, a, b⟩ := h.ht; ⟨tv, e _ _ (ne_of a hx (by intro z; cases z)) a, b.but fun b xs z => e _ _ (ne_of z hx (by intro z; cases z)) z⟩
    hs := e _ _ (ne_of h.hs hx (by intro z; cases z)) h.hs
    hr := e _ _ (ne_of h.hr hx (by intro z; cases z)) h.hr
    hd := e _ _ (ne_of h.hd hx (by intro z; cases z)) h.hd }
theorem valV_mem {α : Type} [DecidableEq α] : ∀ {l : List (α × V)} {p : α × V}, (l.map Prod.fst).Nodup → p ∈ l → valV l p.1 = some p.2
  | [], _, _, h => by cases h
  | x :: t, p, hn, h => by
    obtain ⟨n1, n2⟩ := List.nodup_cons.mp hn
    rcases List.mem_cons.mp h with rfl | h
    · exact valV_pos rfl
    · show valV ((x.1, x.2) :: t) p.1 = _
      rw [valV_neg (fun e => n1 (by rw [e]; exact List.mem_map_of_mem h))]
      exact valV_mem n2 h
theorem putK_trues {α : Type} [DecidableEq α] {l : List (α × V)} {k : α} (h : ∀ p ∈ l, p.2 = .bl true) : ∀ p ∈ putK l k (.bl true), p.2 = .bl true := by
  intro p hp
  unfold putK at hp
  split at hp
  · obtain ⟨q, hq, rfl⟩ := List.mem_map.mp hp
    split
    · rfl
    · exact h q hq
  · rcases List.mem_append.mp hp with hp | hp
    · exact h p hp
    · rw [List.mem_singleton.mp hp]
theorem supp_true (fs : List Fact) : ∀ p ∈ suppL fs, p.2 = .bl true := by
  have one : ∀ (ss : List (Fin 7 × Int)) (acc : List (List Key × V)), (∀ p ∈ acc, p.2 = .bl true) → ∀ p ∈ ss.foldl suppS acc, p.2 = .bl true := fun ss => by
    induction ss with
    | nil => exact fun acc h => h
    | cons s r ih => exact fun acc h => ih _ (putK_trues h)
  have all : ∀ (fs : List Fact) (acc : List (List Key × V)), (∀ p ∈ acc, p.2 = .bl true) → ∀ p ∈ fs.foldl suppF acc, p.2 = .bl true := fun fs => by
    induction fs with
    | nil => exact fun acc h => h
    | cons f r ih => exact fun acc h => ih _ (one f.sup acc h)
  exact all fs [] (fun p hp => by cases hp)
theorem supp_trues (fs : List Fact) : ((suppL fs).map fun kv => (kv.1, V.bl true)) = suppL fs := by
  have h := supp_true fs
  generalize suppL fs = l at h ⊢
  induction l with
  | nil => rfl
  | cons p r ih =>
    rw [List.map_cons, ih fun q hq => h q (List.mem_cons_of_mem _ hq), ← h p (List.mem_cons_self ..)]
section
variable {P : Program} {w : World} {K : PySem.W.Frag} {mg : Str → Option Value} {base : Heap} {CN fNI : Addr} {fdNI : FuncData}
structure NMk (P : Program) (w : World) (K : PySem.W.Frag) (mg : Str → Option Value) (base : Heap) (CN fNI : Addr) (fdNI : FuncData) : Prop where
  Z : NC K CN
  make : Mk K CN fNI
  g : mg "Notes" = some (.ref CN)
  GI : FnOk P w K mg base CX0 1 fNI fdNI ["self"] (spNtInit CN)
  bI : Binds K fdNI ["self"] []
def spNtTwin (CN : Addr) : Sp := fun vs H Q _ => ∃ (a : Addr) (fs : List Fact) (k t s r d : Addr), vs = [.ref a] ∧ NtAt CN H a fs k t s r d ∧
  ∀ H' o k t s r d, Ext H H' → NtAt CN H' o fs k t s r d → H o = none → H k = none → H t = none → H s = none → H r = none → H d = none → Q (.ref o) H'
abbrev nNtTwin : List Str := ["self", "other", "fact", "held", "pair"]
theorem scNtTwin : FnScope nNtTwin ["self"] (defScope sNtTwin) := ⟨rfl, rfl, rfl, by decide +kernel, rfl, by decide +kernel, by decide +kernel⟩
theorem ok_ntTwin {f : Addr} {fd : FuncData} (F : Fun K "twin" "Notes.twin" sNtTwin f fd) (T : Names mg) (M : NMk P w K mg base CN fNI fdNI) : FnOk P w K mg base CX0 3 f fd ["self"] (spNtTwin CN) := by
  refine F.ok scNtTwin (fun vs H Q E h => ?_) (fun cdv A outer s H vs Q E hr h => ?_)
  · obtain ⟨a, fs, k, t, s, r, d, rfl, _⟩ := h
    rfl
  · obtain ⟨a, fs, k, t, su, r, d, rfl, N, q⟩ := h
    have hu := hu_of hr
    have nd := scNtTwin.nd
    have hu0 : (A.deeper (envOfC "Notes.twin" (defScope sNtTwin) s.heap.objs.size f cdv)).units < cLine := by have := hr.units; omega
    refine ⟨_, pss_cons (ps_set (i := 1) nd rfl (.inl rfl) (pe_make0 M.make M.GI hr rfl M.g M.bI .nil pass0))
      (pss_cons (ps_fld (pv 1) (pe_lock (pe_dct (own := [("fact", 2)]) (g := gName 2) hu0 rfl nd (pi_keys (pe_fld (pv 0) rfl)) (blkOk_by (N := nNtTwin) (sc := defScope sNtTwin) (by decide +kernel)) (fun _ _ _ _ _ => pg_name (i := 2) nd rfl (.inl rfl)) (fun _ _ _ _ _ => pv 2) (fun _ _ _ _ _ => pe_bl))) rfl)
      (pss_cons (ps_fld (pv 1) (pe_lock (pe_dct (own := [("held", 3)]) (g := gName 3) hu0 rfl nd (pi_keys (pe_fld (pv 0) rfl)) (blkOk_by (N := nNtTwin) (sc := defScope sNtTwin) (by decide +kernel)) (fun _ _ _ _ _ => pg_name (i := 3) nd rfl (.inl rfl)) (fun _ _ _ _ _ => pv 3) (fun _ _ _ _ _ => pe_dget (td := tFld K (tVar 0) "taken") hu (pe_fld (pv 0) rfl) (pv 3) (fun _ _ => rfl)))) rfl)
      (pss_cons (ps_fld (pv 1) (pe_lock (pe_dct (own := [("pair", 4)]) (g := gName 4) hu0 rfl nd (pi_keys (pe_fld (pv 0) rfl)) (blkOk_by (N := nNtTwin) (sc := defScope sNtTwin) (by decide +kernel)) (fun _ _ _ _ _ => pg_name (i := 4) nd rfl (.inl rfl)) (fun _ _ _ _ _ => pv 4) (fun _ _ _ _ _ => pe_bl))) rfl)
      (pss_cons (ps_fld (pv 1) (pe_callTy call_dictD rfl T.dict (by decide +kernel) (pa_cons (pe_fld (pv 0) rfl) pa_nil)) rfl)
      (pss_cons (ps_fld (pv 1) (pe_callTy call_dictD rfl T.dict (by decide +kernel) (pa_cons (pe_fld (pv 0) rfl) pa_nil)) rfl)
      (pss_one (ps_ret (pv 1)))))))), ?_⟩
    intro x dx hx hdx ne
    have kx : Ext H (upd (upd H dx (.own x)) x (.ins CN dx [])) := fun b o hb => by
      rw [upd_ne (ne_of_none hb hx), upd_ne (ne_of_none hb hdx)]
      exact hb
    refine ⟨x, dx, rfl, upd_same, fun H1 k1 t1 s1 r1 d1 e1 N1 m1 m2 m3 m4 m5 => ⟨rfl, ?_⟩⟩
    have e0 : Ext H H1 := fun b o hb => e1 _ _ (ne_of_none hb hx) (kx _ _ hb)
    have N' := N.ext e0
    obtain ⟨ox, hox⟩ := N1.obj
    obtain ⟨da, hda⟩ := N'.obj
    have xa : a ≠ x := fun e => by rw [e] at hda; obtain ⟨_, z⟩ := N.obj; rw [e, hx] at z; cases z
    have step : ∀ {Ha Hb : Hp} {fx : List (Str × V)}, Ext Ha Hb → ∀ b o, b ≠ x → Ha b = some o → (upd Hb x (.ins CN ox fx)) b = some o := fun e b o nb hb => by rw [upd_ne nb]; exact e _ _ hb
    have nx : ∀ {h : Hp} {fx : List (Str × V)} {D : Addr}, h x = some (.ins CN ox fx) → h D = none → D ≠ x := fun h1 h2 e => by rw [e, h1] at h2; cases h2
    have z6 : fs.length ≤ 100000 := N'.len
    -- known
    dsimp only [gName, tSeq, sFld, List.set]
    refine copy_fld (j := 2) (tv := tC (.bl true)) (fun _ => .bl true) M.Z.cl M.Z.n1 ?g0 hda ?g1 N'.hk (known_nodup N'.nd) (by unfold knownL; rw [List.length_map]; omega) ?g2 ?g3 ?g4 (fun H2 D1 e2 hD1 c1 => ?_)
    case g0 => rfl
    case g1 => rfl
    case g2 => exact fun _ => rfl
    case g3 => exact fun _ => rfl
    case g4 => exact fun _ _ _ _ _ _ _ _ h => h
    refine ⟨_, rfl, x, CN, ox, _, rfl, e2 _ _ hox, M.Z.cl, M.Z.n1, by show 5 < 1000; decide, ?_⟩
    have D1x := nx hox hD1
    have o3 : (upd H2 x (.ins CN ox (putF "known" (.ref D1) [("known", .ref k1), ("taken", .ref t1), ("supposed", .ref s1), ("released", .ref r1), ("deposited", .ref d1)]))) x = some (.ins CN ox [("known", .ref D1), ("taken", .ref t1), ("supposed", .ref s1), ("released", .ref r1), ("deposited", .ref d1)]) := upd_same
    have b3 := step (fx := putF "known" (.ref D1) [("known", .ref k1), ("taken", .ref t1), ("supposed", .ref s1), ("released", .ref r1), ("deposited", .ref d1)]) e2
    have c1 : (upd H2 x (.ins CN ox (putF "known" (.ref D1) [("known", .ref k1), ("taken", .ref t1), ("supposed", .ref s1), ("released", .ref r1), ("deposited", .ref d1)]))) D1 = some (.dT (knownL fs)) := by
      rw [upd_ne D1x, c1]
      unfold knownL
      rw [List.map_map]
      rfl
    generalize upd H2 x (.ins CN ox (putF "known" (.ref D1) [("known", .ref k1), ("taken", .ref t1), ("supposed", .ref s1), ("released", .ref r1), ("deposited", .ref d1)])) = H3 at o3 b3 c1 ⊢
    have N3 := N'.but hox xa b3
    obtain ⟨da3, hda3⟩ := N3.obj
    obtain ⟨tv, htv, hta⟩ := N3.ht
    have k0 : (tv.map Prod.fst).Nodup := by rw [hta.keys]; exact N3.tn
    have l0 : tv.length ≤ fs.length := by rw [Paired.length hta]; exact taken_len fs
    -- taken
    refine copy_fld (j := 3) (tv := tDGet (tFld K (tVar 0) "taken") (tVar 3)) (fun kv => kv.2) M.Z.cl M.Z.n2 ?g0 hda3 ?g1 htv k0 (by omega) ?g2 ?g3 ?g4 (fun H4 D2 e4 hD2 c2 => ?_)
    case g0 => rfl
    case g1 => rfl
    case g2 => exact fun _ => rfl
    case g3 => exact fun _ => rfl
    case g4 =>
      intro od q kv Hq R hm eq hq h
      have at_ : a ≠ t := ne_of hda3 htv (by intro z; cases z)
      refine ⟨_, rfl, a, CN, da3, _, _, rfl, eq _ _ (by rw [upd_ne at_]; exact hda3), M.Z.cl, M.Z.n2, rfl, _, rfl, t, kv.2, rfl, .inr ⟨tv, kv.1, q, .inr ⟨od, eq _ _ upd_same⟩, rfl, hq, (valV_mem k0 hm).symm⟩, h⟩
    refine ⟨_, rfl, x, CN, ox, _, rfl, e4 _ _ o3, M.Z.cl, M.Z.n2, by show 5 < 1000; decide, ?_⟩
    have D2x := nx o3 hD2
    have o5 : (upd H4 x (.ins CN ox (putF "taken" (.ref D2) [("known", .ref D1), ("taken", .ref t1), ("supposed", .ref s1), ("released", .ref r1), ("deposited", .ref d1)]))) x = some (.ins CN ox [("known", .ref D1), ("taken", .ref D2), ("supposed", .ref s1), ("released", .ref r1), ("deposited", .ref d1)]) := upd_same
    have b5 := step (fx := putF "taken" (.ref D2) [("known", .ref D1), ("taken", .ref t1), ("supposed", .ref s1), ("released", .ref r1), ("deposited", .ref d1)]) e4
    have c2 : (upd H4 x (.ins CN ox (putF "taken" (.ref D2) [("known", .ref D1), ("taken", .ref t1), ("supposed", .ref s1), ("released", .ref r1), ("deposited", .ref d1)]))) D2 = some (.dT tv) := by
      rw [upd_ne D2x, c2]
      have : (tv.map fun kv : List Key × V => (kv.1, kv.2)) = tv := List.map_id' tv
      rw [this]
    generalize upd H4 x (.ins CN ox (putF "taken" (.ref D2) [("known", .ref D1), ("taken", .ref t1), ("supposed", .ref s1), ("released", .ref r1), ("deposited", .ref d1)])) = H5 at o5 b5 c2 ⊢
    have D12 : D1 ≠ D2 := ne_of_none c1 hD2
    have c1 := b5 _ _ D1x c1
    have N5 := N3.but o3 xa b5
    have hta := hta.but fun b xs z => b5 _ _ (ne_of z o3 (by intro z; cases z)) z
    obtain ⟨da5, hda5⟩ := N5.obj
    have l1 := supp_len fs
    -- supposed
    refine copy_fld (j := 4) (tv := tC (.bl true)) (fun _ => .bl true) M.Z.cl M.Z.n3 ?g0 hda5 ?g1 N5.hs (supp_nodup fs) (by omega) ?g2 ?g3 ?g4 (fun H6 D3 e6 hD3 c3 => ?_)
    case g0 => rfl
    case g1 => rfl
    case g2 => exact fun _ => rfl
    case g3 => exact fun _ => rfl
    case g4 => exact fun _ _ _ _ _ _ _ _ h => h
    refine ⟨_, rfl, x, CN, ox, _, rfl, e6 _ _ o5, M.Z.cl, M.Z.n3, by show 5 < 1000; decide, ?_⟩
    have D3x := nx o5 hD3
    have o7 : (upd H6 x (.ins CN ox (putF "supposed" (.ref D3) [("known", .ref D1), ("taken", .ref D2), ("supposed", .ref s1), ("released", .ref r1), ("deposited", .ref d1)]))) x = some (.ins CN ox [("known", .ref D1), ("taken", .ref D2), ("supposed", .ref D3), ("released", .ref r1), ("deposited", .ref d1)]) := upd_same
    have b7 := step (fx := putF "supposed" (.ref D3) [("known", .ref D1), ("taken", .ref D2), ("supposed", .ref s1), ("released", .ref r1), ("deposited", .ref d1)]) e6
    have c3 : (upd H6 x (.ins CN ox (putF "supposed" (.ref D3) [("known", .ref D1), ("taken", .ref D2), ("supposed", .ref s1), ("released", .ref r1), ("deposited", .ref d1)]))) D3 = some (.dT (suppL fs)) := by
      rw [upd_ne D3x, c3, supp_trues]
    generalize upd H6 x (.ins CN ox (putF "supposed" (.ref D3) [("known", .ref D1), ("taken", .ref D2), ("supposed", .ref s1), ("released", .ref r1), ("deposited", .ref d1)])) = H7 at o7 b7 c3 ⊢
    have D13 : D1 ≠ D3 := ne_of_none c1 hD3
    have D23 : D2 ≠ D3 := ne_of_none c2 hD3
    have c1 := b7 _ _ D1x c1
    have c2 := b7 _ _ D2x c2
    have N7 := N5.but o5 xa b7
    have hta := hta.but fun b xs z => b7 _ _ (ne_of z o5 (by intro z; cases z)) z
    obtain ⟨da7, hda7⟩ := N7.obj
    -- released
    refine ⟨_, rfl, a, CN, da7, _, _, rfl, hda7, M.Z.cl, M.Z.n4, rfl, _, _, rfl, .inl N7.hr, fun D4 hD4 => ?_⟩
    have e8 := Ext.new (o := .dK (relL fs)) hD4
    have c4 : (upd H7 D4 (.dK (relL fs))) D4 = some (.dK (relL fs)) := upd_same
    generalize upd H7 D4 (.dK (relL fs)) = H8 at e8 c4 ⊢
    refine ⟨_, rfl, x, CN, ox, _, rfl, e8 _ _ o7, M.Z.cl, M.Z.n4, by show 5 < 1000; decide, ?_⟩
    have D4x := nx o7 hD4
    have o9 : (upd H8 x (.ins CN ox (putF "released" (.ref D4) [("known", .ref D1), ("taken", .ref D2), ("supposed", .ref D3), ("released", .ref r1), ("deposited", .ref d1)]))) x = some (.ins CN ox [("known", .ref D1), ("taken", .ref D2), ("supposed", .ref D3), ("released", .ref D4), ("deposited", .ref d1)]) := upd_same
    have b9 := step (fx := putF "released" (.ref D4) [("known", .ref D1), ("taken", .ref D2), ("supposed", .ref D3), ("released", .ref r1), ("deposited", .ref d1)]) e8
    have c4 : (upd H8 x (.ins CN ox (putF "released" (.ref D4) [("known", .ref D1), ("taken", .ref D2), ("supposed", .ref D3), ("released", .ref r1), ("deposited", .ref d1)]))) D4 = some (.dK (relL fs)) := by rw [upd_ne D4x, c4]
    generalize upd H8 x (.ins CN ox (putF "released" (.ref D4) [("known", .ref D1), ("taken", .ref D2), ("supposed", .ref D3), ("released", .ref r1), ("deposited", .ref d1)])) = H9 at o9 b9 c4 ⊢
    have c1 := b9 _ _ D1x c1
    have c2 := b9 _ _ D2x c2
    have c3 := b9 _ _ D3x c3
    have N9 := N7.but o7 xa b9
    have hta := hta.but fun b xs z => b9 _ _ (ne_of z o7 (by intro z; cases z)) z
    obtain ⟨da9, hda9⟩ := N9.obj
    -- deposited
    refine ⟨_, rfl, a, CN, da9, _, _, rfl, hda9, M.Z.cl, M.Z.n5, rfl, _, _, rfl, .inl N9.hd, fun D5 hD5 => ?_⟩
    have e10 := Ext.new (o := .dK (depL fs)) hD5
    have c5 : (upd H9 D5 (.dK (depL fs))) D5 = some (.dK (depL fs)) := upd_same
    generalize upd H9 D5 (.dK (depL fs)) = H10 at e10 c5 ⊢
    refine ⟨_, rfl, x, CN, ox, _, rfl, e10 _ _ o9, M.Z.cl, M.Z.n5, by show 5 < 1000; decide, ?_⟩
    have D5x := nx o9 hD5
    have o11 : (upd H10 x (.ins CN ox (putF "deposited" (.ref D5) [("known", .ref D1), ("taken", .ref D2), ("supposed", .ref D3), ("released", .ref D4), ("deposited", .ref d1)]))) x = some (.ins CN ox [("known", .ref D1), ("taken", .ref D2), ("supposed", .ref D3), ("released", .ref D4), ("deposited", .ref D5)]) := upd_same
    have b11 := step (fx := putF "deposited" (.ref D5) [("known", .ref D1), ("taken", .ref D2), ("supposed", .ref D3), ("released", .ref D4), ("deposited", .ref d1)]) e10
    have c5 : (upd H10 x (.ins CN ox (putF "deposited" (.ref D5) [("known", .ref D1), ("taken", .ref D2), ("supposed", .ref D3), ("released", .ref D4), ("deposited", .ref d1)]))) D5 = some (.dK (depL fs)) := by rw [upd_ne D5x, c5]
    generalize upd H10 x (.ins CN ox (putF "deposited" (.ref D5) [("known", .ref D1), ("taken", .ref D2), ("supposed", .ref D3), ("released", .ref D4), ("deposited", .ref d1)])) = H11 at o11 b11 c5 ⊢
    have D45 : D4 ≠ D5 := ne_of_none c4 hD5
    have hta := hta.but fun b xs z => b11 _ _ (ne_of z o9 (by intro z; cases z)) z
    have bx : ∀ b o, H b = some o → b ≠ x := fun b o hb => ne_of_none hb hx
    have u3 : ∀ b o, H b = some o → H3 b = some o := fun b o hb => b3 _ _ (bx _ _ hb) (e0 _ _ hb)
    have u5 : ∀ b o, H b = some o → H5 b = some o := fun b o hb => b5 _ _ (bx _ _ hb) (u3 _ _ hb)
    have u7 : ∀ b o, H b = some o → H7 b = some o := fun b o hb => b7 _ _ (bx _ _ hb) (u5 _ _ hb)
    have u9 : ∀ b o, H b = some o → H9 b = some o := fun b o hb => b9 _ _ (bx _ _ hb) (u7 _ _ hb)
    have no : ∀ {h : Hp} {D : Addr}, (∀ b o, H b = some o → h b = some o) → h D = none → H D = none := fun u z => by
      cases e : H _ with
      | none => rfl
      | some o => rw [u _ _ e] at z; cases z
    refine ⟨_, rfl, q H11 x D1 D2 D3 D4 D5 (fun b o hb => b11 _ _ (bx _ _ hb) (u9 _ _ hb)) ⟨⟨ox, o11⟩, b11 _ _ D1x c1, ⟨tv, b11 _ _ D2x c2, hta⟩, b11 _ _ D3x c3, b11 _ _ D4x c4, c5, D12, D13, D23, D45, N.nd, N.tn, N.len, N.ok⟩ hx (no e0 hD1) (no u3 hD2) (no u5 hD3) (no u7 hD4) (no u9 hD5)⟩
end
end Lw

set_option Elab.async false
set_option linter.all false
set_option maxRecDepth 100000
set_option maxHeartbeats 4000000
namespace Lw
open L2 hiding Ext
open PySem PySem.Spec PyProof.Rows Gn Gr Gk Go Gt Gf Gu Gdw
abbrev sNtRowAt : Stmt := (cBody (top 39)).getD 2 (.Pass ⟨0, 0, 0, 0⟩)
abbrev sNtRulesOut : Stmt := (cBody (top 39)).getD 3 (.Pass ⟨0, 0, 0, 0⟩)
def takenAt (fs : List Fact) (k : List Key) : Option Fact := ((takenL fs).find? fun q => decide (q.1 = k)).map (·.2)
def rowOf (fs : List Fact) (p : Int) : Option Fact := takenAt fs [.inr "row", .inl p]
def slotHit (fs : List Fact) (f : Fact) : Bool := match f.slot.bind (takenAt fs) with
  | some g => !decide (g = f)
  | none => false
def rowHit (fs : List Fact) (f : Fact) (t : Fin 7) : Bool := !decide (t = f.tag) && (valV (suppL fs) (rowK (t, f.n1))).isSome
def supHit (fs : List Fact) (f : Fact) (s : Fin 7 × Int) : Bool := match rowOf fs s.2 with
  | some g => contr g f
  | none => false
/-- does what is known rule a fact out -/
def ruled (fs : List Fact) (f : Fact) : Bool := slotHit fs f || (if f.tag.val < 2 then ([0, 1] : List (Fin 7)).any (rowHit fs f) else f.sup.any (supHit fs f))
/-- a fact, or None -/
def FactV (H : Hp) (v : V) : Option Fact → Prop
  | some f => ∃ b, v = .ref b ∧ FAt H b f
  | none => v = .non
theorem FactV.ext {H H' : Hp} {v : V} {o : Option Fact} (h : FactV H v o) (k : Ext H H') : FactV H' v o := by
  cases o with
  | none => exact h
  | some f => obtain ⟨b, e, hb⟩ := h; exact ⟨b, e, k _ _ hb⟩
theorem TakenAt.of {H : Hp} {tv : List (List Key × V)} {fs : List Fact} (h : TakenAt H tv (takenL fs)) (k : List Key) : FactV H ((valV tv k).getD .non) (takenAt fs k) ∧ (valV tv k = none ↔ takenAt fs k = none) := by
  unfold takenAt
  rcases h.val k with ⟨h1, h2⟩ | ⟨q, b, h1, h2, h3⟩
  · rw [h1, h2]
    exact ⟨rfl, ⟨fun _ => rfl, fun _ => rfl⟩⟩
  · rw [h1, h2]
    exact ⟨⟨b, rfl, h3⟩, ⟨fun e => (by cases e), fun e => (by cases e)⟩⟩
theorem taken_mem {fs : List Fact} {k : List Key} {g : Fact} (h : takenAt fs k = some g) : g ∈ fs ∧ g.slot = some k := by
  unfold takenAt at h
  obtain ⟨q, hq, rfl⟩ := Option.map_eq_some_iff.mp h
  have h1 := List.mem_of_find?_eq_some hq
  have h2 := List.find?_some hq
  unfold takenL at h1
  obtain ⟨f, hf, e⟩ := List.mem_filterMap.mp h1
  obtain ⟨k', hk, rfl⟩ := Option.map_eq_some_iff.mp e
  have h2 : k' = k := of_decide_eq_true h2
  subst h2
  exact ⟨hf, hk⟩
section
variable {P : Program} {w : World} {K : PySem.W.Frag} {mg : Str → Option Value} {base : Heap} {CN : Addr}
/-! ### Notes.row_at -/
def spNtRowAt (CN : Addr) : Sp := fun vs H Q _ => ∃ (a : Addr) (p : Int) (fs : List Fact) (k t s r d : Addr), vs = [.ref a, .int p] ∧ NtAt CN H a fs k t s r d ∧ ∀ H' v, Ext H H' → FactV H' v (rowOf fs p) → Q v H'
abbrev nNtRowAt : List Str := ["self", "place"]
theorem scNtRowAt : FnScope nNtRowAt ["self", "place"] (defScope sNtRowAt) := ⟨rfl, rfl, rfl, by decide +kernel, rfl, by decide +kernel, by decide +kernel⟩
theorem ok_ntRowAt {f : Addr} {fd : FuncData} (F : Fun K "row_at" "Notes.row_at" sNtRowAt f fd) (Z : NC K CN) : FnOk P w K mg base CX0 1 f fd ["self", "place"] (spNtRowAt CN) := by
  refine F.ok scNtRowAt (fun vs H Q E h => ?_) (fun cdv A outer s H vs Q E hr h => ?_)
  · obtain ⟨a, p, fs, k, t, su, r, d, rfl, _⟩ := h
    rfl
  · obtain ⟨a, p, fs, k, t, su, r, d, rfl, N, q⟩ := h
    have hu := hu_of hr
    have nd := scNtRowAt.nd
    obtain ⟨dx, ho⟩ := N.obj
    obtain ⟨tv, htv, hta⟩ := N.ht
    refine ⟨_, pss_one (ps_ret (pe_dget1 hu (pe_fld (pv 0) rfl) (pe_tup (pa_cons pe_str (pa_cons (pv 1) pa_nil))) ⟨rfl, rfl, rfl, rfl⟩)), ?_⟩
    refine ⟨_, rfl, a, CN, dx, _, _, rfl, ho, Z.cl, Z.n2, rfl, t, rfl, .inr ⟨tv, .inl htv⟩, _, rfl, by show 2 ≤ sizeLine; decide, fun b hb => ?_⟩
    have e := Ext.new (o := .tup [.str "row", .int p]) hb
    exact ⟨_, DGet.t (k := [.inr "row", .inl p]) (e _ _ htv) upd_same, q _ _ e (((hta.of [.inr "row", .inl p]).1).ext e)⟩
/-! ### Notes.rules_out -/
def spNtRules (CN : Addr) : Sp := fun vs H Q _ => ∃ (a p : Addr) (f : Fact) (fs : List Fact) (k t s r d : Addr), vs = [.ref a, .ref p] ∧ NtAt CN H a fs k t s r d ∧ FAt H p f ∧ f.ok ∧ ∀ H', Ext H H' → Q (.bl (ruled fs f)) H'
abbrev nNtRulesOut : List Str := ["self", "fact", "rows", "kind", "_", "place", "row"]
theorem scNtRulesOut : FnScope nNtRulesOut ["self", "fact"] (defScope sNtRulesOut) := ⟨rfl, rfl, rfl, by decide +kernel, rfl, by decide +kernel, by decide +kernel⟩
theorem ok_ntRules {f0 fS fU fC fR : Addr} {fd fdS fdU fdC fdR : FuncData} (F : Fun K "rules_out" "Notes.rules_out" sNtRulesOut f0 fd) (T : FactN K mg) (M : NC K CN) (mRo : Meth K CN "row_at" fR)
    (GS : FnOk P w K mg base CX0 1 fS fdS ["fact"] spSlot) (bS : Binds K fdS ["fact"] []) (kS : PySem.W.keepIn K (.ref fS) = true) (mS : mg "slot" = some (.ref fS))
    (GU : FnOk P w K mg base CX0 1 fU fdU ["fact"] spSup) (bU : Binds K fdU ["fact"] []) (kU : PySem.W.keepIn K (.ref fU) = true) (mU : mg "supposed_rows" = some (.ref fU))
    (GC : FnOk P w K mg base CX0 2 fC fdC ["row", "fact"] spContr) (bC : Binds K fdC ["row", "fact"] []) (kC : PySem.W.keepIn K (.ref fC) = true) (mC : mg "contradicts" = some (.ref fC))
    (GR : FnOk P w K mg base CX0 1 fR fdR ["self", "place"] (spNtRowAt CN)) (bR : Binds K fdR ["self", "place"] []) : FnOk P w K mg base CX0 3 f0 fd ["self", "fact"] (spNtRules CN) := by
  refine F.ok scNtRulesOut (fun vs H Q E h => ?_) (fun cdv A outer s H vs Q E hr h => ?_)
  · obtain ⟨a, p, f, fs, k, t, su, r, d, rfl, _⟩ := h
    rfl
  · obtain ⟨a, p, f, fs, k, t, su, r, d, rfl, N, hf, hok, q⟩ := h
    have hu := hu_of hr
    have nd := scNtRulesOut.nd
    have hu2 : (A.deeper (envOfC "Notes.rules_out" (defScope sNtRulesOut) s.heap.objs.size f0 cdv)).units + 2 < cLine := by have := hr.units; omega
    have hr2 : Room 2 (A.deeper (envOfC "Notes.rules_out" (defScope sNtRulesOut) s.heap.objs.size f0 cdv)) := hr
    have hr1 : Room 1 (A.deeper (envOfC "Notes.rules_out" (defScope sNtRulesOut) s.heap.objs.size f0 cdv)) := hr.mono (by decide)
    obtain ⟨tR, gR, sR⟩ := T.rows
    obtain ⟨dx, ho⟩ := N.obj
    obtain ⟨tv, htv, hta⟩ := N.ht
    refine ⟨_, pss_cons (ps_if (pt_cmpR (op_neD hr.units) (Gdo.pe_getN hu2 (pe_fld (pv 0) rfl) (pe_call GS hr1 rfl mS kS bS .nil pass0 (pa_cons (pv 1) pa_nil)) (pv 1) ⟨rfl, rfl, rfl, rfl⟩) (pv 1) (nomark _)) (pss_one (ps_ret pe_bl)) pss_nil)
(pss_cons (ps_if (pt_cmpR op_in_seq (pe_ix ix_tup (pv 1) pe_int (fun _ _ => rfl)) (pe_glob (v := .ref tR) rfl gR rfl) rfl) (pss_one (ps_ret (pe_callB (cr_any rfl) rfl T.any (by decide +kernel) (pa_cons (pe_lc (own := [("kind", 3)]) (g := gName 3) (tt := tYes) rfl nd (pi_tup (pe_glob (v := .ref tR) rfl gR rfl)) (blkOk_by (N := nNtRulesOut) (sc := defScope sNtRulesOut) (by decide +kernel))
(fun _ _ _ _ _ => pg_name (i := 3) nd rfl (.inl rfl)) (fun _ _ _ _ _ => pts_nil) (fun _ _ _ _ _ => (pe_and (pe_cmpR op_ne (pv 3) (pe_ix (r := rIxT K) ix_tup (pv 1) pe_int (fun _ _ => rfl)) (nomark _)) (pe_one (pe_cmp (pc_din (td := tFld K (tVar 0) "supposed") hu (pe_tup (pa_cons (pv 3) (pa_cons (pe_ix (r := rIxT K) ix_tup (pv 1) pe_int (fun _ _ => rfl)) pa_nil))) (pe_fld (pv 0) rfl))))))) pa_nil)))) pss_nil)
(pss_cons (ps_setLc (i := 2) (own := [("_", 4), ("place", 5)]) (g := gTup K 2 (gCons (gName 4) (gCons (gName 5) gNil))) (tt := tYes) rfl nd rfl rfl (sw_true rfl rfl rfl (by decide +kernel)) (pi_list (pe_call GU hr1 rfl mU kU bU .nil pass0 (pa_cons (pv 1) pa_nil))) (blkOk_by (N := nNtRulesOut) (sc := defScope sNtRulesOut) (by decide +kernel))
(fun _ _ _ _ _ => (by exact (pg_tup rfl (pgs_cons (pg_name (i := 4) nd rfl (.inl rfl)) (pgs_cons (pg_name (i := 5) nd rfl (.inl rfl)) pgs_nil))))) (fun _ _ _ _ _ => pts_nil) (fun _ _ _ _ _ => pe_meth (pv 0) M.cl mRo GR hr1 bR .nil pass0 (pa_cons (pv 5) pa_nil)))
(pss_one (ps_ret (pe_callB (cr_any rfl) rfl T.any (by decide +kernel) (pa_cons (pe_lc (own := [("row", 6)]) (g := gName 6) (tt := tYes) rfl nd (pi_list (pv 2)) (blkOk_by (N := nNtRulesOut) (sc := defScope sNtRulesOut) (by decide +kernel))
(fun _ _ _ _ _ => pg_name (i := 6) nd rfl (.inl rfl)) (fun _ _ _ _ _ => pts_nil) (fun _ _ _ _ _ => (pe_and (pe_cmpR op_notN (pv 6) pe_non (nomark _)) (pe_one (pe_call GC hr2 rfl mC kC bC .nil pass0 (pa_cons (pv 6) (pa_cons (pv 1) pa_nil))))))) pa_nil)))))), ?_⟩
    refine ⟨_, rfl, a, CN, dx, _, _, rfl, ho, M.cl, M.n2, rfl, t, rfl, .inr ⟨tv, .inl htv⟩, _, rfl, p, f, rfl, hf, fun H1 v k1 hv => ?_⟩
    have hf1 := hf.ext k1
    have hta1 := hta.but (H' := H1) fun b xs z => k1 _ _ z
    refine ⟨_, rfl, _, Gdo.GetN.at_ (k1 _ _ htv) hv, ?_⟩
    obtain ⟨g, b, eg, hg, gok, es⟩ : ∃ (g : Fact) (b : Addr), (f.slot.bind (valV tv)).getD (.ref p) = .ref b ∧ FAt H1 b g ∧ g.ok ∧ (!decide (g = f)) = slotHit fs f := by
      unfold slotHit
      cases e : f.slot with
      | none => exact ⟨f, p, rfl, hf1, hok, by simp⟩
      | some ky =>
        obtain ⟨z1, z2⟩ := hta1.of ky
        show ∃ (g : Fact) (b : Addr), (valV tv ky).getD (.ref p) = .ref b ∧ _
        cases e2 : takenAt fs ky with
        | none =>
          rw [z2.mpr e2]
          refine ⟨f, p, rfl, hf1, hok, ?_⟩
          simp [Option.bind, e2]
        | some g =>
          rw [e2] at z1
          cases e3 : valV tv ky with
          | none => rw [z2.mp e3] at e2; cases e2
          | some v' =>
            rw [e3] at z1
            obtain ⟨b, e4, hb⟩ := z1
            refine ⟨g, b, e4, hb, N.ok g (taken_mem e2).1, ?_⟩
            simp [Option.bind, e2]
    rw [eg]
    refine ⟨_, rfl, _, _, dp_fact hg, dp_fact hf1, shaped_fact gok, shaped_fact hok, _, rfl, ?_⟩
    rw [eqv_fact, es]
    refine ite2 (fun e => ?_) (fun n1 => ?_)
    · refine (?_ : Q _ _)
      have : ruled fs f = true := by unfold ruled; rw [e, Bool.true_or]
      rw [this] at q
      exact q _ k1
    have n1 : slotHit fs f = false := Bool.eq_false_iff.mpr n1
    have N1 := N.ext k1
    obtain ⟨dx1, ho1⟩ := N1.obj
    refine ⟨_, rfl, p, _, _, _, rfl, rfl, SqT.of hf1, at0 f, ?_⟩
    refine ⟨tR, _, rfl, .inr (sR H1), rfl, rfl, _, rfl, ?_⟩
    show if inV (.str (kinds f.tag)) [.str "spender", .str "request"] = true then _ else _
    rw [in_rows]
    refine ite2 (fun e2 => ?_) (fun n2 => ?_)
    · have e2 : f.tag.val < 2 := of_decide_eq_true e2
      refine ⟨tR, rfl, ⟨_, sR H1⟩, fun D hD => ?_⟩
      refine lc_tup (K := K) (a := tR) (xs := ([0, 1] : List (Fin 7)).map fun t => V.str (kinds t)) (fun i H' => H' D = some (.lst (((([0, 1] : List (Fin 7)).take i).map (rowHit fs f)).map V.bl)) ∧ Ext H1 H') ⟨upd_same, Ext.new hD⟩ (fun i H' _ _ => sR H') ?_ ?_
      · rintro i x H2 hx ⟨d2, k2⟩
        rw [List.getElem?_map] at hx
        obtain ⟨ty, hty, rfl⟩ := Option.map_eq_some_iff.mp hx
        have N2 := N1.ext k2
        obtain ⟨dx2, ho2⟩ := N2.obj
        have hf2 := hf1.ext k2
        have fin : ∀ (H3 : Hp) (c : Bool), Ext H2 H3 → rowHit fs f ty = c → ∃ ys, H3 D = some (.lst ys) ∧ ys.length < sizeLine ∧ (upd H3 D (.lst (ys ++ [V.bl c]))) D = some (.lst (((([0, 1] : List (Fin 7)).take (i + 1)).map (rowHit fs f)).map V.bl)) ∧ Ext H1 (upd H3 D (.lst (ys ++ [V.bl c]))) := fun H3 c k3 ec => by
          refine ⟨_, k3 _ _ d2, ?_, ?_, fun a o e => ?_⟩
          · rw [List.length_map, List.length_map, List.length_take]
            exact small1000 (by show min i 2 ≤ _; omega)
          · rw [upd_same, take_succ_map _ hty, List.map_append, ec]
            rfl
          · rw [upd_ne (ne_of_none e hD)]
            exact k3 _ _ (k2 a o e)
        refine ⟨rfl, yes_of ?_⟩
        refine ⟨_, rfl, _, rfl, p, _, _, _, rfl, rfl, SqT.of hf2, at0 f, rfl, _, rfl, ?_⟩
        rw [kind_eq]
        refine ite2 (fun e3 => ?_) (fun n3 => ?_)
        · refine ⟨_, rfl, _, rfl, p, _, _, _, rfl, rfl, SqT.of hf2, at1 f, by show 2 ≤ sizeLine; decide, fun b hb => ?_⟩
          have k3 := Ext.new (o := .tup [.str (kinds ty), .int f.n1]) hb
          refine ⟨_, rfl, a, CN, dx2, _, _, rfl, k3 _ _ ho2, M.cl, M.n3, rfl, su, _, rfl, DGet.t (k := rowK (ty, f.n1)) (k3 _ _ N2.hs) upd_same, ?_⟩
          refine fin _ _ k3 ?_
          unfold rowHit
          rw [e3, Bool.true_and]
        · refine fin _ _ Ext.refl ?_
          unfold rowHit
          rw [Bool.eq_false_iff.mpr n3, Bool.false_and]
      · rintro H2 ⟨d2, k2⟩
        refine ⟨D, _, rfl, SqL.of d2, ?_⟩
        have : ruled fs f = ([0, 1] : List (Fin 7)).any (rowHit fs f) := by
          unfold ruled
          rw [n1, if_pos e2, Bool.false_or]
        rw [this] at q
        have e5 : (((([0, 1] : List (Fin 7)).map fun t => V.str (kinds t)).length)) = 2 := rfl
        rw [e5, List.any_map]
        exact q _ (k1.trans k2)
    · have n2 : ¬ f.tag.val < 2 := fun h => n2 (decide_eq_true h)
      have hrl : ruled fs f = f.sup.any (supHit fs f) := by
        unfold ruled
        rw [n1, if_neg n2, Bool.false_or]
      rw [hrl] at q
      refine ⟨_, rfl, p, f, rfl, hf1, fun H2 l xs k2 hl hS => ?_⟩
      have N2 := N1.ext k2
      refine ⟨l, rfl, ⟨_, SqL.of hl⟩, fun D hD => ?_⟩
      refine lc_list (K := K) (a := l) (xs := xs) (fun i H' => (∃ ys, H' D = some (.lst ys) ∧ ys.length = i ∧ ∀ (j : Nat) (v : V), ys[j]? = some v → ∃ s, f.sup[j]? = some s ∧ FactV H' v (rowOf fs s.2)) ∧ Ext H2 H') ⟨⟨[], upd_same, rfl, fun j v h => by cases h⟩, Ext.new hD⟩ (fun i H' _ ⟨_, e⟩ => SqL.of (e _ _ hl)) ?_ ?_
      · rintro i x H3 hx ⟨⟨ys, d3, ly, hy⟩, k3⟩
        have hi : i < xs.length := (List.getElem?_eq_some_iff.mp hx).1
        have hi2 : i < f.sup.length := by rw [← hS.1]; exact hi
        have hsi := List.getElem?_eq_getElem hi2
        obtain ⟨tp, h1, h2⟩ := hS.2 i _ hsi
        rw [hx] at h1
        cases h1
        have N3 := N2.ext k3
        obtain ⟨dx3, ho3⟩ := N3.obj
        refine ⟨tp, _, rfl, SqT.of (k3 _ _ h2), rfl, _, _, rfl, _, _, rfl, rfl, rfl, yes_of ?_⟩
        refine ⟨_, rfl, a, dx3, _, rfl, ho3, rfl, _, rfl, a, f.sup[i].2, fs, k, t, su, r, d, rfl, N3, fun H4 v k4 hv => ?_⟩
        refine ⟨ys, k4 _ _ d3, by rw [ly]; have := sup_len f; exact small1000 (by omega), ⟨ys ++ [v], upd_same, by rw [List.length_append, ly]; rfl, fun j v' hj => ?_⟩, fun b o hb => by rw [upd_ne (ne_of_none hb hD)]; exact k4 _ _ (k3 _ _ hb)⟩
        have up : ∀ {w : V} {o : Option Fact}, FactV H4 w o → FactV (upd H4 D (.lst (ys ++ [v]))) w o := fun {w o} h => by
          cases o with
          | none => exact h
          | some g =>
            obtain ⟨b, e, hb⟩ := h
            exact ⟨b, e, by show (upd H4 D _) b = _; rw [upd_ne (ne_of hb (k4 _ _ d3) (by intro z; cases z))]; exact hb⟩
        by_cases hjl : j < ys.length
        · rw [List.getElem?_append_left hjl] at hj
          obtain ⟨s', e1, e2⟩ := hy j v' hj
          exact ⟨s', e1, up (e2.ext k4)⟩
        · have ej : j = ys.length := by
            have := (List.getElem?_eq_some_iff.mp hj).1
            rw [List.length_append] at this
            have : [v].length = 1 := rfl
            omega
          subst ej
          rw [List.getElem?_append_right (Nat.le_refl _), Nat.sub_self] at hj
          cases hj
          exact ⟨_, by rw [ly]; exact hsi, up hv⟩
      · rintro H3 ⟨⟨ys, d3, ly, hy⟩, k3⟩
        have hf3 := (hf1.ext k2).ext k3
        refine ⟨_, rfl, D, rfl, ⟨_, SqL.of d3⟩, fun D2 hD2 => ?_⟩
        have l5 : ys.length = f.sup.length := by rw [ly, hS.1]
        refine lc_list (K := K) (a := D) (xs := ys) (fun i H' => H' D2 = some (.lst (((f.sup.take i).map (supHit fs f)).map V.bl)) ∧ Ext H3 H') ⟨upd_same, Ext.new hD2⟩ (fun i H' _ ⟨_, e⟩ => SqL.of (e _ _ d3)) ?_ ?_
        · rintro i x H4 hx ⟨d4, k4⟩
          obtain ⟨s', hs', hv⟩ := hy i x hx
          have hv := hv.ext k4
          have fin : ∀ (H5 : Hp) (c : Bool), Ext H4 H5 → supHit fs f s' = c → ∃ ys, H5 D2 = some (.lst ys) ∧ ys.length < sizeLine ∧ (upd H5 D2 (.lst (ys ++ [V.bl c]))) D2 = some (.lst (((f.sup.take (i + 1)).map (supHit fs f)).map V.bl)) ∧ Ext H3 (upd H5 D2 (.lst (ys ++ [V.bl c]))) := fun H5 c k5 ec => by
            refine ⟨_, k5 _ _ d4, ?_, ?_, fun a o e => ?_⟩
            · rw [List.length_map, List.length_map, List.length_take]
              have := sup_len f
              exact small1000 (by omega)
            · rw [upd_same, take_succ_map _ hs', List.map_append, ec]
              rfl
            · rw [upd_ne (ne_of_none e hD2)]
              exact k5 _ _ (k4 a o e)
          refine ⟨rfl, yes_of ?_⟩
          cases e6 : rowOf fs s'.2 with
          | none =>
            rw [e6] at hv
            obtain rfl : x = .non := hv
            refine ⟨_, rfl, rfl, _, rfl, iteNS rfl (fin _ _ Ext.refl ?_)⟩
            unfold supHit
            rw [e6]
          | some g =>
            rw [e6] at hv
            obtain ⟨b, rfl, hb⟩ := hv
            refine ⟨_, rfl, rfl, _, rfl, iteS2 rfl ?_⟩
            refine ⟨_, rfl, _, rfl, b, p, g, f, rfl, hb, hf3.ext k4, fun H5 k5 => fin _ _ k5 ?_⟩
            unfold supHit
            rw [e6]
        · rintro H4 ⟨d4, k4⟩
          refine ⟨D2, _, rfl, SqL.of d4, ?_⟩
          rw [l5, List.take_length, List.any_map]
          exact q _ (((k1.trans k2).trans k3).trans k4)
end
end Lw

set_option Elab.async false
set_option linter.all false
set_option maxRecDepth 100000
set_option maxHeartbeats 4000000
namespace Lw
open L2 hiding Ext
open PySem PySem.Spec PyProof.Rows Gn Gr Gk Go Gt Gf Gu Gdw
abbrev sNtTake : Stmt := (cBody (top 39)).getD 4 (.Pass ⟨0, 0, 0, 0⟩)
/-! ### Notes.take -/
def Ints {α : Type} (l : List (α × V)) : Prop := ∀ p ∈ l, ∃ i, p.2 = .int i
theorem putK_ints {α : Type} [DecidableEq α] {l : List (α × V)} {k : α} {i : Int} (h : Ints l) : Ints (putK l k (.int i)) := by
  intro p hp
  unfold putK at hp
  split at hp
  · obtain ⟨q, hq, rfl⟩ := List.mem_map.mp hp
    split
    · exact ⟨i, rfl⟩
    · exact h q hq
  · rcases List.mem_append.mp hp with hp | hp
    · exact h p hp
    · rw [List.mem_singleton.mp hp]
      exact ⟨i, rfl⟩
theorem int_at {α : Type} [DecidableEq α] {l : List (α × V)} (k : α) (h : Ints l) : (valV l k).getD (.int 0) = .int (intAt l k) := by
  unfold intAt
  cases e : valV l k with
  | none => rfl
  | some v =>
    unfold valV at e
    obtain ⟨q, hq, rfl⟩ := Option.map_eq_some_iff.mp e
    obtain ⟨i, e⟩ := h q (List.mem_of_find?_eq_some hq)
    rw [e]
    rfl
theorem rel_ints (fs : List Fact) : Ints (relL fs) ∧ (relL fs).length ≤ fs.length := by
  have all : ∀ (fs : List Fact) (acc : List (Key × V)), Ints acc → Ints (fs.foldl relS acc) ∧ (fs.foldl relS acc).length ≤ acc.length + fs.length := fun fs => by
    induction fs with
    | nil => exact fun acc h => ⟨h, Nat.le_refl _⟩
    | cons f r ih =>
      intro acc h
      have one : Ints (relS acc f) ∧ (relS acc f).length ≤ acc.length + 1 := by
        cases f with
        | rel p z => exact ⟨putK_ints h, putK_len _ _ _⟩
        | _ => exact ⟨h, Nat.le_succ _⟩
      obtain ⟨a, b⟩ := ih _ one.1
      exact ⟨a, by rw [List.length_cons]; exact Nat.le_trans b (by omega)⟩
  have := all fs [] (fun p hp => by cases hp)
  rw [List.length_nil, Nat.zero_add] at this
  exact this
theorem dep_ints (fs : List Fact) : Ints (depL fs) ∧ (depL fs).length ≤ fs.length := by
  have all : ∀ (fs : List Fact) (acc : List (Key × V)), Ints acc → Ints (fs.foldl depS acc) ∧ (fs.foldl depS acc).length ≤ acc.length + fs.length := fun fs => by
    induction fs with
    | nil => exact fun acc h => ⟨h, Nat.le_refl _⟩
    | cons f r ih =>
      intro acc h
      have one : Ints (depS acc f) ∧ (depS acc f).length ≤ acc.length + 1 := by
        cases f with
        | dep p n z => exact ⟨putK_ints h, putK_len _ _ _⟩
        | _ => exact ⟨h, Nat.le_succ _⟩
      obtain ⟨a, b⟩ := ih _ one.1
      exact ⟨a, by rw [List.length_cons]; exact Nat.le_trans b (by omega)⟩
  have := all fs [] (fun p hp => by cases hp)
  rw [List.length_nil, Nat.zero_add] at this
  exact this
/-- notes while they change -/
structure Nw (CN : Addr) (H : Hp) (a k t s r d : Addr) (kv tv sv : List (List Key × V)) (rv dv : List (Key × V)) : Prop where
  obj : ∃ dx, H a = some (.ins CN dx [("known", .ref k), ("taken", .ref t), ("supposed", .ref s), ("released", .ref r), ("deposited", .ref d)])
  hk : H k = some (.dT kv)
  ht : H t = some (.dT tv)
  hs : H s = some (.dT sv)
  hr : H r = some (.dK rv)
  hd : H d = some (.dK dv)
  kt : k ≠ t
  ks : k ≠ s
  ts : t ≠ s
  rd : r ≠ d
section
variable {CN a k t s r d : Addr} {H H' : Hp} {kv tv sv kv' : List (List Key × V)} {rv dv rv' : List (Key × V)}
theorem Nw.ext (h : Nw CN H a k t s r d kv tv sv rv dv) (e : Ext H H') : Nw CN H' a k t s r d kv tv sv rv dv :=
  { h with obj := let ⟨dx, o⟩ := h.obj; ⟨dx, e _ _ o⟩, hk := e _ _ h.hk, ht := e _ _ h.ht, hs := e _ _ h.hs, hr := e _ _ h.hr, hd := e _ _ h.hd }
theorem Nw.ne (h : Nw CN H a k t s r d kv tv sv rv dv) : a ≠ k ∧ a ≠ t ∧ a ≠ s ∧ a ≠ r ∧ a ≠ d ∧ r ≠ k ∧ r ≠ t ∧ r ≠ s ∧ d ≠ k ∧ d ≠ t ∧ d ≠ s := by
  obtain ⟨dx, o⟩ := h.obj
  refine ⟨ne_of o h.hk ?_, ne_of o h.ht ?_, ne_of o h.hs ?_, ne_of o h.hr ?_, ne_of o h.hd ?_, ne_of h.hr h.hk ?_, ne_of h.hr h.ht ?_, ne_of h.hr h.hs ?_, ne_of h.hd h.hk ?_, ne_of h.hd h.ht ?_, ne_of h.hd h.hs ?_⟩ <;> (intro z; cases z)
theorem Nw.pk (h : Nw CN H a k t s r d kv tv sv rv dv) : Nw CN (upd H k (.dT kv')) a k t s r d kv' tv sv rv dv := by
  obtain ⟨n1, n2, n3, n4, n5, n6, n7, n8, n9, n10, n11⟩ := h.ne
  exact { h with obj := let ⟨dx, o⟩ := h.obj; ⟨dx, by rw [upd_ne n1]; exact o⟩, hk := upd_same, ht := by rw [upd_ne (Ne.symm h.kt)]; exact h.ht, hs := by rw [upd_ne (Ne.symm h.ks)]; exact h.hs, hr := by rw [upd_ne n6]; exact h.hr, hd := by rw [upd_ne n9]; exact h.hd }
theorem Nw.pt (h : Nw CN H a k t s r d kv tv sv rv dv) : Nw CN (upd H t (.dT kv')) a k t s r d kv kv' sv rv dv := by
  obtain ⟨n1, n2, n3, n4, n5, n6, n7, n8, n9, n10, n11⟩ := h.ne
  exact { h with obj := let ⟨dx, o⟩ := h.obj; ⟨dx, by rw [upd_ne n2]; exact o⟩, ht := upd_same, hk := by rw [upd_ne h.kt]; exact h.hk, hs := by rw [upd_ne (Ne.symm h.ts)]; exact h.hs, hr := by rw [upd_ne n7]; exact h.hr, hd := by rw [upd_ne n10]; exact h.hd }
theorem Nw.ps (h : Nw CN H a k t s r d kv tv sv rv dv) : Nw CN (upd H s (.dT kv')) a k t s r d kv tv kv' rv dv := by
  obtain ⟨n1, n2, n3, n4, n5, n6, n7, n8, n9, n10, n11⟩ := h.ne
  exact { h with obj := let ⟨dx, o⟩ := h.obj; ⟨dx, by rw [upd_ne n3]; exact o⟩, hs := upd_same, hk := by rw [upd_ne h.ks]; exact h.hk, ht := by rw [upd_ne h.ts]; exact h.ht, hr := by rw [upd_ne n8]; exact h.hr, hd := by rw [upd_ne n11]; exact h.hd }
theorem Nw.pr (h : Nw CN H a k t s r d kv tv sv rv dv) : Nw CN (upd H r (.dK rv')) a k t s r d kv tv sv rv' dv := by
  obtain ⟨n1, n2, n3, n4, n5, n6, n7, n8, n9, n10, n11⟩ := h.ne
  exact { h with obj := let ⟨dx, o⟩ := h.obj; ⟨dx, by rw [upd_ne n4]; exact o⟩, hr := upd_same, hk := by rw [upd_ne (Ne.symm n6)]; exact h.hk, ht := by rw [upd_ne (Ne.symm n7)]; exact h.ht, hs := by rw [upd_ne (Ne.symm n8)]; exact h.hs, hd := by rw [upd_ne (Ne.symm h.rd)]; exact h.hd }
theorem Nw.pd (h : Nw CN H a k t s r d kv tv sv rv dv) : Nw CN (upd H d (.dK rv')) a k t s r d kv tv sv rv rv' := by
  obtain ⟨n1, n2, n3, n4, n5, n6, n7, n8, n9, n10, n11⟩ := h.ne
  exact { h with obj := let ⟨dx, o⟩ := h.obj; ⟨dx, by rw [upd_ne n5]; exact o⟩, hd := upd_same, hk := by rw [upd_ne (Ne.symm n9)]; exact h.hk, ht := by rw [upd_ne (Ne.symm n10)]; exact h.ht, hs := by rw [upd_ne (Ne.symm n11)]; exact h.hs, hr := by rw [upd_ne h.rd]; exact h.hr }
end
/-- all but five dicts stays -/
def Fr (k t s r d : Addr) (H H' : Hp) : Prop := ∀ b o, b ≠ k → b ≠ t → b ≠ s → b ≠ r → b ≠ d → H b = some o → H' b = some o
section
variable {k t s r d : Addr} {H H' H'' : Hp}
theorem Fr.trans (h : Fr k t s r d H H') (h' : Fr k t s r d H' H'') : Fr k t s r d H H'' := fun b o n1 n2 n3 n4 n5 e => h' b o n1 n2 n3 n4 n5 (h b o n1 n2 n3 n4 n5 e)
theorem Fr.ext (h : Ext H H') : Fr k t s r d H H' := fun b o _ _ _ _ _ e => h b o e
theorem Fr.put {x : Addr} {ob : HO} (h : x = k ∨ x = t ∨ x = s ∨ x = r ∨ x = d) : Fr k t s r d H (upd H x ob) := fun b o n1 n2 n3 n4 n5 e => by
  rw [upd_ne (by rcases h with rfl | rfl | rfl | rfl | rfl <;> assumption)]
  exact e
theorem Fr.tup {CN a : Addr} {kv tv sv : List (List Key × V)} {rv dv : List (Key × V)} {b : Addr} {xs : List V} (h : Fr k t s r d H H') (N : Nw CN H a k t s r d kv tv sv rv dv) (e : H b = some (.tup xs)) : H' b = some (.tup xs) :=
  h b _ (ne_of e N.hk (by intro z; cases z)) (ne_of e N.ht (by intro z; cases z)) (ne_of e N.hs (by intro z; cases z)) (ne_of e N.hr (by intro z; cases z)) (ne_of e N.hd (by intro z; cases z)) e
theorem Fr.lst {CN a : Addr} {kv tv sv : List (List Key × V)} {rv dv : List (Key × V)} {b : Addr} {xs : List V} (h : Fr k t s r d H H') (N : Nw CN H a k t s r d kv tv sv rv dv) (e : H b = some (.lst xs)) : H' b = some (.lst xs) :=
  h b _ (ne_of e N.hk (by intro z; cases z)) (ne_of e N.ht (by intro z; cases z)) (ne_of e N.hs (by intro z; cases z)) (ne_of e N.hr (by intro z; cases z)) (ne_of e N.hd (by intro z; cases z)) e
end
theorem NtAt.nw {CN a k t s r d : Addr} {H : Hp} {fs : List Fact} (h : NtAt CN H a fs k t s r d) : ∃ tv, Nw CN H a k t s r d (knownL fs) tv (suppL fs) (relL fs) (depL fs) ∧ TakenAt H tv (takenL fs) := by
  obtain ⟨tv, h1, h2⟩ := h.ht
  exact ⟨tv, ⟨h.obj, h.hk, h1, h.hs, h.hr, h.hd, h.kt, h.ks, h.ts, h.rd⟩, h2⟩
theorem known_snoc {fs : List Fact} {f : Fact} (h : f ∉ fs) : putK (knownL fs) f.ks (.bl true) = knownL (fs ++ [f]) := by
  rw [putK_app]
  · unfold knownL
    rw [List.map_append]
    rfl
  · unfold knownL
    rw [List.map_map]
    intro z
    obtain ⟨g, hg, e⟩ := List.mem_map.mp z
    exact h (ks_inj e ▸ hg)
theorem find_none_mem {ts : List (List Key × Fact)} {k : List Key} (h : ts.find? (fun q => decide (q.1 = k)) = none) : k ∉ ts.map Prod.fst := fun z => by
  obtain ⟨q, hq, e⟩ := List.mem_map.mp z
  have := List.find?_eq_none.mp h q hq
  exact this (decide_eq_true e)
/-- a fact that is not ruled out and not known has no slot that is taken -/
theorem slot_free {fs : List Fact} {f : Fact} {k : List Key} (h : ruled fs f = false) (hn : f ∉ fs) (hk : f.slot = some k) : k ∉ (takenL fs).map Prod.fst := by
  have h1 : slotHit fs f = false := by
    unfold ruled at h
    exact (Bool.or_eq_false_iff.mp h).1
  refine find_none_mem ?_
  cases e : (takenL fs).find? (fun q => decide (q.1 = k)) with
  | none => rfl
  | some q =>
    have e2 : takenAt fs k = some q.2 := by
      unfold takenAt
      rw [e]
      rfl
    unfold slotHit at h1
    rw [hk] at h1
    have h1 : (match takenAt fs k with | some g => !decide (g = f) | none => false) = false := h1
    rw [e2] at h1
    have h1 : (!decide (q.2 = f)) = false := h1
    have h3 : q.2 = f := by simpa using h1
    exact absurd (h3 ▸ (taken_mem e2).1) hn
theorem paired_snoc {α β : Type} {R : α → β → Prop} {as : List α} {bs : List β} {x : α} {y : β} (h : Paired R as bs) (h1 : R x y) : Paired R (as ++ [x]) (bs ++ [y]) := by
  induction h with
  | nil => exact .cons h1 .nil
  | cons h _ ih => exact .cons h ih
section
variable {P : Program} {w : World} {K : PySem.W.Frag} {mg : Str → Option Value} {base : Heap} {CN : Addr}
def spNtTake (CN : Addr) : Sp := fun vs H Q _ => ∃ (a p : Addr) (f : Fact) (fs : List Fact) (k t s r d : Addr), vs = [.ref a, .ref p] ∧ NtAt CN H a fs k t s r d ∧ FAt H p f ∧ f.ok ∧ f ∉ fs ∧ ruled fs f = false ∧ fs.length < 100000 ∧
  ∀ H', Fr k t s r d H H' → NtAt CN H' a (fs ++ [f]) k t s r d → Q .non H'
abbrev nNtTake : List Str := ["self", "fact", "pair"]
theorem scNtTake : FnScope nNtTake ["self", "fact"] (defScope sNtTake) := ⟨rfl, rfl, rfl, by decide +kernel, rfl, by decide +kernel, by decide +kernel⟩
theorem ok_ntTake {f0 fS fU : Addr} {fd fdS fdU : FuncData} (F : Fun K "take" "Notes.take" sNtTake f0 fd) (T : FactN K mg) (M : NC K CN)
    (GS : FnOk P w K mg base CX0 1 fS fdS ["fact"] spSlot) (bS : Binds K fdS ["fact"] []) (kS : PySem.W.keepIn K (.ref fS) = true) (mS : mg "slot" = some (.ref fS))
    (GU : FnOk P w K mg base CX0 1 fU fdU ["fact"] spSup) (bU : Binds K fdU ["fact"] []) (kU : PySem.W.keepIn K (.ref fU) = true) (mU : mg "supposed_rows" = some (.ref fU)) : FnOk P w K mg base CX0 2 f0 fd ["self", "fact"] (spNtTake CN) := by
  refine F.ok scNtTake (fun vs H Q E h => ?_) (fun cdv A outer s H vs Q E hr h => ?_)
  · obtain ⟨a, p, f, fs, k, t, su, r, d, rfl, _⟩ := h
    rfl
  · obtain ⟨a, p, f, fs, k, t, su, r, d, rfl, N, hf, hok, hn, hru, hlen, q⟩ := h
    have hu := hu_of hr
    have nd := scNtTake.nd
    have hr1 : Room 1 (A.deeper (envOfC "Notes.take" (defScope sNtTake) s.heap.objs.size f0 cdv)) := hr
    obtain ⟨tv, W0, hta⟩ := N.nw
    obtain ⟨dx, ho⟩ := N.obj
    have z5 : 1000000 < sizeLine := by rw [sizeLine_eq]; decide
    refine ⟨_, pss_cons (ps_dput hu (pe_fld (pv 0) rfl) (pv 1) pe_bl rfl)
(pss_cons (ps_if (pt_cmpR op_notN (pe_call GS hr1 rfl mS kS bS .nil pass0 (pa_cons (pv 1) pa_nil)) pe_non (nomark _)) (pss_one (ps_dput hu (pe_fld (pv 0) rfl) (pe_call GS hr1 rfl mS kS bS .nil pass0 (pa_cons (pv 1) pa_nil)) (pv 1) rfl)) pss_nil)
(pss_cons (ps_for PassesOwn.never rfl (pi_list (pe_call GU hr1 rfl mU kU bU .nil pass0 (pa_cons (pv 1) pa_nil))) (pg_name (i := 2) nd rfl (.inl rfl))
(pss_one (ps_dput hu (pe_fld (pv 0) rfl) (pv 2) pe_bl rfl)))
(pss_cons (ps_if (pt_cmpR op_eq (pe_ix ix_tup (pv 1) pe_int (fun _ _ => rfl)) pe_str (nomark _)) (pss_one (ps_dput hu (pe_fld (pv 0) rfl) (pe_ix ix_tup (pv 1) pe_int (fun _ _ => rfl)) (pe_callB (call_max2 rfl) rfl T.max (by decide +kernel) (pa_cons (pe_ix ix_tup (pv 1) pe_int (fun _ _ => rfl)) (pa_cons (pe_dget2 hu (pe_fld (pv 0) rfl) (pe_ix ix_tup (pv 1) pe_int (fun _ _ => rfl)) pe_int ⟨rfl, rfl, rfl, rfl⟩) pa_nil))) rfl)) pss_nil)
(pss_one (ps_if (pt_cmpR op_eq (pe_ix ix_tup (pv 1) pe_int (fun _ _ => rfl)) pe_str (nomark _)) (pss_one (ps_dput hu (pe_fld (pv 0) rfl) (pe_ix ix_tup (pv 1) pe_int (fun _ _ => rfl)) (pe_op op_add (pe_dget2 hu (pe_fld (pv 0) rfl) (pe_ix ix_tup (pv 1) pe_int (fun _ _ => rfl)) pe_int ⟨rfl, rfl, rfl, rfl⟩) (pe_ix ix_tup (pv 1) pe_int (fun _ _ => rfl))) rfl)) pss_nil))))), ?_⟩
    have lk : (knownL fs).length < sizeLine := by unfold knownL; rw [List.length_map]; omega
    refine ⟨_, rfl, a, CN, dx, _, _, rfl, ho, M.cl, M.n1, rfl, _, rfl, k, _, rfl, DPut.t W0.hk hf.key lk, ?_⟩
    rw [known_snoc hn]
    have W1 := W0.pk (kv' := knownL (fs ++ [f]))
    have fr1 : Fr k t su r d H (upd H k (.dT (knownL (fs ++ [f])))) := Fr.put (.inl rfl)
    generalize upd H k (.dT (knownL (fs ++ [f]))) = H1 at W1 fr1 ⊢
    have hf1 : FAt H1 p f := fr1.tup W0 hf
    have hta1 : TakenAt H1 tv (takenL fs) := hta.but fun b xs z => fr1.tup W0 z
    have et : takenL (fs ++ [f]) = takenL fs ++ (match f.slot with | some ky => [(ky, f)] | none => []) := by
      unfold takenL
      rw [List.filterMap_append]
      cases e : f.slot with
      | none => simp [List.filterMap, e]
      | some ky => simp [List.filterMap, e]
    have es : suppL (fs ++ [f]) = f.sup.foldl suppS (suppL fs) := by
      unfold suppL
      rw [List.foldl_append]
      rfl
    have er : relL (fs ++ [f]) = relS (relL fs) f := by
      unfold relL
      rw [List.foldl_append]
      rfl
    have ed : depL (fs ++ [f]) = depS (depL fs) f := by
      unfold depL
      rw [List.foldl_append]
      rfl
    have tn' : ((takenL (fs ++ [f])).map Prod.fst).Nodup := by
      rw [et, List.map_append]
      refine List.nodup_append.mpr ⟨N.tn, ?_, fun x hx y hy => ?_⟩
      · cases f.slot <;> simp
      · cases e : f.slot with
        | none => rw [e] at hy; cases hy
        | some ky =>
          rw [e] at hy
          rw [List.mem_singleton.mp hy]
          intro z
          have z : x = ky := z
          exact slot_free hru hn e (by rw [← z]; exact hx)
    have nd' : (fs ++ [f]).Nodup := List.nodup_append.mpr ⟨N.nd, by simp, fun x hx y hy z => hn (by rw [← List.mem_singleton.mp hy, ← z]; exact hx)⟩
    refine (fun (rest : ∀ H3 : Hp, (∃ tv' : List (List Key × V), Nw CN H3 a k t su r d (knownL (fs ++ [f])) tv' (suppL fs) (relL fs) (depL fs) ∧ TakenAt H3 tv' (takenL (fs ++ [f]))) → Fr k t su r d H H3 → (?R1 : Hp → Prop) H3) => ?first) ?second
    case first =>
      refine ⟨_, rfl, p, f, rfl, hf1, fun H2 v k2 hv => ?_⟩
      have W2 := W1.ext k2
      have hf2 := hf1.ext k2
      have hta2 : TakenAt H2 tv (takenL fs) := hta1.but fun b xs z => k2 _ _ z
      have fr2 : Fr k t su r d H H2 := fr1.trans (Fr.ext k2)
      cases e : f.slot with
      | none =>
        rw [e] at hv
        obtain rfl : v = .non := hv
        refine ⟨rfl, _, rfl, iteN2 rfl ?_⟩
        refine rest H2 ⟨tv, W2, ?_⟩ fr2
        rw [et, e, List.append_nil]
        exact hta2
      | some ky =>
        rw [e] at hv
        obtain ⟨b, rfl, hb⟩ := hv
        refine ⟨rfl, _, rfl, iteS2 rfl ?_⟩
        obtain ⟨dx2, ho2⟩ := W2.obj
        refine ⟨_, rfl, _, rfl, a, CN, dx2, _, _, rfl, ho2, M.cl, M.n2, rfl, _, rfl, p, f, rfl, hf2, fun H3 v' k3 hv' => ?_⟩
        rw [e] at hv'
        obtain ⟨b', rfl, hb'⟩ := hv'
        have W3 := W2.ext k3
        have l3 : tv.length < sizeLine := by have := Paired.length hta; have := taken_len fs; omega
        have hta3 : TakenAt H3 tv (takenL fs) := hta2.but fun b xs z => k3 _ _ z
        have hf3 := hf2.ext k3
        refine ⟨t, _, rfl, DPut.t W3.ht hb' l3, ?_⟩
        have kn : ky ∉ tv.map Prod.fst := by rw [hta.keys]; exact slot_free hru hn e
        rw [putK_app kn]
        have W4 := W3.pt (kv' := tv ++ [(ky, .ref p)])
        have fr4 : Fr k t su r d H3 (upd H3 t (.dT (tv ++ [(ky, .ref p)]))) := Fr.put (.inr (.inl rfl))
        generalize upd H3 t (.dT (tv ++ [(ky, .ref p)])) = H4 at W4 fr4 ⊢
        refine rest H4 ⟨_, W4, ?_⟩ ((fr2.trans (Fr.ext k3)).trans fr4)
        rw [et, e]
        exact paired_snoc (hta3.but fun b xs z => fr4.tup W3 z) ⟨rfl, p, rfl, fr4.tup W3 hf3⟩
    case second =>
      rintro H3 ⟨tv', W3, hta3⟩ fr3
      have hf3 : FAt H3 p f := fr3.tup W0 hf
      refine ⟨_, rfl, p, f, rfl, hf3, fun H4 l xs k4 hl hS => ?_⟩
      have W4 := W3.ext k4
      have sl := supp_len fs
      refine ⟨l, rfl, ⟨_, SqL.of hl⟩, ?_⟩
      refine for_list (K := K) (a := l) (xs := xs) (fun i σ H' => ∃ v2 : Option V, σ = [some (.ref a), some (.ref p), v2] ∧ Nw CN H' a k t su r d (knownL (fs ++ [f])) tv' ((f.sup.take i).foldl suppS (suppL fs)) (relL fs) (depL fs) ∧ Fr k t su r d H4 H') ⟨none, rfl, W4, Fr.ext Ext.refl⟩ (fun i σ H' _ ⟨_, _, _, e⟩ => SqL.of (e.lst W4 hl)) ?_ ?_
      · rintro i x σ H5 hx ⟨v2, rfl, W5, fr5⟩
        have hi : i < xs.length := (List.getElem?_eq_some_iff.mp hx).1
        have hi2 : i < f.sup.length := by rw [← hS.1]; exact hi
        have hsi := List.getElem?_eq_getElem hi2
        obtain ⟨tp, h1, h2⟩ := hS.2 i _ hsi
        rw [hx] at h1
        cases h1
        obtain ⟨dx5, ho5⟩ := W5.obj
        have l5 : ((f.sup.take i).foldl suppS (suppL fs)).length < sizeLine := by
          have := (suppS_fold (f.sup.take i) (suppL fs) (supp_nodup fs)).2
          have h2 := sup_len f
          rw [List.length_take] at this
          omega
        have h5 : H5 tp = some (.tup ((rowK f.sup[i]).map kV)) := fr5.tup W4 h2
        refine ⟨_, rfl, a, CN, dx5, _, _, rfl, ho5, M.cl, M.n3, rfl, _, rfl, su, _, rfl, DPut.t W5.hs h5 l5, ?_⟩
        refine ⟨_, rfl, ?_, fr5.trans (Fr.put (.inr (.inr (.inl rfl))))⟩
        have e6 : (f.sup.take (i + 1)).foldl suppS (suppL fs) = putK ((f.sup.take i).foldl suppS (suppL fs)) (rowK f.sup[i]) (.bl true) := by
          rw [List.take_add_one, hsi, List.foldl_append]
          rfl
        rw [e6]
        exact W5.ps
      · rintro σ H5 ⟨v2, rfl, W5, fr5⟩
        rw [hS.1, List.take_length, ← es] at W5
        have hta5 : TakenAt H5 tv' (takenL (fs ++ [f])) := hta3.but fun b xs z => fr5.tup W4 (k4 _ _ z)
        have hf5 : FAt H5 p f := fr5.tup W4 (k4 _ _ hf3)
        obtain ⟨dx5, ho5⟩ := W5.obj
        have fr : Fr k t su r d H H5 := (fr3.trans (Fr.ext k4)).trans fr5
        have fin : ∀ H', Nw CN H' a k t su r d (knownL (fs ++ [f])) tv' (suppL (fs ++ [f])) (relL (fs ++ [f])) (depL (fs ++ [f])) → Fr k t su r d H5 H' → Q .non H' := fun H' W' fr' =>
          q H' (fr.trans fr') ⟨W'.obj, W'.hk, ⟨tv', W'.ht, hta5.but fun b xs z => fr'.tup W5 z⟩, W'.hs, W'.hr, W'.hd, W'.kt, W'.ks, W'.ts, W'.rd, nd', tn', by rw [List.length_append]; have : [f].length = 1 := rfl; omega, fun g hg => by
            rcases List.mem_append.mp hg with hg | hg
            · exact N.ok g hg
            · rw [List.mem_singleton.mp hg]; exact hok⟩
        refine ⟨_, rfl, p, _, _, _, rfl, rfl, SqT.of hf5, at0 f, rfl, _, rfl, ?_⟩
        have skip4 : ∀ {u : Fin 7} {A B : Prop}, decide (f.tag = u) = false → B → (if decide (V.str (kinds f.tag) = V.str (kinds u)) = true then A else B) := fun e b => by
          rw [kind_eq]
          exact iteN2 e b
        have hit4 : ∀ {u : Fin 7} {A B : Prop}, decide (f.tag = u) = true → A → (if decide (V.str (kinds f.tag) = V.str (kinds u)) = true then A else B) := fun e b => by
          rw [kind_eq]
          exact iteS2 e b
        cases f with
        | rel p' z =>
          refine hit4 (u := 3) rfl ?_
          have ri := rel_ints fs
          have g2 : atI (Fact.rel p' z).vals 2 = some (.int z) := (show atI _ ((2 : Nat) : Int) = _ from atI_nat rfl)
          refine ⟨_, rfl, p, _, _, _, rfl, rfl, SqT.of hf5, g2, _, rfl, a, CN, dx5, _, _, rfl, ho5, M.cl, M.n4, rfl, r, rfl, .inl ⟨_, .inl W5.hr⟩, _, rfl, p, _, _, _, rfl, rfl, SqT.of hf5, at1 _, _, DGet.k (k := .inl p') W5.hr, z, intAt (relL fs) (.inl p'), by rw [int_at _ ri.1], ?_⟩
          refine ⟨_, rfl, a, CN, dx5, _, _, rfl, ho5, M.cl, M.n4, rfl, _, rfl, p, _, _, _, rfl, rfl, SqT.of hf5, at1 _, r, _, rfl, DPut.k (k := .inl p') W5.hr (by omega), ?_⟩
          have W6 := W5.pr (rv' := putK (relL fs) (.inl p') (.int (if intAt (relL fs) (.inl p') > z then intAt (relL fs) (.inl p') else z)))
          have fr6 : Fr k t su r d H5 (upd H5 r (.dK (putK (relL fs) (.inl p') (.int (if intAt (relL fs) (.inl p') > z then intAt (relL fs) (.inl p') else z))))) := Fr.put (.inr (.inr (.inr (.inl rfl))))
          have hf6 := fr6.tup W5 hf5
          refine ⟨_, rfl, p, _, _, _, rfl, rfl, SqT.of hf6, at0 _, rfl, _, rfl, ?_⟩
          refine skip4 (u := 2) rfl ?_
          rw [er, ed] at fin
          exact fin _ W6 fr6
        | dep m n z =>
          refine skip4 (u := 3) rfl ?_
          refine ⟨_, rfl, p, _, _, _, rfl, rfl, SqT.of hf5, at0 _, rfl, _, rfl, ?_⟩
          refine hit4 (u := 2) rfl ?_
          have ri := dep_ints fs
          have g2 : atI (Fact.dep m n z).vals 2 = some (.str n) := (show atI _ ((2 : Nat) : Int) = _ from atI_nat rfl)
          have g3 : atI (Fact.dep m n z).vals 3 = some (.int z) := (show atI _ ((3 : Nat) : Int) = _ from atI_nat rfl)
          refine ⟨_, rfl, a, CN, dx5, _, _, rfl, ho5, M.cl, M.n5, rfl, d, rfl, .inl ⟨_, .inl W5.hd⟩, _, rfl, p, _, _, _, rfl, rfl, SqT.of hf5, g2, _, DGet.k (k := .inr n) W5.hd, _, rfl, p, _, _, _, rfl, rfl, SqT.of hf5, g3, intAt (depL fs) (.inr n), z, by rw [int_at _ ri.1], rfl, ?_⟩
          refine ⟨_, rfl, a, CN, dx5, _, _, rfl, ho5, M.cl, M.n5, rfl, _, rfl, p, _, _, _, rfl, rfl, SqT.of hf5, g2, d, _, rfl, DPut.k (k := .inr n) W5.hd (by omega), ?_⟩
          rw [er, ed] at fin
          exact fin _ W5.pd (Fr.put (.inr (.inr (.inr (.inr rfl)))))
        | row b p' n z =>
          refine skip4 (u := 3) (by cases b <;> rfl) ?_
          refine ⟨_, rfl, p, _, _, _, rfl, rfl, SqT.of hf5, at0 _, rfl, _, rfl, ?_⟩
          refine skip4 (u := 2) (by cases b <;> rfl) ?_
          rw [er, ed] at fin
          exact fin H5 W5 (Fr.ext Ext.refl)
        | wd p' =>
          refine skip4 (u := 3) rfl ?_
          refine ⟨_, rfl, p, _, _, _, rfl, rfl, SqT.of hf5, at0 _, rfl, _, rfl, ?_⟩
          refine skip4 (u := 2) rfl ?_
          rw [er, ed] at fin
          exact fin H5 W5 (Fr.ext Ext.refl)
        | ans b p' q' =>
          refine skip4 (u := 3) (by cases b <;> rfl) ?_
          refine ⟨_, rfl, p, _, _, _, rfl, rfl, SqT.of hf5, at0 _, rfl, _, rfl, ?_⟩
          refine skip4 (u := 2) (by cases b <;> rfl) ?_
          rw [er, ed] at fin
          exact fin H5 W5 (Fr.ext Ext.refl)
end
end Lw

set_option Elab.async false
set_option linter.all false
set_option maxRecDepth 100000
set_option maxHeartbeats 4000000
/-! a caught exception, kept behind its suite -/
namespace Gx
open PySem PySem.Spec PyProof.Rows L2
/-- an exception of the class cls with the dict d, at a -/
def ExK (cls : Value) (d : Option Addr) (a : Addr) : HO := .ext fun h => ∃ (ob : Obj) (fv : Array Value), h.get? a = some ob ∧ Zc cls d ob ∧ ob.data = .fields fv
section
variable {X : Cx} {pins : List (Addr × Obj)} {σ : L2.St} {H : Hp} {s : Shared} {a : Addr} {ob : Obj} {fv : Array Value} {cls : Value} {d : Option Addr}
/-- what stands and is not tracked may be tracked, if it is no part of the frame and was not there at the entry -/
theorem track (J : Inv X pins σ H s) (g : s.heap.get? a = some ob) (z : Zc cls d ob) (df : ob.data = .fields fv) (free : H a = none) (n0 : X.s_0.heap.get? a = none) (nL : a ≠ X.env.locals) (np : ∀ p ∈ X.pn ++ pins, p.1 ≠ a) : Inv X pins σ (upd H a (ExK cls d a)) s := by
  have nc : ∀ x c, X.env.cells.lookup x = some c → c ≠ a := fun x c e q => by
    obtain ⟨v, o', h1, h2⟩ := J.cell x c e
    rw [q, g] at h1
    cases h1
    rw [df] at h2
    cases h2
  have B := J.base
  have far : ∀ b o, X.s_0.heap.get? b = some o → b ≠ a := fun b o e q => by rw [q, n0] at e; cases e
  have ok : ObjOk X.prog X.w (upd H a (ExK cls d a)) s.heap a (ExK cls d a) := ⟨⟨ob, fv, g, z, df⟩, ⟨ob, g⟩, fun h1 h2 ⟨o, v, q, r⟩ k => ⟨o, v, k o q, r⟩⟩
  have U : Un X.fs X.ex X.H_0 (upd H a (ExK cls d a)) X.s_0.heap s.heap :=
    { keep := B.keep, slot := B.slot, there := B.there
      free := fun b o e n x => (upd_ne (far b o e)).trans (B.free b o e n x)
      tups := fun b xs e => (upd_ne (ne_of_none (B.tups b xs e) free)).trans (B.tups b xs e)
      frzs := fun b o u e => (upd_ne (ne_of_none (B.frzs b o u e) free)).trans (B.frzs b o u e)
      tbls := fun b ps e => by
        obtain ⟨more, q⟩ := B.tbls b ps e
        exact ⟨more, (upd_ne (ne_of_none q free)).trans q⟩ }
  exact
    { ok := J.ok, os := J.os, bare := J.bare, base := U, loc := J.loc, cell := J.cell
      free := (upd_ne nL.symm).trans J.free
      freeC := fun x c e => (upd_ne (nc x c e)).trans (J.freeC x c e)
      pin := fun p hp => by
        obtain ⟨p1, p2, p3⟩ := J.pin p hp
        exact ⟨p1, (upd_ne (np p hp)).trans p2, p3⟩
      hok := J.hok.laidN (fun b u q => q) free ok
      len := J.len }
end
/-- the clause 'except x as n: y = n': every exception is caught; y is slot j, n slot i -/
def wKeep (K : PySem.W.Frag) (c : Value) (i j : Nat) (D : Ends) : WX := fun cls d σ H =>
  PySem.W.exmOne K cls c = some true ∧ ∀ a, H a = none → D.nx (((σ.set i (some (.ref a))).set j (some (.ref a))).set i none) (upd H a (ExK cls d a))
section
variable {X : Cx} {x n y : Str} {c : Value} {i j : Nat} {body : List Stmt} {np' py pn' pa pos pos' : Pos} {tb : WX → TS}
theorem ps_try_keep (hs : X.stack = X.env :: X.outer) (hf : X.env.frame = some X.env.locals) (hN : X.N.Nodup) (hi : X.N[i]? = some n) (hj : X.N[j]? = some y) (hln : X.env.kindOf n = some .local) (hly : X.env.kindOf y = some .local) (hc : Names X x c) (hex : X.ex = [])
    (hd : (n == ("__debug__" : Str)) = false := by decide) (hcd : (n == ("__classdict__" : Str)) = false := by decide)
    (hsw : swapsWith (.Name n pn') (some (.Name y py)) pa.line X.env = pure false := by rfl)
    (hb : ∀ (W : WX) (pn : List (Addr × Obj)) (xe : Value → Shared → Prop), Takes (X.tr pn xe) W → PassesOwn (model X.prog X.w) X.A X.env xe → PSs (X.tr pn xe) body (tb W)) :
    PS X (.Try body [.ExceptHandler (some (.Name x np')) (some n) [.Assign [.Name y py] (.Name n pn') pa] pos'] [] [] pos) (fun D σ H => tb (wKeep X.K c i j D) D σ H) := by
  refine ⟨fun pins s σ H D I h => wpAny_Try_except ?_⟩
  have fr1 : X.A.frames = some (X.env :: X.outer) := I.ok.frames.trans (congrArg some hs)
  refine wpAny_mono ((hb (wKeep X.K c i j D) (X.pn ++ pins) _ (fun u s' caught => ?_) PassesOwn.looking).run [] s σ H D (I.toTry _) h) (fun f s1 done => ?_) (fun _ _ z => z)
  · obtain ⟨a, B, sI, ps, σ1, H1, cls, dct, ue, I1, ground, slots, sky, fresh, osEq, bare1, mt, next⟩ := caught
    cases ue
    have I2 : Inv X pins σ1 H1 sI := I1.ofTry I.ok
    rw [hs] at sky ground
    refine Sky.land Zc.steady fr1 hf sky fun hA flA upA => ?_
    have IA : Inv X pins σ1 H1 { s' with heap := hA } := I2.landed (by rw [hs]; exact ground) flA.1 (slots.trans upA) osEq bare1
    obtain ⟨ob, fv, gA, zA, dA⟩ := flA.there
    have noFrame : a ∉ frs (X.env :: X.outer) := fun m => by
      obtain ⟨_, o', e', nf⟩ := flA.2.2.1.mem m
      rw [gA] at e'
      cases e'
      exact nf _ dA
    have notLoc : a ≠ X.env.locals := fun q => noFrame (List.mem_filterMap.mpr ⟨X.env, List.mem_cons_self, by rw [hf, q]⟩)
    have notFs : a ∉ X.fs := fun m => by
      obtain ⟨ev, m1, m2⟩ := List.mem_filterMap.mp m
      exact noFrame (List.mem_filterMap.mpr ⟨ev, List.mem_cons_of_mem _ m1, m2⟩)
    have groundA : B.get? a = none := flA.2.1
    -- nothing of before is at a
    have before : ∀ b o, sI.heap.get? b = some o → b ≠ a := fun b o e q => by
      rw [q] at e
      have := ground a o e noFrame
      rw [groundA] at this
      cases this
    have n0 : X.s_0.heap.get? a = none := by
      cases e : X.s_0.heap.get? a with
      | none => rfl
      | some o =>
        obtain ⟨o', e'⟩ := I2.base.there a o e (by rw [hex]; exact List.not_mem_nil)
        exact absurd rfl (before a o' e')
    have np : ∀ p ∈ X.pn ++ pins, p.1 ≠ a := fun p hp => before p.1 p.2 (I2.pin p hp).1
    refine wpAny_handleBy_cons (codeAny_handlers_test ?_) (by intro q; cases q)
    have SA := IA.suite gA dA fresh notLoc notFs
    have kind : PySem.W.Looks (model X.prog X.w) hA (typeOf (.ref a)) cls := fun A Q E s k q => wpAny_typeOf_ref (k _ _ gA) (by rw [zA.1]; exact q)
    have named : ∀ {Q : Value → Shared → Prop} {E : Value → Shared → Prop}, Q c { s' with heap := hA } → wpAny (model X.prog X.w) (X.A.mark (some (.ref a))) (eval (.Name x np') X.env) Q E { s' with heap := hA } := fun {Q E} q => by
      obtain ⟨m1, m2, m3⟩ := hc
      rcases m3 with m3 | ⟨m3, m4, m5⟩
      · exact ld_glob (X := X.suite a ((a, ob) :: (X.pn ++ pins))) SA m1 m3 q m2
      · exact ld_blt (X := X.suite a ((a, ob) :: (X.pn ++ pins))) SA m1 m3 m4 q m5 m2
    refine named ((PySem.W.exm_one (M := model X.prog X.w) IA.kIn kind mt).here ?_)
    refine codeAny_handlers_suite_as (HandSPX.lands_againZ flA fun hB flB upB => ?_)
    have IB : Inv X pins σ1 H1 { s' with heap := hB } := I2.landed (by rw [hs]; exact ground) flB.1 ((slots.trans upA).trans upB) osEq bare1
    obtain ⟨ob2, fv2, gB, zB, dB⟩ := flB.there
    have SB := IB.suite gB dB fresh notLoc notFs
    refine store_ok (X := X.suite a ((a, ob2) :: (X.pn ++ pins))) (v := .ref a) SB hN hi (.inl hln) rfl (fun s3 S3 => ?_) (.inr hln)
    have set2 : PS (X.suite a ((a, ob2) :: (X.pn ++ pins))) (.Assign [.Name y py] (.Name n pn') pa) (tAsg (tVar i) (gName j)) := ps_set hN hj (.inl hly) (pe_var hi (.inl hln) hd hcd) hsw (.inr hly)
    have goal1 : (tAsg (tVar i) (gName j)) { nx := fun σ' H' => σ' = (σ1.set i (some (.ref a))).set j (some (.ref a)) ∧ H' = H1, rt := fun _ _ => False, bk := fun _ _ => False, ct := fun _ _ => False } (σ1.set i (some (.ref a))) H1 := by
      have hlen : i < σ1.length := by
        rw [I2.len]
        exact (List.getElem?_eq_some_iff.mp hi).1
      exact ⟨_, List.getElem?_set_self hlen, rfl, rfl⟩
    have run1 := (pss_one set2).run [] s3 _ H1 _ S3 goal1
    refine wpAny_mono run1 (fun f s4 q => ?_) (fun _ _ z => False.elim z)
    cases f with
    | next =>
      obtain ⟨σ4, H4, S4, e1, e2⟩ := q
      rw [e1, e2] at S4
      refine gone_ok (X := X.suite a ((a, ob2) :: (X.pn ++ pins))) S4 hN hi hln fun s5 S5 => ?_
      have pin5 := S5.pin (a, ob2) (List.mem_append_left _ List.mem_cons_self)
      have J5 : Inv X pins (((σ1.set i (some (.ref a))).set j (some (.ref a))).set i none) H1 s5 := S5.unsuite I.ok
      exact ⟨_, _, track J5 pin5.1 zB dB fresh n0 notLoc np, next a fresh⟩
    | brk =>
      obtain ⟨_, _, _, z⟩ := q
      exact False.elim z
    | cont =>
      obtain ⟨_, _, _, z⟩ := q
      exact False.elim z
    | ret u =>
      obtain ⟨_, _, _, _, _, z⟩ := q
      exact False.elim z
  · cases f with
    | next =>
      obtain ⟨σ2, H2, J, q⟩ := done
      exact wpAny_execs_nil ⟨σ2, H2, J.ofTry I.ok, q⟩
    | brk =>
      obtain ⟨σ2, H2, J, q⟩ := done
      exact ⟨σ2, H2, J.ofTry I.ok, q⟩
    | cont =>
      obtain ⟨σ2, H2, J, q⟩ := done
      exact ⟨σ2, H2, J.ofTry I.ok, q⟩
    | ret u =>
      obtain ⟨v, σ2, H2, J, r, q⟩ := done
      exact ⟨v, σ2, H2, J.ofTry I.ok, r, q⟩
end
/-! isinstance and a field of it -/
section
variable {X : Cx} {pins : List (Addr × Obj)} {σ : L2.St} {H : Hp} {s : Shared} {a D : Addr} {d : Option Addr}
/-- its own dict, where it has one -/
def DicAt (H : Hp) : Option Addr → Prop
  | none => True
  | some dd => ∃ fs, H dd = some (.xd fs)
theorem inst_of (I : Inv X pins σ H s) (e : H a = some (ExK (.ref D) d a)) (k : DicAt H d) : ∃ ob od, PySem.W.InstAt s.heap a ob D od := by
  obtain ⟨⟨ob, fv, g, z, df⟩, _⟩ := I.hok a _ e
  have nc : PySem.W.notCls ob := by
    unfold PySem.W.notCls
    rw [df]
  cases d with
  | none => exact ⟨ob, none, g, z.1, nc, by rw [z.2]; exact True.intro⟩
  | some dd =>
    obtain ⟨fs, hd⟩ := k
    obtain ⟨mA, hns, _⟩ := (show ObjOk X.prog X.w H s.heap dd (.xd fs) from I.hok dd _ hd)
    obtain ⟨o, ho, _⟩ := lookIn_ns hns
    exact ⟨ob, some o, g, z.1, nc, by rw [z.2]; exact ho⟩
theorem kit_exc (T : ExcC X.K D) {ob : Obj} {od : Option Obj} : PySem.W.KitX X.K (.ref a) (.ref D) (fun h => PySem.W.InstAt h a ob D od) := by
  refine PySem.W.kitx_exc ?_ T.hg T.hk T.hs T.ha T.hn T.ht T.hm
  obtain ⟨cd, h, _⟩ := PySem.W.any_some T.hd
  rw [h]
  rfl
/-- isinstance(e, c), e a kept exception -/
def rIsX (K : PySem.W.Frag) : List V → Hp → VK → Prop := fun xs H Q => ∃ (a D : Addr) (d : Option Addr) (c : V) (u : Value) (b : Bool), xs = [.ref a, c] ∧ H a = some (ExK (.ref D) d a) ∧ DicAt H d ∧ ExcC K D ∧ ClsV c u ∧ PySem.W.kitOne K (.ref D) u = some b ∧ Q (.bl b) H
theorem call_isX : CallR X (.builtin "isinstance") (rIsX X.K) := by
  intro pins s σ H xs us Q I r h
  obtain ⟨a, D, d, c, u, b, rfl, e, k, T, cv, kb, q⟩ := h
  obtain ⟨u1, u2, rfl, r1, r2⟩ := vals2 r
  obtain rfl := cv.eq r2
  cases (show u1 = Value.ref a from r1)
  obtain ⟨ob, od, J⟩ := inst_of I e k
  exact PySem.W.kia_one (kit_exc T) I.kIn J kb (fun z => nomatch z) fun tk => ⟨.bl b, H, I.tok tk, rfl, q⟩
/-- isinstance(e, (c, ..)) -/
def rIsXT (K : PySem.W.Frag) : List V → Hp → VK → Prop := fun xs H Q => ∃ (a D : Addr) (d : Option Addr) (tp : Addr) (cs : List V) (us : List Value) (b : Bool), xs = [.ref a, .ref tp] ∧ H a = some (ExK (.ref D) d a) ∧ DicAt H d ∧ ExcC K D ∧ H tp = some (.tup cs) ∧ Paired ClsV cs us ∧ PySem.W.kitAny K (.ref D) us = some b ∧ Q (.bl b) H
theorem call_isXT : CallR X (.builtin "isinstance") (rIsXT X.K) := by
  intro pins s σ H xs us Q I r h
  obtain ⟨a, D, d, tp, cs, ws, b, rfl, e, k, T, ht, cv, kb, q⟩ := h
  obtain ⟨u1, u2, rfl, r1, r2⟩ := vals2 r
  cases (show u1 = Value.ref a from r1)
  cases (show u2 = Value.ref tp from r2)
  obtain ⟨ob, od, J⟩ := inst_of I e k
  obtain ⟨_, its, rv, o, h1, h2, n, h3⟩ := (show ObjOk X.prog X.w H s.heap tp (.tup cs) from I.hok tp _ ht)
  obtain rfl := ClsV.all cv rv
  obtain ⟨oc, od', dt, sl⟩ := o
  dsimp only at h2 h3
  rw [h2, h3] at h1
  exact PySem.W.kia_tup (kit_exc T) I.kIn J h1 kb (fun z => nomatch z) fun tk => ⟨.bl b, H, I.tok tk, rfl, q⟩
/-- e.f, e a kept exception of an own class -/
def tXk (K : PySem.W.Frag) (te : TE) (f : Str) : TE := fun σ H Q => te σ H fun x H1 => ∃ (a C dd : Addr) (fs : List (Str × V)) (v : V), x = .ref a ∧ H1 a = some (ExK (.ref C) (some dd) a) ∧ H1 dd = some (.xd fs) ∧ XfC K C ∧ PySem.W.findIn K (.ref C) f = some none ∧ fs.lookup f = some v ∧ Q v H1
theorem pe_xk {e : Expr} {te : TE} {pos : Pos} {f : Str} (he : PE X e te) (hb : attributeBase e f X.env (eval e X.env) = eval e X.env := by rfl) : PE X (.Attribute e f pos) (tXk X.K te f) := by
  refine ⟨fun pins s σ H Q I h => attr_of hb (thn (he.run pins s σ H _ I h) fun u s1 hu => ?_)⟩
  obtain ⟨x, H1, I1, rx, a, C, dd, fs, v, rfl, ea, ed, T, nf, lf, q⟩ := hu
  cases (show u = Value.ref a from rx)
  obtain ⟨⟨ob, fv, g, z, df⟩, _⟩ := I1.hok a _ ea
  obtain ⟨mA, hns, rl⟩ := (show ObjOk X.prog X.w H1 s1.heap dd (.xd fs) from I1.hok dd _ ed)
  obtain ⟨o, ho, look⟩ := lookIn_ns hns
  obtain ⟨w, hw, rw'⟩ := RelO.some_of (v := v) (o := mA f) (by rw [← lf]; exact rl f)
  have J : PySem.W.InstAt s1.heap a ob C (some o) := ⟨g, z.1, by unfold PySem.W.notCls; rw [df], by rw [z.2]; exact ho⟩
  exact HandSPX.exc_get I1.kIn J T.ga T.gg T.exC (PySem.W.findObj_own T.hdC nf rfl (by rw [look, hw])) (handed_of rw') ⟨v, H1, I1.tok _, rw', q⟩
end
/-! C.m(e, ..), m static, in a try's body -/
section
variable {X : Cx} {CX : CXT} {k : Nat} {C g p : Addr} {mc : Value} {fd : FuncData} {ps : List Str} {sp : Sp} {E : L2.St → XK} {o e : Expr} {es : List Expr} {m : Str} {pos apos : Pos} {ta : TE} {t : TA} {pl : Sem Bool}
def tSMethS (C : Addr) (sp : Sp) (E : L2.St → XK) (ta : TE) (t : TA) : TE := fun σ H Q => ta σ H fun x H1 => x = .ref C ∧ t σ H1 fun vs H2 => sp vs H2 Q (E σ)
theorem pe_smethS (he : PE X o ta) (r : ClX.CRead X.K C mc) (c : Go.SMet X.K C mc m p g) (hk : PySem.W.keepIn X.K (.ref g) = true) (F : FnOk X.prog X.w X.K X.mg X.base CX k g fd ps sp) (hr : Room k X.A) (hb : Binds X.K fd ps []) (hx : ∀ σ, PassesAt CX X σ (E σ)) (ha : PA X (e :: es) t)
    (hst : starEach (e :: es) X.env = (false, eval e X.env) :: starEach es X.env := by rfl) (hpl : (backTo pos (starEach es X.env)).any (·.1) = false := by rfl)
    (ht : eval (.Call (.Attribute o m apos) (e :: es) [] pos) X.env = (do
      let ov ← eval o X.env
      standAt apos.atName
      let (f, first) ← holding [ov] (getMethod ov m pl)
      callWith pos f first (backTo pos (starEach (e :: es) X.env)) (backToKw pos (keywordEach [] X.env))) := by rfl) :
    PE X (.Call (.Attribute o m apos) (e :: es) [] pos) (tSMethS C sp E ta t) := by
  refine ⟨fun pins s σ H Q I h => PySem.W.methodCall_KW (pl := pl) (thn (he.run pins s σ H _ I h) fun u s1 hu => ?_) ht⟩
  obtain ⟨x, H1, I1, rx, rfl, q⟩ := hu
  cases (show u = Value.ref C from rx)
  refine Go.getsm_ok I1 r c fun s2 I2 => PySem.W.callWith_K (first := []) (h₀ := X.base) I2.ok.mod.kin hk (thn (ha.run pos pins s2 σ H1 _ I2 q) fun us s3 hv => ?_) hst hpl
  obtain ⟨vs, H2, I3, rv, q2⟩ := hv
  exact ⟨I3.kIn, run_fnS (us := us) (vs := vs) F hr hb (hx σ) I3 rv q2⟩
end
end Gx

set_option Elab.async false
set_option linter.all false
set_option maxRecDepth 100000
set_option maxHeartbeats 4000000
namespace Lw
open L2 hiding Ext
open PySem PySem.Spec PyProof.Rows Gn Gr Gk Go Gt Gf Gu Gdw Gx
abbrev sVwInit : Stmt := (cBody (top 41)).getD 0 (.Pass ⟨0, 0, 0, 0⟩)
abbrev sVwLearn : Stmt := (cBody (top 41)).getD 5 (.Pass ⟨0, 0, 0, 0⟩)
abbrev sFxInit : Stmt := (cBody (top 5)).getD 0 (.Pass ⟨0, 0, 0, 0⟩)
/-! ### InvalidFact: an error of one field -/
structure XN (K : PySem.W.Frag) (mg : Str → Option Value) (nm fld : Str) (CT fTI : Addr) : Prop where
  oT : OexC K CT
  gT : mg nm = some (.ref CT)
  iT : PySem.W.findIn K (.ref CT) "__init__" = some (some (.ref fTI))
  tT : PySem.W.typeIn K (.ref fTI) = some (.type "function")
  nT : PySem.W.findIn K (.ref CT) fld = some none
theorem was_none {H H' : Hp} {a : Addr} (k : Ext H H') (h : H' a = none) : H a = none := by
  cases e : H a with
  | none => rfl
  | some o => rw [k _ _ e] at h; cases h
/-- it is raised with v -/
def Bad (CT : Addr) (fld : Str) (v : V) (H : Hp) (E : XK) : Prop := ∀ H' d, Ext H H' → H d = none → H' d = some (.xd [(fld, v)]) → E (.ref CT) (some d) H'
theorem Bad.ext {CT : Addr} {fld : Str} {v : V} {H H1 : Hp} {E : XK} (h : Bad CT fld v H E) (k : Ext H H1) : Bad CT fld v H1 E := fun H' d k' d0 d1 => h H' d (k.trans k') (was_none k d0) d1
section
variable {P : Program} {w : World} {K : PySem.W.Frag} {mg : Str → Option Value} {base : Heap} {C CV CN CF fFI fNI : Addr} {fdFI fdNI : FuncData}
def spFI (CT : Addr) (fld : Str) : Sp := fun vs H Q _ => ∃ (a : Addr) (v : V), vs = [.ref a, v] ∧ H a = some (exo a CT none) ∧ ∀ dx, H dx = none → dx ≠ a → Q .non (upd (upd H dx (exd dx [(fld, v)])) a (exo a CT (some dx)))
theorem scFI : FnScope ["self", "index"] ["self", "index"] (defScope sFxInit) := ⟨rfl, rfl, rfl, by decide +kernel, rfl, by decide +kernel, by decide +kernel⟩
theorem ok_fi {f : Addr} {fd : FuncData} (F : Fun K "__init__" "InvalidFact.__init__" sFxInit f fd) (X : XN K mg "InvalidFact" "index" CF fFI) : FnOk P w K mg base CX0 1 f fd ["self", "index"] (spFI CF "index") := by
  refine F.ok scFI (fun vs H Q E h => ?_) (fun cdv A outer s H vs Q E hr h => ?_)
  · obtain ⟨a, v, rfl, _⟩ := h
    rfl
  · obtain ⟨a, v, rfl, ha, k⟩ := h
    refine ⟨_, pss_one (ps_ost (pv 0) (pv 1)), ?_⟩
    exact ⟨_, rfl, _, rfl, a, CF, rfl, X.oT, X.nT, .inl ⟨ha, fun dx h1 h2 => k dx h1 h2⟩⟩
theorem bad_made {CT : Addr} {fld : Str} {H1 : Hp} {v : V} {E : XK} {a : Addr} (ha : H1 a = none) (k : Bad CT fld v H1 E) :
    spFI CT fld [.ref a, v] (upd H1 a (exo a CT none)) (fun u H2 => u = .non ∧ ∃ (d : Addr) (fs : List (Str × V)), H2 a = some (exo a CT (some d)) ∧ H2 d = some (exd d fs) ∧ H1 d = none ∧ E (.ref CT) (some d) (upd (del H2 a) d (.xd fs))) (fun _ _ _ => False) := by
  refine ⟨a, v, rfl, upd_same, fun dx h1 h2 => ⟨rfl, dx, [(fld, v)], upd_same, ?_, ?_, ?_⟩⟩
  · rw [upd_ne h2, upd_same]
  · rw [upd_ne h2] at h1
    exact h1
  · have hd : H1 dx = none := by rw [upd_ne h2] at h1; exact h1
    refine k _ dx (fun b o hb => ?_) hd upd_same
    rw [upd_ne (ne_of_none hb hd), del_ne (ne_of_none hb ha), upd_ne (ne_of_none hb ha), upd_ne (ne_of_none hb hd), upd_ne (ne_of_none hb ha)]
    exact hb
/-! ### View.__init__ -/
structure VC (K : PySem.W.Frag) (CV : Addr) : Prop where
  cl : Cls K CV
  nF : NoAttr K CV "_forest"
  nN : NoAttr K CV "_notes"
def spVwInit (CV CN : Addr) : Sp := fun vs H Q _ => ∃ (x fo dx : Addr), vs = [.ref x, .ref fo] ∧ H x = some (.ins CV dx []) ∧
  ∀ H' n k t s r d, (∀ a o, a ≠ x → H a = some o → H' a = some o) → H' x = some (.ins CV dx [("_forest", .ref fo), ("_notes", .ref n)]) → NtAt CN H' n [] k t s r d → H n = none → Q .non H'
theorem scVwInit : FnScope ["self", "forest"] ["self", "forest"] (defScope sVwInit) := ⟨rfl, rfl, rfl, by decide +kernel, rfl, by decide +kernel, by decide +kernel⟩
theorem ok_vwInit {f : Addr} {fd : FuncData} (F : Fun K "__init__" "View.__init__" sVwInit f fd) (V_ : VC K CV) (M : NMk P w K mg base CN fNI fdNI) : FnOk P w K mg base CX0 3 f fd ["self", "forest"] (spVwInit CV CN) := by
  refine F.ok scVwInit (fun vs H Q E h => ?_) (fun cdv A outer s H vs Q E hr h => ?_)
  · obtain ⟨x, fo, dx, rfl, _⟩ := h
    rfl
  · obtain ⟨x, fo, dx, rfl, hx, q⟩ := h
    refine ⟨_, pss_cons (ps_fld (pv 0) (pv 1) rfl) (pss_one (ps_fld (pv 0) (pe_make0 M.make M.GI hr rfl M.g M.bI .nil pass0) rfl)), ?_⟩
    refine ⟨_, rfl, _, rfl, x, CV, dx, [], rfl, hx, V_.cl, V_.nF, by decide, ?_⟩
    have o1 : (upd H x (.ins CV dx (putF "_forest" (.ref fo) []))) x = some (.ins CV dx [("_forest", .ref fo)]) := upd_same
    have b1 : ∀ b o, b ≠ x → H b = some o → (upd H x (.ins CV dx (putF "_forest" (.ref fo) []))) b = some o := fun b o nb hb => by rw [upd_ne nb]; exact hb
    have z1 : ∀ b, (upd H x (.ins CV dx (putF "_forest" (.ref fo) []))) b = none → H b = none := fun b hb => by
      by_cases e : b = x
      · subst e; rw [upd_same] at hb; cases hb
      · rw [upd_ne e] at hb; exact hb
    generalize upd H x (.ins CV dx (putF "_forest" (.ref fo) [])) = H1 at o1 b1 z1 ⊢
    intro n dn hn hdn ne
    have kx : Ext H1 (upd (upd H1 dn (.own n)) n (.ins CN dn [])) := fun b o hb => by
      rw [upd_ne (ne_of_none hb hn), upd_ne (ne_of_none hb hdn)]
      exact hb
    refine ⟨n, dn, rfl, upd_same, fun H2 k t su r d e2 N2 m1 m2 m3 m4 m5 => ⟨rfl, ?_⟩⟩
    have e12 : Ext H1 H2 := fun b o hb => e2 _ _ (ne_of_none hb hn) (kx _ _ hb)
    have nx : n ≠ x := fun e => by rw [e, o1] at hn; cases hn
    refine ⟨_, rfl, x, CV, dx, _, rfl, e12 _ _ o1, V_.cl, V_.nN, by show 1 < 1000; decide, ?_⟩
    refine q _ n k t su r d (fun b o nb hb => ?_) upd_same (N2.but (e12 _ _ o1) nx fun b o nb hb => by rw [upd_ne nb]; exact hb) (z1 n hn)
    rw [upd_ne nb]
    exact e12 _ _ (b1 _ _ nb hb)
/-! ### View.learn -/
def learnF : List Fact → List Fact → Nat → List (Option Fact) → Except Nat (List Fact × List Fact)
  | fs, new, _, [] => .ok (fs, new)
  | _, _, i, none :: _ => .error i
  | fs, new, i, some f :: r => if ruled fs f = true then .error i else if f ∈ fs then learnF fs new (i + 1) r else learnF (fs ++ [f]) (new ++ [f]) (i + 1) r
/-- what one argument of learn is -/
def ArgAt (d g : Addr) (H : Hp) (ws : List Str) (v : V) (o : Option Fact) : Prop := ∃ y, Dk d g H v y ∧ match o with
  | none => factB ws y = false
  | some f => factB ws y = true ∧ y = f.data ∧ f.ok
theorem ArgAt.kp {d g : Addr} {H H' : Hp} {ws : List Str} {v : V} {o : Option Fact} (h : ArgAt d g H ws v o) (k : Kp d g H H') : ArgAt d g H' ws v o := let ⟨y, a, b⟩ := h; ⟨y, a.kp k, b⟩
def FactsAt (H : Hp) (xs : List V) (fs : List Fact) : Prop := Paired (fun v f => ∃ b, v = .ref b ∧ FAt H b f) xs fs
theorem FactsAt.but {H H' : Hp} {xs : List V} {fs : List Fact} (h : FactsAt H xs fs) (k : ∀ b xs, H b = some (.tup xs) → H' b = some (.tup xs)) : FactsAt H' xs fs := by
  unfold FactsAt at h ⊢
  induction h with
  | nil => exact .nil
  | cons h _ ih => exact .cons (let ⟨b, e2, f⟩ := h; ⟨b, e2, k _ _ f⟩) ih
def ViewAt (C CV CN : Addr) (H : Hp) (v : Addr) (rs : List FRow) (fs : List Fact) : Prop := ∃ dx fo n k t s r d, H v = some (.ins CV dx [("_forest", .ref fo), ("_notes", .ref n)]) ∧ FoAt C H fo rs ∧ NtAt CN H n fs k t s r d
theorem NtAt.butL {CN a k t s r d x : Addr} {H H' : Hp} {fs : List Fact} {ys : List V} (h : NtAt CN H a fs k t s r d) (hx : H x = some (.lst ys)) (e : ∀ b o, b ≠ x → H b = some o → H' b = some o) : NtAt CN H' a fs k t s r d :=
  { h with
    obj := let ⟨dx, o⟩ := h.obj; ⟨dx, e _ _ (ne_of o hx (by intro z; cases z)) o⟩
    hk := e _ _ (ne_of h.hk hx (by intro z; cases z)) h.hk
    ht := let ⟨tv, a, b⟩ := h.ht; ⟨tv, e _ _ (ne_of a hx (by intro z; cases z)) a, b.but fun b xs z => e _ _ (ne_of z hx (by intro z; cases z)) z⟩
    hs := e _ _ (ne_of h.hs hx (by intro z; cases z)) h.hs
    hr := e _ _ (ne_of h.hr hx (by intro z; cases z)) h.hr
    hd := e _ _ (ne_of h.hd hx (by intro z; cases z)) h.hd }
theorem known_val (fs : List Fact) (f : Fact) : (valV (knownL fs) f.ks).isSome = if f ∈ fs then true else false := by
  induction fs with
  | nil => rfl
  | cons g r ih =>
    show (valV ((g.ks, V.bl true) :: knownL r) f.ks).isSome = _
    by_cases e : g = f
    · rw [valV_pos (by rw [e]), if_pos (by rw [e]; exact List.mem_cons_self ..)]
      rfl
    · rw [valV_neg (fun z => e (ks_inj z)), ih]
      by_cases h : f ∈ r
      · rw [if_pos h, if_pos (List.mem_cons_of_mem _ h)]
      · rw [if_neg h, if_neg (fun z => (List.mem_cons.mp z).elim (fun z => e z.symm) h)]
theorem paired_get {α β : Type} {R : α → β → Prop} : ∀ {as : List α} {bs : List β} {i : Nat} {x : α}, Paired R as bs → as[i]? = some x → ∃ y, bs[i]? = some y ∧ R x y
  | _, _, i, x, .nil, h => by cases h
  | _, _, 0, x, .cons (b := y) h1 _, h => by cases h; exact ⟨y, rfl, h1⟩
  | _, _, i + 1, x, .cons _ t, h => by
    obtain ⟨y, h1, h2⟩ := paired_get (i := i) t h
    exact ⟨y, h1, h2⟩
def spLearnB (C CV CN CF : Addr) : Sp := fun vs H Q E => ∃ (v tp d0 g0 dx fo n : Addr) (xs : List V) (os : List (Option Fact)) (rs : List FRow) (fs : List Fact) (k t s r d : Addr), vs = [.ref v, .ref tp] ∧
  H v = some (.ins CV dx [("_forest", .ref fo), ("_notes", .ref n)]) ∧ FoAt C H fo rs ∧ NtAt CN H n fs k t s r d ∧ H tp = some (.tup xs) ∧ Paired (ArgAt d0 g0 H (fNames rs)) xs os ∧ fs.length + os.length ≤ 1000 ∧
  match learnF fs [] 0 os with
  | .error i => Bad CF "index" (.int i) H E
  | .ok (fs', new) => ∀ H' l n' k t s r d ys, (∀ b o, b ≠ v → H b = some o → H' b = some o) → H' v = some (.ins CV dx [("_forest", .ref fo), ("_notes", .ref n')]) → NtAt CN H' n' fs' k t s r d → H' l = some (.lst ys) → FactsAt H' ys new → Q (.ref l) H'
abbrev nVwLearn : List Str := ["self", "facts", "notes", "new", "index", "fact"]
theorem scVwLearn : FnScope nVwLearn ["self", "facts"] (defScope sVwLearn) := ⟨rfl, rfl, rfl, by decide +kernel, rfl, by decide +kernel, by decide +kernel⟩
structure NM (P : Program) (w : World) (K : PySem.W.Frag) (mg : Str → Option Value) (base : Heap) (CN fTw fRo fTk : Addr) (fdTw fdRo fdTk : FuncData) : Prop where
  mTw : Meth K CN "twin" fTw
  mRo : Meth K CN "rules_out" fRo
  mTk : Meth K CN "take" fTk
  GTw : FnOk P w K mg base CX0 3 fTw fdTw ["self"] (spNtTwin CN)
  GRo : FnOk P w K mg base CX0 3 fRo fdRo ["self", "fact"] (spNtRules CN)
  GTk : FnOk P w K mg base CX0 2 fTk fdTk ["self", "fact"] (spNtTake CN)
  bTw : Binds K fdTw ["self"] []
  bRo : Binds K fdRo ["self", "fact"] []
  bTk : Binds K fdTk ["self", "fact"] []
theorem body_learn {f fIf fTw fRo fTk : Addr} {fdIf fdTw fdRo fdTk : FuncData} (T : Names mg) (V_ : VC K CV) (M : NMk P w K mg base CN fNI fdNI) (N_ : NM P w K mg base CN fTw fRo fTk fdTw fdRo fdTk) (Y : XN K mg "InvalidFact" "index" CF fFI)
    (GFI : FnOk P w K mg base CX0 1 fFI fdFI ["self", "index"] (spFI CF "index")) (bFI : Binds K fdFI ["self", "index"] [])
    (GIf : FnOk P w K mg base CX0 4 fIf fdIf ["value", "forest"] (spIsFact C)) (bIf : Binds K fdIf ["value", "forest"] []) (kIf : PySem.W.keepIn K (.ref fIf) = true) (mIf : mg "is_fact" = some (.ref fIf))
    (cdv : Value) (A : Around) (outer : List Env) (s : Shared) (H : Hp) (vs : List V) (Q : VK) (E : XK) (hr : Room 4 (A.deeper (envOfC "View.learn" (defScope sVwLearn) s.heap.objs.size f cdv))) (h : spLearnB C CV CN CF vs H Q E) :
    ∃ t, PSs (cxOf (L2.CX P w) P w K mg base nVwLearn "View.learn" (defScope sVwLearn) f cdv A outer s H E) (defBody sVwLearn) t ∧ t { nx := fun _ H' => Q .non H', rt := Q } (L2.start nVwLearn vs) H := by
  obtain ⟨v, tp, d0, g0, dx, fo, n, xs, os, rs, fs, k, t, su, r, d, rfl, hv, hF, N, htp, hos, hlen, hQ⟩ := h
  have hu := hu_of hr
  have nd := scVwLearn.nd
  have hr3 : Room 3 (A.deeper (envOfC "View.learn" (defScope sVwLearn) s.heap.objs.size f cdv)) := hr.mono (by decide)
  have hr2 : Room 2 (A.deeper (envOfC "View.learn" (defScope sVwLearn) s.heap.objs.size f cdv)) := hr.mono (by decide)
  refine ⟨_, pss_cons (ps_set (i := 2) nd rfl (.inl rfl) (pe_meth0 (pe_fld (pv 0) rfl) M.Z.cl N_.mTw N_.GTw hr3 N_.bTw .nil pass0))
    (pss_cons (ps_set (i := 3) nd rfl (.inl rfl) (pe_lst pa_nil))
    (pss_cons (ps_for (passes_of rfl) rfl (wI (t' := Gq.iEnumV 1) (Gq.pi_enumM rfl T.enum (pa_cons (pv 1) pa_nil)) Gq.iEnum_ok) (by exact (pg_tup rfl (pgs_cons (pg_name (i := 4) nd rfl (.inl rfl)) (pgs_cons (pg_name (i := 5) nd rfl (.inl rfl)) pgs_nil))))
      (pss_cons (ps_if (PW.pt (pw_or (pt_not (pt_val (pe_call GIf hr rfl mIf kIf bIf .nil pass0 (pa_cons (pv 5) (pa_cons (pe_fld (pv 0) rfl) pa_nil))))) (pw_or1 (pt_val (pe_meth (pv 2) M.Z.cl N_.mRo N_.GRo hr3 N_.bRo .nil pass0 (pa_cons (pv 5) pa_nil))))))
        (pss_one (ps_raise rfl (takes_of rfl rfl rfl rfl) (pmk_oex Y.oT Y.iT Y.tT GFI hr2 bFI .nil (fun _ _ _ _ _ _ _ h => False.elim h) rfl Y.gT (pa_cons (pv 4) pa_nil)))) pss_nil)
      (pss_one (ps_if (pt_cmp (pc_dnotin hu (pv 5) (pe_fld (pv 2) rfl)))
        (pss_cons (ps_expr (pe_meth (pv 2) M.Z.cl N_.mTk N_.GTk hr2 N_.bTk .nil pass0 (pa_cons (pv 5) pa_nil)))
        (pss_one (ps_expr (pe_bm PySem.F.plainAttrs_list PySem.F.slot_list_append PySem.F.type_list_append mt_append (pv 3) (pa_cons (pv 5) pa_nil))))) pss_nil))))
    (pss_cons (ps_fld (pv 0) (pv 2) rfl)
    (pss_one (ps_ret (pv 3)))))), ?_⟩
  obtain ⟨dn, hobj⟩ := N.obj
  refine ⟨_, rfl, v, CV, dx, _, _, rfl, hv, V_.cl, V_.nN, rfl, n, dn, _, rfl, hobj, rfl, n, fs, k, t, su, r, d, rfl, N, fun H1 o k1 t1 s1 r1 d1 e1 N1 z0 z1 z2 z3 z4 z5 => ?_⟩
  refine ⟨Nat.zero_le _, fun nl hnl => ?_⟩
  have e2 := e1.trans (Ext.new (o := .lst []) hnl)
  have N2 := N1.ext (Ext.new (o := .lst []) hnl)
  have l2 : (upd H1 nl (.lst [])) nl = some (.lst []) := upd_same
  have znl : H nl = none := was_none e1 hnl
  generalize upd H1 nl (.lst []) = H2 at e2 N2 l2 ⊢
  refine ⟨tp, xs, rfl, .inr (e2 _ _ htp), fun J wJ => ?_⟩
  have lxo : xs.length = os.length := Paired.length hos
  have fr : ∀ {Ha Hb : Hp}, Ext H Ha → Fr k1 t1 s1 r1 d1 Ha Hb → Ext H Hb := fun ea fb b o hb => fb b o (ne_of_none hb z1) (ne_of_none hb z2) (ne_of_none hb z3) (ne_of_none hb z4) (ne_of_none hb z5) (ea _ _ hb)
  refine for_it wJ (fun i σ H' => ∃ (v4 v5 : Option V) (fsi newi : List Fact) (ys : List V), σ = [some (.ref v), some (.ref tp), some (.ref o), some (.ref nl), v4, v5] ∧ learnF fs [] 0 os = learnF fsi newi i (os.drop i) ∧ NtAt CN H' o fsi k1 t1 s1 r1 d1 ∧ H' nl = some (.lst ys) ∧ FactsAt H' ys newi ∧ Ext H H' ∧ fsi.length ≤ fs.length + i ∧ ys.length ≤ i)
    ⟨none, none, fs, [], [], rfl, by rw [List.drop_zero], N2, l2, .nil, e2, by omega, Nat.le_refl _⟩ (fun i σ H' _ ⟨_, _, _, _, _, _, _, _, _, _, e, _⟩ => (e _ _ htp).trans (e2 _ _ htp).symm) ?_ ?_
  · rintro i x σ H3 H4 hi ⟨v4, v5, fsi, newi, ys, rfl, hL, N3, l3, f3, e3, b3, c3⟩ ⟨T_, x1, x2, rfl, hT, rfl, hx1, hx2⟩
    cases hx1
    have e4 := e3.trans (Ext.new (o := .tup [.int (i : Nat), x2]) hT)
    have t4 : (upd H3 T_ (.tup [.int (i : Nat), x2])) T_ = some (.tup [.int (i : Nat), x2]) := upd_same
    have N4 := N3.ext (Ext.new (o := .tup [.int (i : Nat), x2]) hT)
    have l4 := Ext.new (o := .tup [.int (i : Nat), x2]) hT _ _ l3
    have f4 : FactsAt (upd H3 T_ (.tup [.int (i : Nat), x2])) ys newi := f3.but fun b xs z => Ext.new (o := .tup [.int (i : Nat), x2]) hT _ _ z
    generalize upd H3 T_ (.tup [.int (i : Nat), x2]) = H4 at e4 t4 N4 l4 f4 ⊢
    have hio : i < os.length := by omega
    obtain ⟨o', ho', ha⟩ : ∃ o', os[i]? = some o' ∧ ArgAt d0 g0 H (fNames rs) x2 o' := paired_get hos hx2
    have hdrop : os.drop i = o' :: os.drop (i + 1) := by
      rw [List.drop_eq_getElem_cons hio]
      rw [List.getElem?_eq_getElem hio] at ho'
      cases ho'
      rfl
    rw [hdrop] at hL
    have hv4 := e4 _ _ hv
    obtain ⟨y, hy, ho''⟩ := ha
    refine ⟨T_, _, rfl, SqT.of t4, rfl, _, _, rfl, _, _, rfl, rfl, ?_⟩
    refine ⟨_, rfl, _, rfl, v, CV, dx, _, _, rfl, hv4, V_.cl, V_.nF, rfl, d0, g0, fo, x2, y, rs, rfl, hF.ext e4, hy.kp (Kp.of e4), fun H5 k5 => ⟨_, rfl, ?_⟩⟩
    have e5 := e4.trans k5
    cases o' with
    | none =>
      have ho'' : factB (fNames rs) y = false := ho''
      rw [ho'']
      have hL : learnF fs [] 0 os = .error i := hL
      rw [hL] at hQ
      have hQ : Bad CF "index" (.int i) H E := hQ
      exact iteT ⟨_, rfl, by show 1 ≤ 1000; decide, fun b hb => bad_made hb (hQ.ext e5)⟩
    | some f =>
      obtain ⟨fb, ey, fok⟩ := ho''
      rw [fb]
      refine iteF ?_
      subst ey
      obtain ⟨pf, rfl, hpf⟩ := dk_fact (hy.kp (Kp.of e5))
      have N5 := N4.ext k5
      obtain ⟨dno, hno⟩ := N5.obj
      refine ⟨_, rfl, o, dno, _, rfl, hno, rfl, _, rfl, o, pf, f, fsi, k1, t1, s1, r1, d1, rfl, N5, hpf, fok, fun H6 k6 => ⟨_, rfl, ?_⟩⟩
      have e6 := e5.trans k6
      cases hru : ruled fsi f with
      | true =>
        have hL : learnF fs [] 0 os = .error i := by
          rw [hL]
          show (if ruled fsi f = true then _ else _) = _
          rw [if_pos hru]
        rw [hL] at hQ
        have hQ : Bad CF "index" (.int i) H E := hQ
        exact iteT ⟨_, rfl, by show 1 ≤ 1000; decide, fun b hb => bad_made hb (hQ.ext e6)⟩
      | false =>
        refine iteF ?_
        have hL : learnF fs [] 0 os = if f ∈ fsi then learnF fsi newi (i + 1) (os.drop (i + 1)) else learnF (fsi ++ [f]) (newi ++ [f]) (i + 1) (os.drop (i + 1)) := by
          rw [hL]
          show (if ruled fsi f = true then _ else _) = _
          rw [if_neg (by rw [hru]; exact Bool.false_ne_true)]
        have N6 := N5.ext k6
        obtain ⟨dn6, hn6⟩ := N6.obj
        have hpf6 := hpf.ext k6
        have l6 := k6 _ _ (k5 _ _ l4)
        have f6 : FactsAt H6 ys newi := f4.but fun b xs z => k6 _ _ (k5 _ _ z)
        refine ⟨_, rfl, _, rfl, o, CN, dn6, _, _, rfl, hn6, M.Z.cl, M.Z.n1, rfl, k1, _, rfl, DGet.t N6.hk hpf6.key, _, rfl, ?_⟩
        rw [known_val]
        by_cases hm : f ∈ fsi
        · rw [if_pos hm]
          rw [if_pos hm] at hL
          exact iteF ⟨_, _, fsi, newi, ys, rfl, hL, N6, l6, f6, e6, by omega, by omega⟩
        · rw [if_neg hm]
          rw [if_neg hm] at hL
          refine iteT ?_
          refine ⟨_, rfl, o, dn6, _, rfl, hn6, rfl, _, rfl, o, pf, f, fsi, k1, t1, s1, r1, d1, rfl, N6, hpf6, fok, hm, hru, by omega, fun H7 fr7 N7 => ?_⟩
          have e7 := fr e6 fr7
          obtain ⟨tv6, W6, _⟩ := N6.nw
          have l7 := fr7.lst W6 l6
          have hpf7 : FAt H7 pf f := fr7.tup W6 hpf6
          have f7 : FactsAt H7 ys newi := f6.but fun b xs z => fr7.tup W6 z
          refine ⟨_, rfl, .inl ⟨rfl, _, SqL.of l7⟩, _, rfl, nl, _, _, rfl, rfl, l7, small1000 (by omega), ?_⟩
          have b7 : ∀ b o, b ≠ nl → H7 b = some o → (upd H7 nl (.lst (ys ++ [.ref pf]))) b = some o := fun b o nb hb => by rw [upd_ne nb]; exact hb
          have tup8 : ∀ b xs, H7 b = some (.tup xs) → (upd H7 nl (.lst (ys ++ [.ref pf]))) b = some (.tup xs) := fun b xs z => b7 _ _ (ne_of z l7 (by intro z; cases z)) z
          have onl : o ≠ nl := by
            obtain ⟨_, h7⟩ := N7.obj
            exact ne_of h7 l7 (by intro z; cases z)
          refine ⟨_, _, fsi ++ [f], newi ++ [f], ys ++ [.ref pf], rfl, hL, N7.butL l7 b7, upd_same, paired_snoc (f7.but tup8) ⟨pf, rfl, tup8 _ _ hpf7⟩, fun b o hb => b7 _ _ (ne_of_none hb znl) (e7 _ _ hb), by rw [List.length_append]; show fsi.length + 1 ≤ _; omega, by rw [List.length_append]; show ys.length + 1 ≤ _; omega⟩
  · rintro σ H3 ⟨v4, v5, fsi, newi, ys, rfl, hL, N3, l3, f3, e3, b3, c3⟩
    rw [lxo, List.drop_length] at hL
    rw [hL] at hQ
    have hQ : ∀ H' l n' k t s r d ys, (∀ b o, b ≠ v → H b = some o → H' b = some o) → H' v = some (.ins CV dx [("_forest", .ref fo), ("_notes", .ref n')]) → NtAt CN H' n' fsi k t s r d → H' l = some (.lst ys) → FactsAt H' ys newi → Q (.ref l) H' := hQ
    refine ⟨_, rfl, _, rfl, v, CV, dx, _, rfl, e3 _ _ hv, V_.cl, V_.nN, by show 2 < 1000; decide, ?_⟩
    have ov : o ≠ v := fun e => by rw [e, hv] at z0; cases z0
    have nlv : nl ≠ v := fun e => by rw [e, hv] at znl; cases znl
    have hv3 := e3 _ _ hv
    refine ⟨_, rfl, hQ _ nl o k1 t1 s1 r1 d1 ys (fun b o nb hb => by rw [upd_ne nb]; exact e3 _ _ hb) upd_same (N3.but hv3 ov fun b o nb hb => by rw [upd_ne nb]; exact hb) (by rw [upd_ne nlv]; exact l3) (f3.but fun b xs z => by rw [upd_ne (ne_of z hv3 (by intro z; cases z))]; exact z)⟩
end
end Lw

set_option Elab.async false
set_option linter.all false
set_option maxRecDepth 100000
set_option maxHeartbeats 4000000
/-! sorted(a list of tuples of ints and texts); (i, x) <= (j, y) -/
namespace Gc
open L2
open PySem PySem.Spec PyProof.Rows
abbrev It := Int ⊕ List Nat
def kD : Key → It
  | .inl i => .inl i
  | .inr x => .inr x.cps.toList
def Fits (shape : Nat → Bool) : Nat → List Key → Prop
  | _, [] => True
  | i, .inl _ :: r => shape i = false ∧ Fits shape (i + 1) r
  | i, .inr _ :: r => shape i = true ∧ Fits shape (i + 1) r
theorem items_fit {shape : Nat → Bool} : ∀ {ks : List Key} {us : List Value} {i : Nat}, Vals (ks.map kV) us → Fits shape i ks → PyProof.Rows.tupItems shape i us = some (ks.map kD)
  | [], _, _, .nil, _ => rfl
  | .inl z :: r, _, i, .cons h a, f => by
    obtain ⟨t, rfl⟩ := h
    have ih := items_fit (ks := r) a f.2
    show (if shape i = true then none else (PyProof.Rows.tupItems shape (i + 1) _).map (Sum.inl z :: ·)) = _
    rw [f.1, ih]
    rfl
  | .inr x :: r, _, i, .cons h a, f => by
    obtain ⟨t, rfl⟩ := h
    have ih := items_fit (ks := r) a f.2
    show (if shape i = true then (PyProof.Rows.tupItems shape (i + 1) _).map (Sum.inr x.cps.toList :: ·) else none) = _
    rw [f.1, ih]
    rfl
theorem perm_inv {α β : Type} {f : α → β} {l l' : List β} (h : l.Perm l') : ∀ {L : List α}, l = L.map f → ∃ L' : List α, L'.Perm L ∧ l' = L'.map f := by
  induction h with
  | nil =>
    intro L e
    cases L with
    | nil => exact ⟨[], List.Perm.refl _, rfl⟩
    | cons _ _ => cases e
  | cons x _ ih =>
    intro L e
    cases L with
    | nil => cases e
    | cons a r =>
      injection e with e1 e2
      obtain ⟨L', p, q⟩ := ih e2
      exact ⟨a :: L', p.cons a, by rw [List.map_cons, ← q, e1]⟩
  | swap x y l =>
    intro L e
    cases L with
    | nil => cases e
    | cons a r => cases r with
      | nil => injection e with _ e2; cases e2
      | cons b r =>
        injection e with e1 e2
        injection e2 with e2 e3
        exact ⟨b :: a :: r, List.Perm.swap a b r, by rw [List.map_cons, List.map_cons, ← e1, ← e2, ← e3]⟩
  | trans _ _ h1 h2 =>
    intro L e
    obtain ⟨L1, p1, q1⟩ := h1 e
    obtain ⟨L2', p2, q2⟩ := h2 q1
    exact ⟨L2', p2.trans p1, q2⟩
section
variable {X : Cx}
def vR (q : Addr × List Key) : V := .ref q.1
def uR (q : Addr × List Key) : Value := .ref q.1
theorem vals_rs : ∀ {L : List (Addr × List Key)} {us : List Value}, Vals (L.map vR) us → us = L.map uR
  | [], _, .nil => rfl
  | q :: r, _, .cons h a => by
    cases h
    rw [vals_rs a]
    rfl
/-- is the second not below the first -/
def leT (q r : Addr × List Key) : Prop := PyProof.Rows.lexLt PyProof.Rows.itemOrd (r.2.map kD) (q.2.map kD) = false
def rSortK (shape : Nat → Bool) (K : PySem.W.Frag) : List V → Hp → VK → Prop := fun vs H Q => ∃ (a : Addr) (L : List (Addr × List Key)), vs = [V.ref a] ∧ SqL K H a (L.map vR) ∧ (∀ q ∈ L, H q.1 = some (.tup (q.2.map kV)) ∧ q.2 ≠ [] ∧ Fits shape 0 q.2) ∧
  ∀ (L' : List (Addr × List Key)) (p : Addr), L'.Perm L → L'.Pairwise leT → H p = none → Q (.ref p) (upd H p (.lst (L'.map vR)))
theorem tup_here {shape : Nat → Bool} {pins : List (Addr × Obj)} {σ : L2.St} {H : Hp} {s : Shared} (I : Inv X pins σ H s) {t : Addr} {ks : List Key} (h : H t = some (.tup (ks.map kV))) (hne : ks ≠ []) (hf : Fits shape 0 ks) :
    PyProof.Rows.G.tupKeyC s.heap shape (.ref t) = some (ks.map kD) ∧ ∃ f, PyProof.Rows.TupOf s.heap shape (.ref t) f := by
  obtain ⟨_, its, r, o, ho, hc, n, hd⟩ := I.hok _ _ h
  have e := items_fit r hf
  refine ⟨?_, ?_⟩
  · have h1 : PyProof.Rows.G.isTupObj s.heap (.ref t) = true := by
      show (match s.heap.get? t with | some o => (match o.cls with | .type n => n == "tuple" | _ => false) | none => false) = true
      rw [ho]
      show (match o.cls with | .type n => n == "tuple" | _ => false) = true
      rw [hc]
      rfl
    unfold PyProof.Rows.G.tupKeyC
    rw [if_pos h1]
    show (match s.heap.get? t with | some o => (match o.data with | .seq xs _ => PyProof.Rows.tupItems shape 0 xs.toList | _ => none) | none => none) = _
    rw [ho]
    show (match o.data with | .seq xs _ => PyProof.Rows.tupItems shape 0 xs.toList | _ => none) = _
    rw [hd]
    exact e
  · cases ks with
    | nil => exact absurd rfl hne
    | cons k r' =>
      cases r with
      | cons rk ra =>
        rename_i u us
        refine ⟨u, t, o, _, n, rfl, ho, hc, hd, rfl, fun hs => ?_, fun hs => ?_⟩
        · cases k with
          | inl z => obtain ⟨t', rfl⟩ := rk; exact ⟨_, _, rfl⟩
          | inr x => rw [hf.1] at hs; cases hs
        · cases k with
          | inl z => rw [hf.1] at hs; cases hs
          | inr x => obtain ⟨t', rfl⟩ := rk; exact ⟨_, _, rfl⟩
theorem cr_sortK (shape : Nat → Bool) : CallR X (.builtin "sorted") (rSortK shape X.K) := by
  intro pins s σ H vs us Q I r h
  obtain ⟨a, L, rfl, hs, hx, q⟩ := h
  obtain ⟨its, rv, hl, hz⟩ := I.list hs
  obtain ⟨u, rfl, ru⟩ := vals1 r
  obtain rfl : u = Value.ref a := ru
  have ei := vals_rs rv
  subst ei
  have key : ∀ q ∈ L, PyProof.Rows.G.tupKeyC s.heap shape (uR q) = some (q.2.map kD) := fun q hq => (tup_here I (hx q hq).1 (hx q hq).2.1 (hx q hq).2.2).1
  obtain ⟨fs, ht⟩ : ∃ fs, PyProof.Rows.TupsOf s.heap shape (L.map uR) fs := by
    have : ∀ L' : List (Addr × List Key), (∀ q ∈ L', q ∈ L) → ∃ fs, PyProof.Rows.TupsOf s.heap shape (L'.map uR) fs := by
      intro L'
      induction L' with
      | nil => intro _; exact ⟨[], .nil⟩
      | cons q r ih =>
        intro hm
        obtain ⟨fs, hfs⟩ := ih fun x hx => hm x (List.mem_cons_of_mem _ hx)
        have hq := hm q (List.mem_cons_self ..)
        obtain ⟨f, hf⟩ := (tup_here I (hx q hq).1 (hx q hq).2.1 (hx q hq).2.2).2
        exact ⟨f :: fs, .cons hf hfs⟩
    exact this L fun q h => h
  refine PyProof.Rows.G.sorted_tups hl.isList ht (fun v hv => ?_) (by rw [List.length_map]; rw [List.length_map] at hz; exact hz) fun st' hp hst hstb => ?_
  · obtain ⟨q, hq, rfl⟩ := List.mem_map.mp hv
    exact ⟨_, key q hq⟩
  · generalize harr : arrOf st' = arr at hp hst
    have hpl : arr.toList.Perm ((L.map uR).zip (L.map uR)) := by
      have := hp.toList
      rwa [pairsOf_toList] at this
    obtain ⟨L', pL, eL⟩ : ∃ L' : List (Addr × List Key), L'.Perm L ∧ arr.toList = L'.map fun q => (uR q, uR q) := perm_inv (f := fun q => (uR q, uR q)) hpl.symm (by
      clear hx q key ht hz hs rv r hl hpl hp hst hstb harr
      induction L with
      | nil => rfl
      | cons a b ih => show (uR a, uR a) :: _ = (uR a, uR a) :: _; rw [← ih]; rfl)
    have out : (arr.map (·.2)).toList = L'.map uR := by rw [Array.toList_map, eL, List.map_map]; rfl
    have sz : (pairsOf (L.map uR)).size = L'.length := by rw [pairsOf_size, List.length_map, pL.length_eq]
    obtain ⟨n, hn⟩ := sortedAll_at s.heap (L.map uR) (arr.map (·.2))
    have vals : Vals (L'.map vR) (L'.map uR) := by
      clear hx q key ht hz hs rv r hl hpl hp hst harr pL eL out sz hn
      induction L' with
      | nil => exact .nil
      | cons a b ih => exact .cons rfl ih
    refine ⟨.ref (s.heap.objs.size + 1), upd H (s.heap.objs.size + 1) (.lst (L'.map vR)), I.laid (t' := s.toks) (fun b o e => sortedAll_old e) (Nat.le_succ _) ⟨?_, L'.map uR, n, vals, ?_⟩, rfl, q L' _ pL ?_ (I.hok.fresh (Nat.le_succ _))⟩
    · rw [List.length_map, pL.length_eq]; rw [List.length_map] at hz; exact hz
    · have eA : arr.map (·.2) = (L'.map uR).toArray := by rw [← out]
      exact hn.trans (by rw [eA])
    · rw [List.pairwise_iff_getElem]
      intro i j hi hj hij
      have := hst i j (Nat.le_of_lt hij) (by rw [sz]; exact hj)
      have kk : ∀ k (hk : k < L'.length), KK (PyProof.Rows.G.tupKindC s.heap shape) arr k = (L'[k].2.map kD) := fun k hk => by
        have e : arr[k]? = some (uR L'[k], uR L'[k]) := by
          rw [← Array.getElem?_toList, eL, List.getElem?_map, List.getElem?_eq_getElem hk]
          rfl
        unfold KK
        rw [e]
        show (PyProof.Rows.G.tupKeyC s.heap shape (uR L'[k])).getD [] = _
        rw [key _ (pL.mem_iff.mp (List.getElem_mem hk))]
        rfl
      rw [kk i hi, kk j hj] at this
      exact this
/-- (i, x) <= (j, y) -/
def leP (i : Int) (m : Str) (j : Int) (n : Str) : Bool := if i = j then !decide (n.cps.toList < m.cps.toList) else decide (i ≤ j)
def rLeP (K : PySem.W.Frag) : R2 := fun x y H Q => ∃ (a b : Addr) (i j : Int) (m n : Str), x = .ref a ∧ y = .ref b ∧ SqT K H a [.int i, .str m] ∧ SqT K H b [.int j, .str n] ∧ Q (.bl (leP i m j n)) H
theorem list_irr : ∀ l : List Nat, ¬ l < l
  | [] => fun h => by cases h
  | a :: r => fun h => by
    rcases List.cons_lt_cons_iff.mp h with h | ⟨_, h⟩
    · exact Nat.lt_irrefl _ h
    · exact list_irr r h
theorem op_leP (hu : X.A.units < cLine) : OpR X (compareOp .LtE) (rLeP X.K) := by
  intro pins s σ H x y v u Q I rx ry h
  obtain ⟨a, b, i, j, m, n, rfl, rfl, ha, hb, q⟩ := h
  cases rx
  cases ry
  obtain ⟨its, r1, p1, _⟩ := I.tuple ha
  obtain ⟨its2, r2, p2, _⟩ := I.tuple hb
  obtain ⟨u1, u2, rfl, ri, rm⟩ := vals2 r1
  obtain ⟨w1, w2, rfl, rj, rn⟩ := vals2 r2
  obtain ⟨t1, rfl⟩ := ri
  obtain ⟨t2, rfl⟩ := rm
  obtain ⟨t3, rfl⟩ := rj
  obtain ⟨t4, rfl⟩ := rn
  have R := Ob.RcOp.tuples_le (A := X.A) (s := s) (e := fun k => if k = 0 then (i == j) else (m == n)) (r := fun k => if k = 0 then decide (i ≤ j) else !decide (n.cps.toList < m.cps.toList)) p1 p2 hu (fun k h1 h2 => by
    match k, h1, h2 with
    | 0, _, _ => exact SeqAt.EqAt.int_int _ _ _ _
    | 1, _, _ => exact SeqAt.EqAt.str_str _ _ _ _
    | k + 2, h1, _ => exact absurd h1 (by simp)) (fun k h1 h2 _ => by
    match k, h1, h2 with
    | 0, _, _ => exact Ob.RcOp.le_int _ _ _ _
    | 1, _, _ => exact fun _ _ _ _ h => PySem.P.le_str h
    | k + 2, h1, _ => exact absurd h1 (by simp))
  have z : wpAny (model X.prog X.w) X.A (compareOp .LtE (.ref a) (.ref b)) (EP X pins σ Q) X.xe s := R X.prog X.w X.xe (EP X pins σ Q) ⟨.bl _, H, I, rfl, by
    have e : Ob.lexAt (fun k => if k = 0 then (i == j) else (m == n)) (fun k => if k = 0 then decide (i ≤ j) else !decide (n.cps.toList < m.cps.toList)) (decide (2 ≤ 2)) 0 2 = leP i m j n := by
      show (if (i == j) = true then (if (m == n) = true then true else !decide (n.cps.toList < m.cps.toList)) else decide (i ≤ j)) = _
      unfold leP
      by_cases h : i = j
      · rw [if_pos (beq_iff_eq.mpr h), if_pos h]
        by_cases k : m = n
        · subst k
          rw [if_pos (beq_iff_eq.mpr rfl), decide_eq_false (list_irr _)]
          rfl
        · rw [if_neg (fun z => k (beq_iff_eq.mp z))]
      · rw [if_neg (fun z => h (beq_iff_eq.mp z)), if_neg h]
    show Q (.bl (Ob.lexAt _ _ (decide (2 ≤ 2)) 0 (min 2 2))) H
    rw [show min 2 2 = 2 from rfl, e]
    exact q⟩
  exact z
end
end Gc

set_option Elab.async false
set_option linter.all false
set_option maxRecDepth 100000
set_option maxHeartbeats 4000000
/-! sorted(d), d's keys tuples of one shape -/
namespace Gc
open PySem PySem.Spec PyProof.Rows L2
section
variable {X : Cx}
def rSortDT (shape : Nat → Bool) : List V → Hp → VK → Prop := fun vs H Q => ∃ (a : Addr) (kvs : List (List Key × V)), vs = [V.ref a] ∧ Rd H a (.dT kvs) ∧ (∀ p ∈ kvs, p.1 ≠ [] ∧ Fits shape 0 p.1) ∧
  ∀ (L' : List (Addr × List Key)) (p : Addr), (L'.map Prod.snd).Perm (kvs.map Prod.fst) → (∀ q ∈ L', H q.1 = some (.tup (q.2.map kV))) → L'.Pairwise leT → H p = none → Q (.ref p) (upd H p (.lst (L'.map vR)))
theorem zip_uR : ∀ L : List (Addr × List Key), (L.map uR).zip (L.map uR) = L.map fun q => (uR q, uR q)
  | [] => rfl
  | a :: b => by
    show (uR a, uR a) :: _ = (uR a, uR a) :: _
    rw [← zip_uR b]
    rfl
theorem keys_of {H : Hp} {shape : Nat → Bool} {kvs : List (List Key × V)} {ks : List (List Key × Addr × Value)} (pr : Paired (fun (p : List Key × V) (q : List Key × Addr × Value) => p.1 = q.1 ∧ H q.2.1 = some (.tup (p.1.map kV)) ∧ RelV p.2 q.2.2) kvs ks) (hx : ∀ p ∈ kvs, p.1 ≠ [] ∧ Fits shape 0 p.1) :
    ∃ L : List (Addr × List Key), L = ks.map (fun x => (x.2.1, x.1)) ∧ L.map Prod.snd = kvs.map Prod.fst ∧ ∀ p ∈ L, H p.1 = some (.tup (p.2.map kV)) ∧ p.2 ≠ [] ∧ Fits shape 0 p.2 := by
  induction pr with
  | nil => exact ⟨[], rfl, rfl, fun p hp => by cases hp⟩
  | @cons p q ps qs h _ ih =>
    obtain ⟨L, rfl, h1, h2⟩ := ih fun p hp => hx p (List.mem_cons_of_mem _ hp)
    have hp := hx p (List.mem_cons_self ..)
    obtain ⟨pk, pw⟩ := p
    obtain ⟨qk, qa, qv⟩ := q
    obtain ⟨e1, e2, e3⟩ := h
    have e1 : pk = qk := e1
    subst e1
    refine ⟨(qa, pk) :: qs.map (fun x => (x.2.1, x.1)), rfl, by rw [List.map_cons, List.map_cons, h1], fun x hxm => ?_⟩
    rcases List.mem_cons.mp hxm with rfl | hxm
    · exact ⟨e2, hp.1, hp.2⟩
    · exact h2 x hxm
theorem cr_sortDT (hc : X.calm = true) (shape : Nat → Bool) : CallR X (.builtin "sorted") (rSortDT shape) := by
  intro pins s σ H vs us Q I r h
  obtain ⟨a, kvs, rfl, hd, hx, q⟩ := h
  obtain ⟨u, rfl, ru⟩ := vals1 r
  obtain rfl : u = Value.ref a := ru
  obtain ⟨z, lo, ks, pr, o, es, ep, ho, hxd, hdt, he, hn⟩ := (show ObjOk X.prog X.w H s.heap a (.dT kvs) from hd.ok I.hok)
  have l1 : es.size = ks.length := size_of_entries he
  have l2 : kvs.length = ks.length := Paired.length pr
  obtain ⟨L, hLk, hL1, hL2⟩ := keys_of pr hx
  have lL : L.length = ks.length := by rw [hLk, List.length_map]
  have z16 : L.length ≤ sizeLine := by omega
  refine Calls.call_function_entry PyProof.Rows.kind_sorted PyProof.Rows.plain_sorted PyProof.Rows.entry_sorted (PyProof.Rows.args_sorted1 _) ?_
  unfold Builtin.«sorted»
  refine wpAny_bind (m := checkCount "sorted" 1 1 _) (wpAny_pure ?_)
  refine wpAny_bind (PySem.W.kdu_collect (A := X.A.in1) (kdl_raw lo hxd hdt) (I.ok.hd hc) ho (by omega) fun h' tk acc hk it => ?_)
  have ea : acc.toList = L.map uR := by
    have hl : acc.toList.length = ks.length := by rw [Array.length_toList, it.1]; exact l1
    refine List.ext_getElem? fun j => ?_
    rw [hLk, List.getElem?_map, List.getElem?_map]
    cases hj : acc.toList[j]? with
    | none =>
      have h1 := List.getElem?_eq_none_iff.mp hj
      rw [List.getElem?_eq_none (by omega)]
      rfl
    | some v =>
      obtain ⟨en, hen, hv⟩ := it.2 j v (by rw [← Array.getElem?_toList]; exact hj)
      have qe := entry_at he j
      rw [hen] at qe
      cases hb : ks[j]? with
      | none =>
        rw [hb] at qe
        cases qe
      | some b =>
        rw [hb] at qe
        have e2 : en = entryOfKey (tupleKind (mixKind X.prog X.w)) b := Option.some.inj qe
        rw [hv, e2]
        rfl
  have I1 : Inv X pins σ H { s with heap := h', toks := tk } := I.kept hk
  rw [ea]
  clear ea hLk
  have lu : (L.map uR).length ≤ sizeLine := by rw [List.length_map]; exact z16
  refine wpAny_bind (wpAny_newList ?_ lu)
  have hoL : (h'.push (seqObj "list" (L.map uR).toArray 0)).get? h'.objs.size = some (seqObj "list" (L.map uR).toArray 0) := Heap.get?_push_size _ rfl
  show wpAny _ _ _ _ _ { s with heap := h'.push (seqObj "list" (L.map uR).toArray 0), toks := tk }
  -- the heap of the sort, tracked
  have I2 : Inv X pins σ (upd H h'.objs.size (.lst (L.map vR))) { s with heap := h'.push (seqObj "list" (L.map uR).toArray 0), toks := tk } := by
    refine I1.laid (t' := tk) (fun b u e => Heap.get?_push_of_some _ e) (Nat.le_refl _) ⟨by rw [List.length_map]; exact z16, L.map uR, 0, ?_, hoL⟩
    clear hL1 hL2 lL z16 hoL lu
    induction L with
    | nil => exact .nil
    | cons a b ih => exact .cons rfl ih
  have fresh : H h'.objs.size = none := I1.hok.fresh (Nat.le_refl _)
  have hL3 : ∀ p ∈ L, (upd H h'.objs.size (.lst (L.map vR))) p.1 = some (.tup (p.2.map kV)) := fun p hp => by
    rw [upd_ne (ne_of_none (hL2 p hp).1 fresh)]
    exact (hL2 p hp).1
  have key : ∀ q ∈ L, PyProof.Rows.G.tupKeyC (h'.push (seqObj "list" (L.map uR).toArray 0)) shape (uR q) = some (q.2.map kD) := fun q hq => (tup_here I2 (hL3 q hq) (hL2 q hq).2.1 (hL2 q hq).2.2).1
  obtain ⟨fs, ht⟩ : ∃ fs, PyProof.Rows.TupsOf (h'.push (seqObj "list" (L.map uR).toArray 0)) shape (L.map uR) fs := by
    have : ∀ L' : List (Addr × List Key), (∀ q ∈ L', q ∈ L) → ∃ fs, PyProof.Rows.TupsOf (h'.push (seqObj "list" (L.map uR).toArray 0)) shape (L'.map uR) fs := by
      intro L'
      induction L' with
      | nil => intro _; exact ⟨[], .nil⟩
      | cons q r ih =>
        intro hm
        obtain ⟨fs, hfs⟩ := ih fun x hx => hm x (List.mem_cons_of_mem _ hx)
        have hq := hm q (List.mem_cons_self ..)
        obtain ⟨f, hf⟩ := (tup_here I2 (hL3 q hq) (hL2 q hq).2.1 (hL2 q hq).2.2).2
        exact ⟨f :: fs, .cons hf hfs⟩
    exact this L fun q h => h
  refine wpAny_bind (wpAny_holding (wpAny_call_entry PyProof.Rows.slot_list_sort ⟨_, hoL, rfl⟩ PyProof.Rows.entry_list_sort
    (PyProof.Rows.G.list_sort_tups (s := { s with heap := h'.push (seqObj "list" (L.map uR).toArray 0), toks := tk }) hoL ht (fun v hv => by
      obtain ⟨q, hq, rfl⟩ := List.mem_map.mp hv
      exact ⟨_, key q hq⟩) lu fun st' hp hst _ => ⟨_, rfl, ?_⟩)
    (PyProof.Rows.args_list_sort _)))
  generalize harr : arrOf st' = arr at hp hst
  have hpl : arr.toList.Perm ((L.map uR).zip (L.map uR)) := by
    have := hp.toList
    rwa [pairsOf_toList] at this
  obtain ⟨L', pL, eL⟩ : ∃ L' : List (Addr × List Key), L'.Perm L ∧ arr.toList = L'.map fun q => (uR q, uR q) := perm_inv (f := fun q => (uR q, uR q)) hpl.symm (zip_uR L)
  have out : (arr.map (·.2)).toList = L'.map uR := by rw [Array.toList_map, eL, List.map_map]; rfl
  have sz : (pairsOf (L.map uR)).size = L'.length := by rw [pairsOf_size, List.length_map, pL.length_eq]
  obtain ⟨e', he'⟩ := PyProof.Rows.sortedHeap_at (vs := L.map uR) (out := arr.map (·.2)) hoL
  have vals : Vals (L'.map vR) (L'.map uR) := by
    clear pL eL out sz
    induction L' with
    | nil => exact .nil
    | cons a b ih => exact .cons rfl ih
  have eA : arr.map (·.2) = (L'.map uR).toArray := by rw [← out]
  refine wpAny_pure ⟨_, rfl, .ref h'.objs.size, upd H h'.objs.size (.lst (L'.map vR)), I1.laid (t' := tk) (fun b u e => ?_) (Nat.le_refl _) ⟨by rw [List.length_map, pL.length_eq]; exact z16, L'.map uR, e', vals, he'.trans (by rw [eA])⟩, rfl, q L' _ ?_ (fun x hx => ?_) ?_ fresh⟩
  · have hb : b < h'.objs.size := Heap.lt_size e
    rw [PyProof.Rows.sortedHeap_old (Nat.ne_of_lt hb) (by rw [size_push']; exact Nat.lt_succ_of_lt hb)]
    exact Heap.get?_push_of_some _ e
  · rw [← hL1]
    exact pL.map _
  · exact (hL2 x (pL.mem_iff.mp hx)).1
  · rw [List.pairwise_iff_getElem]
    intro i j hi hj hij
    have := hst i j (Nat.le_of_lt hij) (by rw [sz]; exact hj)
    have kk : ∀ k (hk : k < L'.length), KK (PyProof.Rows.G.tupKindC (h'.push (seqObj "list" (L.map uR).toArray 0)) shape) arr k = (L'[k].2.map kD) := fun k hk => by
      have e : arr[k]? = some (uR L'[k], uR L'[k]) := by
        rw [← Array.getElem?_toList, eL, List.getElem?_map, List.getElem?_eq_getElem hk]
        rfl
      unfold KK
      rw [e]
      show (PyProof.Rows.G.tupKeyC _ shape (uR L'[k])).getD [] = _
      rw [key _ (pL.mem_iff.mp (List.getElem_mem hk))]
      rfl
    rw [kk i hi, kk j hj] at this
    exact this
end
end Gc

set_option Elab.async false
set_option linter.all false
set_option maxRecDepth 100000
set_option maxHeartbeats 4000000
/-! x not in a tuple of texts that the module holds, x of any kind -/
namespace Gj
open L2 hiding Ext
open PySem PySem.Spec PyProof.Rows Gn Gk Gu SeqAt
def rInK (K : PySem.W.Frag) (neg : Bool) : R2 := fun x y H Q => ∃ (p : Addr) (ws : List Str), y = .ref p ∧ SqT K H p (ws.map V.str) ∧
  ((flatV x = true ∧ Q (.bl (if neg then !inV x (ws.map V.str) else inV x (ws.map V.str))) H) ∨ ∃ a, x = .ref a ∧ Cont H a ∧ Q (.bl neg) H)
variable {X : Cx} (h64 : X.A.units + 64 < cLine)
include h64 in
theorem op_notInK : OpR X (compareOp .NotIn) (rInK X.K true) := by
  have hu : X.A.in1.units < cLine := by show X.A.units + 1 < cLine; omega
  intro pins s σ H x y v u Q I rx ry h
  obtain ⟨p, ws, rfl, hp, h⟩ := h
  rcases h with ⟨fx, q⟩ | ⟨a, rfl, hc, q⟩
  · exact op_notIn_seq pins s σ H x _ v u Q I rx ry ⟨p, _, rfl, .inr hp, fx, str_flat _, q⟩
  · cases rx
    cases ry
    obtain ⟨its, r, pl, _⟩ := I.tuple hp
    refine notIn_tupleAt (fun _ => false) pl (fun w hw => strs_false I hc hu r w (by simpa using hw)) ⟨.bl _, H, I, rfl, ?_⟩
    rw [show its.toArray.any (fun _ => false) = false by simp]
    exact q
end Gj

set_option Elab.async false
set_option linter.all false
set_option maxRecDepth 100000
set_option maxHeartbeats 4000000
namespace Lw
open L2 hiding Ext
open PySem PySem.Spec PyProof.Rows Gn Gr Gk Go Gt Gf Gu Gdw Gx
abbrev sVwFacts : Stmt := (cBody (top 41)).getD 3 (.Pass ⟨0, 0, 0, 0⟩)
section
variable {P : Program} {w : World} {K : PySem.W.Frag} {mg : Str → Option Value} {base : Heap} {C CV CN CF fFI fNI : Addr} {fdFI fdNI : FuncData}
theorem learn_R {f fIf fTw fRo fTk : Addr} {fd fdIf fdTw fdRo fdTk : FuncData} (F : Fun K "learn" "View.learn" sVwLearn f fd) (T : Names mg) (V_ : VC K CV) (M : NMk P w K mg base CN fNI fdNI) (N_ : NM P w K mg base CN fTw fRo fTk fdTw fdRo fdTk) (Y : XN K mg "InvalidFact" "index" CF fFI)
    (GFI : FnOk P w K mg base CX0 1 fFI fdFI ["self", "index"] (spFI CF "index")) (bFI : Binds K fdFI ["self", "index"] [])
    (GIf : FnOk P w K mg base CX0 4 fIf fdIf ["value", "forest"] (spIsFact C)) (bIf : Binds K fdIf ["value", "forest"] []) (kIf : PySem.W.keepIn K (.ref fIf) = true) (mIf : mg "is_fact" = some (.ref fIf))
    (hb : ∀ (kV doc pm : Value) (an : Option Addr) (cdv ct : Value) (us rest : List Value), us.length = (["self"] : List Str).length → bindArgs (PySem.W.fnOf "learn" "View.learn" (defArgs sVwLearn) (defBody sVwLearn) (defScope sVwLearn) .none kV doc pm an cdv ct) ⟨us ++ rest, []⟩ = (newTuple rest >>= fun t => pure ((["self"] : List Str).zip us ++ [(("facts" : Str), t)]))) :
    FnR P w K mg base (L2.CX P w) 5 f (fun vs H Q E => ∃ ws rest, vs = ws ++ rest ∧ ws.length = (["self"] : List Str).length ∧ rest.length ≤ sizeLine ∧ ∀ p, H p = Option.none → spLearnB C CV CN CF (ws ++ [V.ref p]) (upd H p (.tup rest)) Q E) := by
  obtain ⟨oc, od, kV, doc, pm, an, cdv, ct, osl, rfl, lk, hcd⟩ := F.ex
  exact StX.fn_star lk hcd scVwLearn StX.cxUp (hb kV doc pm an cdv ct) fun A outer s H vs Q E hr h => body_learn T V_ M N_ Y GFI bFI GIf bIf kIf mIf cdv A outer s H vs Q E hr h
/-- one fact more -/
def spLearn1 (C CV CN CF : Addr) : Sp := fun vs H Q E => ∃ (v d0 g0 dx fo n : Addr) (x : V) (o : Option Fact) (rs : List FRow) (fs : List Fact) (k t s r d : Addr), vs = [.ref v, x] ∧
  H v = some (.ins CV dx [("_forest", .ref fo), ("_notes", .ref n)]) ∧ FoAt C H fo rs ∧ NtAt CN H n fs k t s r d ∧ ArgAt d0 g0 H (fNames rs) x o ∧ fs.length ≤ 900 ∧
  match learnF fs [] 0 [o] with
  | .error i => Bad CF "index" (.int i) H E
  | .ok (fs', new) => ∀ H' l n' k t s r d ys, (∀ b o, b ≠ v → H b = some o → H' b = some o) → H' v = some (.ins CV dx [("_forest", .ref fo), ("_notes", .ref n')]) → NtAt CN H' n' fs' k t s r d → H' l = some (.lst ys) → FactsAt H' ys new → Q (.ref l) H'
theorem learn1_R {f : Addr} (F : FnR P w K mg base (L2.CX P w) 5 f (fun vs H Q E => ∃ ws rest, vs = ws ++ rest ∧ ws.length = (["self"] : List Str).length ∧ rest.length ≤ sizeLine ∧ ∀ p, H p = Option.none → spLearnB C CV CN CF (ws ++ [V.ref p]) (upd H p (.tup rest)) Q E)) :
    FnR P w K mg base (L2.CX P w) 5 f (spLearn1 C CV CN CF) := F.imp fun vs H Q E h => by
  obtain ⟨v, d0, g0, dx, fo, n, x, o, rs, fs, k, t, su, r, d, rfl, hv, hF, N, ha, hl, hQ⟩ := h
  refine ⟨[.ref v], [x], rfl, rfl, by show 1 ≤ sizeLine; decide, fun p hp => ?_⟩
  have e := Ext.new (o := .tup [x]) hp
  refine ⟨v, p, d0, g0, dx, fo, n, [x], [o], rs, fs, k, t, su, r, d, rfl, e _ _ hv, hF.ext e, N.ext e, upd_same, .cons (ha.kp (Kp.of e)) .nil, by show fs.length + 1 ≤ 1000; omega, ?_⟩
  cases e1 : learnF fs [] 0 [o] with
  | error i =>
    rw [e1] at hQ
    have hQ : Bad CF "index" (.int i) H E := hQ
    exact hQ.ext e
  | ok z =>
    obtain ⟨fs', new⟩ := z
    rw [e1] at hQ
    exact fun H' l n' k t s r d ys kb hv' N' hl' hf' => hQ H' l n' k t s r d ys (fun b o nb hb => kb b o nb (e _ _ hb)) hv' N' hl' hf'
/-! ### View.facts of a view of one fact -/
def shp (f : Fact) : Nat → Bool := fun i => match f.ks[i]? with
  | some (.inr _) => true
  | _ => false
theorem shp_fits (f : Fact) : f.ks ≠ [] ∧ Gc.Fits (shp f) 0 f.ks := by
  cases f <;> refine ⟨by simp [Fact.ks], ?_⟩ <;> simp [Fact.ks, Gc.Fits, shp]
def spVwFacts1 (CV CN : Addr) : Sp := fun vs H Q _ => ∃ (v dx fo n : Addr) (f : Fact) (k t s r d : Addr), vs = [.ref v] ∧ H v = some (.ins CV dx [("_forest", .ref fo), ("_notes", .ref n)]) ∧ NtAt CN H n [f] k t s r d ∧
  ∀ H' l b, Ext H H' → H' l = some (.lst [.ref b]) → FAt H' b f → Q (.ref l) H'
theorem scVwFacts : FnScope ["self"] ["self"] (defScope sVwFacts) := ⟨rfl, rfl, rfl, by decide +kernel, rfl, by decide +kernel, by decide +kernel⟩
theorem ok_vwFacts {f0 : Addr} {fd : FuncData} (F : Fun K "facts" "View.facts" sVwFacts f0 fd) (msort : mg "sorted" = none) (V_ : VC K CV) (M : NC K CN) : FnOk P w K mg base CX0 1 f0 fd ["self"] (spVwFacts1 CV CN) := by
  refine F.ok scVwFacts (fun vs H Q E h => ?_) (fun cdv A outer s H vs Q E hr h => ?_)
  · obtain ⟨v, dx, fo, n, f, k, t, su, r, d, rfl, _⟩ := h
    rfl
  · obtain ⟨v, dx, fo, n, f, k, t, su, r, d, rfl, hv, N, q⟩ := h
    obtain ⟨dn, hn⟩ := N.obj
    refine ⟨_, pss_one (ps_ret (pe_callB (Gc.cr_sortDT rfl (shp f)) rfl msort (by decide +kernel) (pa_cons (pe_fld (pe_fld (pv 0) rfl) rfl) pa_nil))), ?_⟩
    refine ⟨_, rfl, v, CV, dx, _, _, rfl, hv, V_.cl, V_.nN, rfl, n, CN, dn, _, _, rfl, hn, M.cl, M.n1, rfl, k, _, rfl, .inl N.hk, fun p hp => ?_, fun L' l pm hL _ hl => ?_⟩
    · rw [List.mem_singleton.mp hp]
      exact shp_fits f
    · have pm : (L'.map Prod.snd).Perm [f.ks] := pm
      have e1 := List.perm_singleton.mp pm
      match L', e1 with
      | [(b, kk)], e1 =>
        have e2 : kk = f.ks := (List.cons.inj e1).1
        subst e2
        have hb := hL (b, f.ks) (List.mem_singleton.mpr rfl)
        have e := Ext.new (o := .lst [V.ref b]) hl
        refine q _ l b e upd_same ?_
        have hb : H b = some (.tup (f.ks.map kV)) := hb
        rw [ks_vals] at hb
        exact e _ _ hb
/-! ### twin_of -/
def spTwinOf (CV : Addr) : Sp := fun vs H Q _ => ∃ (v dx fo n : Addr), vs = [.ref v] ∧ H v = some (.ins CV dx [("_forest", .ref fo), ("_notes", .ref n)]) ∧
  ∀ H' o dx', Ext H H' → H o = none → H' o = some (.ins CV dx' [("_forest", .ref fo), ("_notes", .ref n)]) → Q (.ref o) H'
theorem scTwinOf : FnScope ["view", "other"] ["view"] (defScope sTwinOf) := ⟨rfl, rfl, rfl, by decide +kernel, rfl, by decide +kernel, by decide +kernel⟩
structure VMk (P : Program) (w : World) (K : PySem.W.Frag) (mg : Str → Option Value) (base : Heap) (CV CN fVI : Addr) (fdVI : FuncData) : Prop where
  Z : VC K CV
  make : Mk K CV fVI
  g : mg "View" = some (.ref CV)
  GI : FnOk P w K mg base CX0 3 fVI fdVI ["self", "forest"] (spVwInit CV CN)
  bI : Binds K fdVI ["self", "forest"] []
theorem ok_twinOf {f fVI : Addr} {fd fdVI : FuncData} (F : Fun K "twin_of" "twin_of" sTwinOf f fd) (V_ : VMk P w K mg base CV CN fVI fdVI) : FnOk P w K mg base CX0 5 f fd ["view"] (spTwinOf CV) := by
  refine F.ok scTwinOf (fun vs H Q E h => ?_) (fun cdv A outer s H vs Q E hr h => ?_)
  · obtain ⟨v, dx, fo, n, rfl, _⟩ := h
    rfl
  · obtain ⟨v, dx, fo, n, rfl, hv, q⟩ := h
    have nd := scTwinOf.nd
    refine ⟨_, pss_cons (ps_set (i := 1) nd rfl (.inl rfl) (pe_make V_.make V_.GI hr rfl V_.g V_.bI .nil pass0 (pa_cons (pe_fld (pv 0) rfl) pa_nil)))
      (pss_cons (ps_fld (pv 1) (pe_fld (pv 0) rfl) rfl) (pss_one (ps_ret (pv 1)))), ?_⟩
    refine ⟨_, rfl, v, CV, dx, _, _, rfl, hv, V_.Z.cl, V_.Z.nF, rfl, fun o dxo ho hdo ne => ?_⟩
    have kx : Ext H (upd (upd H dxo (.own o)) o (.ins CV dxo [])) := fun b ob hb => by
      rw [upd_ne (ne_of_none hb ho), upd_ne (ne_of_none hb hdo)]
      exact hb
    refine ⟨o, fo, dxo, rfl, upd_same, fun H1 n1 k1 t1 s1 r1 d1 e1 o1 N1 z1 => ⟨rfl, ?_⟩⟩
    have e01 : Ext H H1 := fun b ob hb => e1 _ _ (ne_of_none hb ho) (kx _ _ hb)
    refine ⟨_, rfl, v, CV, dx, _, _, rfl, e01 _ _ hv, V_.Z.cl, V_.Z.nN, rfl, _, rfl, o, CV, dxo, _, rfl, o1, V_.Z.cl, V_.Z.nN, by show 2 < 1000; decide, ?_⟩
    exact ⟨_, rfl, q _ o dxo (fun b ob hb => by rw [upd_ne (ne_of_none hb ho)]; exact e01 _ _ hb) ho upd_same⟩
end
end Lw

set_option Elab.async false
set_option linter.all false
set_option maxRecDepth 100000
set_option maxHeartbeats 4000000
namespace Lw
open L2 hiding Ext
open PySem PySem.Spec PyProof.Rows Gn Gr Gk Go Gt Gf Gu Gdw Gx
abbrev sSpInit : Stmt := (cBody (top 45)).getD 0 (.Pass ⟨0, 0, 0, 0⟩)
abbrev sSpPlace : Stmt := (cBody (top 45)).getD 1 (.Pass ⟨0, 0, 0, 0⟩)
abbrev sSpSpent : Stmt := (cBody (top 45)).getD 2 (.Pass ⟨0, 0, 0, 0⟩)
abbrev sSpView : Stmt := (cBody (top 45)).getD 3 (.Pass ⟨0, 0, 0, 0⟩)
abbrev sSpLog : Stmt := (cBody (top 45)).getD 4 (.Pass ⟨0, 0, 0, 0⟩)
theorem dk_mk {d g : Addr} {H : Hp} {p : Addr} {f : Fact} (h : FAt H p f) (n1 : p ≠ d) (n2 : p ≠ g) : Dk d g H (.ref p) f.data := by
  unfold Fact.data
  cases f with
  | row b p n z => exact .tup h n1 n2 (.cons (.str _) (.cons (.int _) (.cons (.str _) (.cons (.int _) .nil))))
  | dep m n z => exact .tup h n1 n2 (.cons (.str _) (.cons (.int _) (.cons (.str _) (.cons (.int _) .nil))))
  | rel p z => exact .tup h n1 n2 (.cons (.str _) (.cons (.int _) (.cons (.int _) .nil)))
  | wd p => exact .tup h n1 n2 (.cons (.str _) (.cons (.int _) .nil))
  | ans b p q => exact .tup h n1 n2 (.cons (.str _) (.cons (.int _) (.cons (.int _) .nil)))
def rulesL : List Str := ["correct", "gap", "glad", "free", "late", "poor", "deaf"]
def ruleB : PyData → Bool
  | .str z => decide (z ∈ rulesL)
  | _ => false
def isSp : Option Fact → Bool
  | some (.row true _ _ _) => true
  | _ => false
theorem ruled_first (f : Fact) : ruled [] f = false := by
  have h1 : slotHit [] f = false := by
    unfold slotHit
    cases f.slot <;> rfl
  unfold ruled
  rw [h1, Bool.false_or]
  split
  · show ([0, 1] : List (Fin 7)).any (rowHit [] f) = false
    have : ∀ t, rowHit [] f t = false := fun t => by unfold rowHit; exact Bool.and_false _
    simp [this]
  · have : ∀ s, supHit [] f s = false := fun s => rfl
    rw [List.any_eq_false]
    intro s _
    rw [this]
    exact Bool.false_ne_true
theorem learn_first (f : Fact) : learnF [] [] 0 [some f] = .ok ([f], [f]) := by
  show (if ruled [] f = true then _ else _) = _
  rw [if_neg (by rw [ruled_first]; exact Bool.false_ne_true), if_neg (by intro h; cases h)]
  rfl
/-- an error of the program's own, without fields -/
structure XE1 (K : PySem.W.Frag) (mg : Str → Option Value) (nm : Str) (CF : Addr) : Prop where
  xF : PySem.W.excIn K CF [.type "ValueError", .type "Exception", .type "BaseException", .type "object"] "ValueError.__new__" = true
  gF : mg nm = some (.ref CF)
  kF : PySem.W.keepIn K (.ref CF) = true
  bF : PySem.W.subIn K (.ref CF) (.type "BaseException") = some true
  tF : PySem.W.typeIn K (.ref CF) = some (.type "type")
structure SC (K : PySem.W.Frag) (CS : Addr) : Prop where
  cl : Cls K CS
  n1 : NoAttr K CS "_forest"
  n2 : NoAttr K CS "_row"
  n3 : NoAttr K CS "_rule"
  n4 : NoAttr K CS "_spent"
  n5 : NoAttr K CS "_log"
  n6 : NoAttr K CS "_view"
def spF (fo p : Addr) (z : V) (i : Int) (l v : Addr) : List (Str × V) := [("_forest", .ref fo), ("_row", .ref p), ("_rule", z), ("_spent", .int i), ("_log", .ref l), ("_view", .ref v)]
section
variable {P : Program} {w : World} {K : PySem.W.Frag} {mg : Str → Option Value} {base : Heap} {C CV CN CF CR CS fFI fVI : Addr} {fdFI fdVI : FuncData}
def spSpInit (C CV CN CF CR CS : Addr) : Sp := fun vs H Q E => ∃ (x fo dx d0 g0 d1 g1 : Addr) (vr vz : V) (o : Option Fact) (yz : PyData) (rs : List FRow), vs = [.ref x, .ref fo, vr, vz] ∧ H x = some (.ins CS dx []) ∧ FoAt C H fo rs ∧ ArgAt d0 g0 H (fNames rs) vr o ∧ Dk d1 g1 H vz yz ∧
  (isSp o = false → Bad CF "index" (.int 0) H E) ∧ (isSp o = true → ruleB yz = false → ∀ H', Ext H H' → E (.ref CR) none H') ∧
  (isSp o = true → ruleB yz = true → ∀ (H' : Hp) (p l v dv n : Addr) (f : Fact) (k t s r d : Addr), (∀ b ob, b ≠ x → H b = some ob → H' b = some ob) → o = some f → vr = .ref p → H' x = some (.ins CS dx (spF fo p vz 0 l v)) → H' l = some (.lst []) →
    H' v = some (.ins CV dv [("_forest", .ref fo), ("_notes", .ref n)]) → NtAt CN H' n [f] k t s r d → Q .non H')
abbrev nSpInit : List Str := ["self", "forest", "row", "rule"]
theorem scSpInit : FnScope nSpInit ["self", "forest", "row", "rule"] (defScope sSpInit) := ⟨rfl, rfl, rfl, by decide +kernel, rfl, by decide +kernel, by decide +kernel⟩
theorem rule_in (z : Str) : inV (.str z) (rulesL.map V.str) = decide (z ∈ rulesL) := by
  rw [inV_strs]
theorem no_in {ws : List Str} {v : V} {x : PyData} {d g : Addr} {H : Hp} (h : Dk d g H v x) (hf : flatV v = true) (hx : ∀ z, x = .str z → z ∉ ws) : inV v (ws.map V.str) = false := by
  cases h with
  | str z => rw [inV_strs]; exact decide_eq_false (hx z rfl)
  | non => induction ws with
    | nil => rfl
    | cons a r ih => exact ih (fun z e => by cases e)
  | bl b => induction ws with
    | nil => rfl
    | cons a r ih => exact ih (fun z e => by cases e)
  | int i => induction ws with
    | nil => rfl
    | cons a r ih => exact ih (fun z e => by cases e)
  | _ => cases hf
theorem body_spInit {f fIf fLe tU : Addr} {fdIf : FuncData} (T : Names mg) (V_ : VMk P w K mg base CV CN fVI fdVI) (S_ : SC K CS) (Y : XN K mg "InvalidFact" "index" CF fFI) (YR : XE1 K mg "UnknownRule" CR) (gU : mg "RULES" = some (.ref tU)) (sU : ∀ H, SqT K H tU (rulesL.map V.str))
    (GFI : FnOk P w K mg base CX0 1 fFI fdFI ["self", "index"] (spFI CF "index")) (bFI : Binds K fdFI ["self", "index"] [])
    (GIf : FnOk P w K mg base CX0 4 fIf fdIf ["value", "forest"] (spIsFact C)) (bIf : Binds K fdIf ["value", "forest"] []) (kIf : PySem.W.keepIn K (.ref fIf) = true) (mIf : mg "is_fact" = some (.ref fIf))
    (mLe : Meth K CV "learn" fLe) (GLe : FnR P w K mg base (L2.CX P w) 5 fLe (spLearn1 C CV CN CF))
    (cdv : Value) (A : Around) (outer : List Env) (s : Shared) (H : Hp) (vs : List V) (Q : VK) (E : XK) (hr : Room 5 (A.deeper (envOfC "Spender.__init__" (defScope sSpInit) s.heap.objs.size f cdv))) (h : spSpInit C CV CN CF CR CS vs H Q E) :
    ∃ t, PSs (cxOf (L2.CX P w) P w K mg base nSpInit "Spender.__init__" (defScope sSpInit) f cdv A outer s H E) (defBody sSpInit) t ∧ t { nx := fun _ H' => Q .non H', rt := Q } (L2.start nSpInit vs) H := by
  obtain ⟨x, fo, dx, d0, g0, d1, g1, vr, vz, o, yz, rs, rfl, hx, hF, ha, hz, q1, q2, q3⟩ := h
  have hu := hu_of hr
  have nd := scSpInit.nd
  have hr4 : Room 4 (A.deeper (envOfC "Spender.__init__" (defScope sSpInit) s.heap.objs.size f cdv)) := hr.mono (by decide)
  have hr2 : Room 2 (A.deeper (envOfC "Spender.__init__" (defScope sSpInit) s.heap.objs.size f cdv)) := hr.mono (by decide)
  refine ⟨_, pss_cons (ps_if (PW.pt (pw_or (pt_not (pt_val (pe_call GIf hr4 rfl mIf kIf bIf .nil pass0 (pa_cons (pv 2) (pa_cons (pv 1) pa_nil))))) (pw_or1 (pt_cmpR op_ne (pe_ix ix_tup (pv 2) pe_int (fun _ _ => rfl)) pe_str (nomark _)))))
      (pss_one (ps_raise rfl (takes_of rfl rfl rfl rfl) (pmk_oex Y.oT Y.iT Y.tT GFI hr2 bFI .nil (fun _ _ _ _ _ _ _ h => False.elim h) rfl Y.gT (pa_cons pe_int pa_nil)))) pss_nil)
    (pss_cons (ps_if (pt_cmpR (Gj.op_notInK hr.units) (pv 3) (pe_glob (v := .ref tU) rfl gU rfl) rfl) (pss_one (ps_raise rfl (takes_of rfl rfl rfl rfl) (pmk_own PySem.F.excBase_ValueError YR.xF YR.gF YR.kF (raises_own YR.bF YR.tF) rfl))) pss_nil)
    (pss_cons (ps_fld (pv 0) (pv 1) rfl) (pss_cons (ps_fld (pv 0) (pv 2) rfl) (pss_cons (ps_fld (pv 0) (pv 3) rfl) (pss_cons (ps_fld (pv 0) pe_int rfl) (pss_cons (ps_fld (pv 0) (pe_lst pa_nil) rfl)
    (pss_cons (ps_fld (pv 0) (pe_make V_.make V_.GI hr4 rfl V_.g V_.bI .nil pass0 (pa_cons (pv 1) pa_nil)) rfl)
    (pss_one (ps_expr (pe_methR (pe_fld (pv 0) rfl) V_.Z.cl mLe GLe hr passL (pa_cons (pv 2) pa_nil))))))))))), ?_⟩
  obtain ⟨y, hy, ho⟩ := ha
  refine ⟨_, rfl, _, rfl, d0, g0, fo, vr, y, rs, rfl, hF, hy, fun H1 k1 => ⟨_, rfl, ?_⟩⟩
  cases o with
  | none =>
    have ho : factB (fNames rs) y = false := ho
    rw [ho]
    exact iteT ⟨by show 1 ≤ 1000; decide, fun b hb => bad_made hb ((q1 rfl).ext k1)⟩
  | some f =>
    obtain ⟨fb, ey, fok⟩ := ho
    rw [fb]
    refine iteF ?_
    subst ey
    obtain ⟨p, rfl, hp0⟩ := dk_fact hy
    have hp := hp0.ext k1
    refine ⟨_, rfl, p, _, _, _, rfl, rfl, SqT.of hp, at0 f, rfl, _, rfl, ?_⟩
    show if (!decide (V.str (kinds f.tag) = V.str (kinds 0))) = true then _ else _
    rw [kind_eq]
    have et : decide (f.tag = 0) = isSp (some f) := by cases f <;> (try rename_i b _ _ _; cases b) <;> (try rename_i b _ _; cases b) <;> rfl
    rw [et]
    cases hs : isSp (some f) with
    | false => exact iteT ⟨by show 1 ≤ 1000; decide, fun b hb => bad_made hb ((q1 hs).ext k1)⟩
    | true =>
      refine iteF ?_
      have zf : ruleB yz = false → ∀ H', Ext H H' → E (.ref CR) none H' := fun e H' k => q2 hs e H' k
      have rest : ruleB yz = true → ∃ z, vz = .str z ∧ z ∈ rulesL := fun e => by
        cases hz with
        | str z => exact ⟨z, rfl, of_decide_eq_true e⟩
        | _ => cases e
      have hz1 := hz.kp (Kp.of k1)
      by_cases hr0 : ruleB yz = true
      case neg =>
        have hr0 : ruleB yz = false := Bool.eq_false_iff.mpr hr0
        rcases hz1.flat with hf | ⟨q, rfl, hq⟩
        · refine ⟨_, rfl, tU, rulesL, rfl, sU H1, .inl ⟨hf, _, rfl, ?_⟩⟩
          show if (!inV vz (rulesL.map V.str)) = true then _ else _
          rw [no_in hz1 hf (fun z e hm => by rw [e] at hr0; exact absurd (decide_eq_true hm) (by rw [show decide (z ∈ rulesL) = false from hr0]; exact Bool.false_ne_true))]
          exact iteT (zf hr0 _ k1)
        · exact ⟨_, rfl, tU, rulesL, rfl, sU H1, .inr ⟨q, rfl, hq, _, rfl, iteT (zf hr0 _ k1)⟩⟩
      case pos =>
        obtain ⟨z, rfl, hzm⟩ := rest hr0
        refine ⟨_, rfl, tU, rulesL, rfl, sU H1, .inl ⟨rfl, _, rfl, ?_⟩⟩
        show if (!inV (.str z) (rulesL.map V.str)) = true then _ else _
        rw [rule_in, decide_eq_true hzm]
        refine iteF ?_
        have q3 := q3 hs hr0
        have hx1 := k1 _ _ hx
        have up : ∀ {Ha : Hp} {fx : List (Str × V)}, ∀ b ob, b ≠ x → Ha b = some ob → (upd Ha x (.ins CS dx fx)) b = some ob := fun b ob nb hb => by rw [upd_ne nb]; exact hb
        refine ⟨_, rfl, _, rfl, x, CS, dx, [], rfl, hx1, S_.cl, S_.n1, by decide, ?_⟩
        have o2 : (upd H1 x (.ins CS dx (putF "_forest" (.ref fo) []))) x = some (.ins CS dx [("_forest", .ref fo)]) := upd_same
        have b2 := up (Ha := H1) (fx := putF "_forest" (.ref fo) [])
        generalize upd H1 x (.ins CS dx (putF "_forest" (.ref fo) [])) = H2 at o2 b2 ⊢
        refine ⟨_, rfl, _, rfl, x, CS, dx, _, rfl, o2, S_.cl, S_.n2, by show 1 < 1000; decide, ?_⟩
        have o3 : (upd H2 x (.ins CS dx (putF "_row" (.ref p) [("_forest", .ref fo)]))) x = some (.ins CS dx [("_forest", .ref fo), ("_row", .ref p)]) := upd_same
        have b3 : ∀ b ob, b ≠ x → H1 b = some ob → (upd H2 x (.ins CS dx (putF "_row" (.ref p) [("_forest", .ref fo)]))) b = some ob := fun b ob nb hb => up b ob nb (b2 b ob nb hb)
        generalize upd H2 x (.ins CS dx (putF "_row" (.ref p) [("_forest", .ref fo)])) = H3 at o3 b3 ⊢
        refine ⟨_, rfl, _, rfl, x, CS, dx, _, rfl, o3, S_.cl, S_.n3, by show 2 < 1000; decide, ?_⟩
        have o4 : (upd H3 x (.ins CS dx (putF "_rule" (.str z) [("_forest", .ref fo), ("_row", .ref p)]))) x = some (.ins CS dx [("_forest", .ref fo), ("_row", .ref p), ("_rule", .str z)]) := upd_same
        have b4 : ∀ b ob, b ≠ x → H1 b = some ob → (upd H3 x (.ins CS dx (putF "_rule" (.str z) [("_forest", .ref fo), ("_row", .ref p)]))) b = some ob := fun b ob nb hb => up b ob nb (b3 b ob nb hb)
        generalize upd H3 x (.ins CS dx (putF "_rule" (.str z) [("_forest", .ref fo), ("_row", .ref p)])) = H4 at o4 b4 ⊢
        refine ⟨_, rfl, x, CS, dx, _, rfl, o4, S_.cl, S_.n4, by show 3 < 1000; decide, ?_⟩
        have o5 : (upd H4 x (.ins CS dx (putF "_spent" (.int 0) [("_forest", .ref fo), ("_row", .ref p), ("_rule", .str z)]))) x = some (.ins CS dx [("_forest", .ref fo), ("_row", .ref p), ("_rule", .str z), ("_spent", .int 0)]) := upd_same
        have b5 : ∀ b ob, b ≠ x → H1 b = some ob → (upd H4 x (.ins CS dx (putF "_spent" (.int 0) [("_forest", .ref fo), ("_row", .ref p), ("_rule", .str z)]))) b = some ob := fun b ob nb hb => up b ob nb (b4 b ob nb hb)
        generalize upd H4 x (.ins CS dx (putF "_spent" (.int 0) [("_forest", .ref fo), ("_row", .ref p), ("_rule", .str z)])) = H5 at o5 b5 ⊢
        refine ⟨Nat.zero_le _, fun l hl => ?_⟩
        have e6 := Ext.new (o := .lst []) hl
        have l6 : (upd H5 l (.lst [])) l = some (.lst []) := upd_same
        have lx : l ≠ x := fun e => by rw [e, o5] at hl; cases hl
        generalize upd H5 l (.lst []) = H6 at e6 l6 ⊢
        refine ⟨_, rfl, x, CS, dx, _, rfl, e6 _ _ o5, S_.cl, S_.n5, by show 4 < 1000; decide, ?_⟩
        have o7 : (upd H6 x (.ins CS dx (putF "_log" (.ref l) [("_forest", .ref fo), ("_row", .ref p), ("_rule", .str z), ("_spent", .int 0)]))) x = some (.ins CS dx [("_forest", .ref fo), ("_row", .ref p), ("_rule", .str z), ("_spent", .int 0), ("_log", .ref l)]) := upd_same
        have b7 : ∀ b ob, b ≠ x → H1 b = some ob → (upd H6 x (.ins CS dx (putF "_log" (.ref l) [("_forest", .ref fo), ("_row", .ref p), ("_rule", .str z), ("_spent", .int 0)]))) b = some ob := fun b ob nb hb => up b ob nb (e6 _ _ (b5 b ob nb hb))
        have l7 : (upd H6 x (.ins CS dx (putF "_log" (.ref l) [("_forest", .ref fo), ("_row", .ref p), ("_rule", .str z), ("_spent", .int 0)]))) l = some (.lst []) := by rw [upd_ne lx]; exact l6
        generalize upd H6 x (.ins CS dx (putF "_log" (.ref l) [("_forest", .ref fo), ("_row", .ref p), ("_rule", .str z), ("_spent", .int 0)])) = H7 at o7 b7 l7 ⊢
        -- the view
        refine ⟨_, rfl, fun v dv hv hdv nev => ?_⟩
        have kv : Ext H7 (upd (upd H7 dv (.own v)) v (.ins CV dv [])) := fun b ob hb => by
          rw [upd_ne (ne_of_none hb hv), upd_ne (ne_of_none hb hdv)]
          exact hb
        refine ⟨v, fo, dv, rfl, upd_same, fun H8 n k t su r d e8 ov8 N8 z8 => ⟨rfl, ?_⟩⟩
        have e78 : Ext H7 H8 := fun b ob hb => e8 _ _ (ne_of_none hb hv) (kv _ _ hb)
        have vx : v ≠ x := fun e => by rw [e, o7] at hv; cases hv
        refine ⟨_, rfl, x, CS, dx, _, rfl, e78 _ _ o7, S_.cl, S_.n6, by show 5 < 1000; decide, ?_⟩
        have o8 := e78 _ _ o7
        have o9 : (upd H8 x (.ins CS dx (putF "_view" (.ref v) [("_forest", .ref fo), ("_row", .ref p), ("_rule", .str z), ("_spent", .int 0), ("_log", .ref l)]))) x = some (.ins CS dx (spF fo p (.str z) 0 l v)) := upd_same
        have nx : n ≠ x := by
          obtain ⟨_, hn⟩ := N8.obj
          intro e
          rw [e, o8] at hn
          have h1 : ([("_forest", V.ref fo), ("_row", .ref p), ("_rule", .str z), ("_spent", .int 0), ("_log", .ref l)] : List (Str × V)).length = _ := congrArg List.length (HO.ins.inj (Option.some.inj hn)).2.2
          have h2 := (HO.ins.inj (Option.some.inj hn)).2.2
          have h3 := (List.cons.inj h2).1
          have h4 : (Str.ofString "_forest") = Str.ofString "known" := (Prod.mk.inj h3).1
          exact absurd h4 (by decide +kernel)
        have b9 : ∀ b ob, b ≠ x → H1 b = some ob → (upd H8 x (.ins CS dx (putF "_view" (.ref v) [("_forest", .ref fo), ("_row", .ref p), ("_rule", .str z), ("_spent", .int 0), ("_log", .ref l)]))) b = some ob := fun b ob nb hb => up b ob nb (e78 _ _ (b7 b ob nb hb))
        have l9 : (upd H8 x (.ins CS dx (putF "_view" (.ref v) [("_forest", .ref fo), ("_row", .ref p), ("_rule", .str z), ("_spent", .int 0), ("_log", .ref l)]))) l = some (.lst []) := by rw [upd_ne lx]; exact e78 _ _ l7
        have v9 : (upd H8 x (.ins CS dx (putF "_view" (.ref v) [("_forest", .ref fo), ("_row", .ref p), ("_rule", .str z), ("_spent", .int 0), ("_log", .ref l)]))) v = some (.ins CV dv [("_forest", .ref fo), ("_notes", .ref n)]) := by rw [upd_ne vx]; exact ov8
        have N9 : NtAt CN (upd H8 x (.ins CS dx (putF "_view" (.ref v) [("_forest", .ref fo), ("_row", .ref p), ("_rule", .str z), ("_spent", .int 0), ("_log", .ref l)]))) n [] k t su r d := N8.but o8 nx fun b ob nb hb => up b ob nb hb
        generalize upd H8 x (.ins CS dx (putF "_view" (.ref v) [("_forest", .ref fo), ("_row", .ref p), ("_rule", .str z), ("_spent", .int 0), ("_log", .ref l)])) = H9 at o9 b9 l9 v9 N9 ⊢
        -- it learns its row
        have tupx : ∀ {b : Addr} {xs : List V}, H1 b = some (.tup xs) → H9 b = some (.tup xs) := fun hb => b9 _ _ (ne_of hb hx1 (by intro z; cases z)) hb
        have fo9 : FoAt C H9 fo rs := by
          obtain ⟨dxf, qf, f1, f2⟩ := hF
          have f1 := k1 _ _ f1
          have f2 := k1 _ _ f2
          refine ⟨dxf, qf, b9 _ _ (fun e => ?_) f1, b9 _ _ (ne_of f2 hx1 (by intro z; cases z)) f2⟩
          rw [e, hx1] at f1
          have := (HO.ins.inj (Option.some.inj f1)).2.2
          cases this
        have pv_ : p ≠ v := ne_of_none (b7 _ _ (ne_of hp hx1 (by intro z; cases z)) hp) hv
        have px : p ≠ x := ne_of hp hx1 (by intro z; cases z)
        have hp9 : FAt H9 p f := tupx hp
        refine ⟨_, rfl, x, CS, dx, _, _, rfl, o9, S_.cl, S_.n6, rfl, v, dv, _, rfl, v9, rfl, _, rfl, v, x, x, dv, fo, n, .ref p, some f, rs, [], k, t, su, r, d, rfl, v9, fo9, N9, ⟨f.data, dk_mk hp9 px px, fb, rfl, fok⟩, Nat.zero_le _, ?_⟩
        rw [learn_first]
        intro H' l' n' k' t' s' r' d' ys bv hv' N' hl' hf'
        have lv : l ≠ v := ne_of_none l7 hv
        have bo : ∀ b ob, b ≠ x → H b = some ob → b ≠ v := fun b ob nb hb => ne_of_none (b7 _ _ nb (k1 _ _ hb)) hv
        exact q3 H' p l v dv n' f k' t' s' r' d' (fun b ob nb hb => bv b ob (bo b ob nb hb) (b9 b ob nb (k1 _ _ hb))) rfl rfl (bv _ _ (Ne.symm vx) o9) (bv _ _ lv l9) hv' N'
end
end Lw

set_option Elab.async false
set_option linter.all false
set_option maxRecDepth 100000
set_option maxHeartbeats 4000000
namespace Lw
open L2 hiding Ext
open PySem PySem.Spec PyProof.Rows Gn Gr Gk Go Gt Gf Gu
theorem factR_nil {ws : List Str} {z : Str} : factR ws z [] = false := by
  unfold factR
  cases h : partsOf z with
  | none => rfl
  | some ps =>
    cases ps with
    | nil =>
      exfalso
      unfold partsOf at h
      repeat (split at h; · cases h)
      cases h
    | cons p r => rfl
theorem factR_some {ws : List Str} {z : Str} {r : List PyData} {ps : List Str} (h : partsOf z = some ps) : factR ws z r = (decide (r.length = ps.length) && ((List.zipWith (partB ws) ps r).all id && (!decide (z = "consent" ∨ z = "refuse") || ltB r))) := by
  unfold factR
  rw [h]
section
variable {P : Program} {w : World} {K : PySem.W.Frag} {mg : Str → Option Value} {base : Heap} {C fI pN fN : Addr} {mc : Value} {fdN : FuncData}
/-! ### _law_is_number -/
abbrev nLNum : List Str := ["_law_thing", "_law_most"]
def spLNum : Sp := fun vs H Q _ => ∃ (d g : Addr) (v : V) (x : PyData) (m : Int), vs = [v, .int m] ∧ Dk d g H v x ∧ Q (.bl (isN m x)) H
theorem scLNum : FnScope nLNum ["_law_thing", "_law_most"] (defScope sLIsNumber) := ⟨rfl, rfl, rfl, by decide +kernel, rfl, by decide +kernel, by decide +kernel⟩
theorem ok_lnum {f : Addr} {fd : FuncData} (F : Fun K "_law_is_number" "_law_is_number" sLIsNumber f fd) (T : Names mg) : FnOk P w K mg base CX0 1 f fd ["_law_thing", "_law_most"] spLNum := by
  refine F.ok scLNum (fun vs H Q E h => ?_) (fun cdv A outer s H vs Q E hr h => ?_)
  · obtain ⟨d, g, v, x, m, rfl, _⟩ := h
    rfl
  · obtain ⟨d, g, v, x, m, rfl, hv, k⟩ := h
    refine ⟨_, pss_one (ps_ret (pe_and (pe_callB call_isi rfl T.isi (by decide +kernel) (pa_cons (pv 0) (pa_cons (pe_bltn (v := .ty "int") rfl T.int (by decide +kernel) rfl) pa_nil))) (pe_and (pe_not (pe_callB call_isi rfl T.isi (by decide +kernel) (pa_cons (pv 0) (pa_cons (pe_bltn (v := .ty "bool") rfl T.bool (by decide +kernel) rfl) pa_nil)))) (pe_one (pe_chain op_le op_le pe_int (pv 0) (pv 1)))))), ?_⟩
    cases hv with
    | int i =>
      refine ⟨_, rfl, _, _, _, _, true, rfl, .ty _, (TyT.int i).x, kit_ty (by decide +kernel), true, rfl, iteT ?_⟩
      refine ⟨_, rfl, _, _, _, _, false, rfl, .ty _, (TyT.int i).x, kit_ty (by decide +kernel), false, rfl, true, rfl, iteT ?_⟩
      refine ⟨_, rfl, _, _, rfl, rfl, _, rfl, ?_⟩
      refine ite2 (fun e => ?_) (fun e => ?_)
      · refine ⟨_, rfl, _, _, rfl, rfl, ?_⟩
        have : isN m (.int i) = decide (i ≤ m) := decide_eq_decide.mpr ⟨fun h => h.2, fun h => ⟨of_decide_eq_true e, h⟩⟩
        show Q (.bl (decide (i ≤ m))) H
        rw [← this]
        exact k
      · have : isN m (.int i) = false := decide_eq_false fun h => e (decide_eq_true h.1)
        rw [this] at k
        exact k
    | bl b => exact ⟨_, rfl, _, _, _, _, true, rfl, .ty _, (TyT.bl b).x, kit_ty (by decide +kernel), true, rfl, iteT ⟨_, rfl, _, _, _, _, true, rfl, .ty _, (TyT.bl b).x, kit_ty (by decide +kernel), true, rfl, false, rfl, iteF k⟩⟩
    | non => exact ⟨_, rfl, _, _, _, _, false, rfl, .ty _, TyT.non.x, kit_ty (by decide +kernel), false, rfl, iteF k⟩
    | str z => exact ⟨_, rfl, _, _, _, _, false, rfl, .ty _, (TyT.str z).x, kit_ty (by decide +kernel), false, rfl, iteF k⟩
    | lst e _ _ _ => exact ⟨_, rfl, _, _, _, _, false, rfl, .ty _, (TyT.lst e).x, kit_ty (by decide +kernel), false, rfl, iteF k⟩
    | tup e _ _ _ => exact ⟨_, rfl, _, _, _, _, false, rfl, .ty _, (TyT.tup e).x, kit_ty (by decide +kernel), false, rfl, iteF k⟩
    | dct e _ _ => exact ⟨_, rfl, _, _, _, _, false, rfl, .ty _, (TyT.dct e).x, kit_ty (by decide +kernel), false, rfl, iteF k⟩
/-! ### _law_is_fact -/
abbrev nLFa : List Str := ["_law_names", "_law_thing", "_law_word", "_law_size"]
def spLFa : Sp := fun vs H Q _ => ∃ (d g ln : Addr) (v : V) (x : PyData) (ws : List Str), vs = [.ref ln, v] ∧ H ln = some (.lst (ws.map V.str)) ∧ Dk d g H v x ∧ ∀ H', Ext H H' → Q (.bl (factB ws x)) H'
theorem scLFa : FnScope nLFa ["_law_names", "_law_thing"] (defScope sLIsFact) := ⟨rfl, rfl, rfl, by decide +kernel, rfl, by decide +kernel, by decide +kernel⟩
/-- isinstance(.., str) of a value -/
def isS : PyData → Bool
  | .str _ => true
  | _ => false
theorem Dk.isStr {d g : Addr} {H : Hp} {v : V} {x : PyData} (h : Dk d g H v x) : ∃ T : String, TyX K H v (.type T) ∧ PySem.W.kitOne K (.type T) (.type "str") = some (isS x) := by
  cases h with
  | non => exact ⟨_, TyT.non.x, kit_ty (show kitB "NoneType" "str" = some false by decide +kernel)⟩
  | bl b => exact ⟨_, (TyT.bl b).x, kit_ty (show kitB "bool" "str" = some false by decide +kernel)⟩
  | int i => exact ⟨_, (TyT.int i).x, kit_ty (show kitB "int" "str" = some false by decide +kernel)⟩
  | str z => exact ⟨_, (TyT.str z).x, kit_ty (show kitB "str" "str" = some true by decide +kernel)⟩
  | lst e _ _ _ => exact ⟨_, (TyT.lst e).x, kit_ty (show kitB "list" "str" = some false by decide +kernel)⟩
  | tup e _ _ _ => exact ⟨_, (TyT.tup e).x, kit_ty (show kitB "tuple" "str" = some false by decide +kernel)⟩
  | dct e _ _ => exact ⟨_, (TyT.dct e).x, kit_ty (show kitB "dict" "str" = some false by decide +kernel)⟩
theorem ok_lfa {f fN : Addr} {fd fdN : FuncData} (F : Fun K "_law_is_fact" "_law_is_fact" sLIsFact f fd) (T : Names mg)
    (GN : FnOk P w K mg base CX0 1 fN fdN ["_law_thing", "_law_most"] spLNum) (bN : Binds K fdN ["_law_thing", "_law_most"] []) (kN : PySem.W.keepIn K (.ref fN) = true) (mN : mg "_law_is_number" = some (.ref fN)) :
    FnOk P w K mg base CX0 2 f fd ["_law_names", "_law_thing"] spLFa := by
  refine F.ok scLFa (fun vs H Q E h => ?_) (fun cdv A outer s H vs Q E hr h => ?_)
  · obtain ⟨d, g, ln, v, x, ws, rfl, _⟩ := h
    rfl
  · obtain ⟨d, g, ln, v, x, ws, rfl, hn, hv, k⟩ := h
    have hu := hu_of hr
    have nd := scLFa.nd
    refine ⟨_, pss_cons (ps_if (PW.pt (pw_or (pt_not (pt_val (pe_callB call_isi rfl T.isi (by decide +kernel) (pa_cons (pv 1) (pa_cons (pe_bltn (v := .ty "tuple") rfl T.tuple (by decide +kernel) rfl) pa_nil))))) (pw_or (pt_cmpR op_lt (pe_callB call_len_seq rfl T.len PySem.boot_len (pa_cons (pv 1) pa_nil)) pe_int (nomark _)) (pw_or1 (pt_not (pt_val (pe_callB call_isi rfl T.isi (by decide +kernel) (pa_cons (pe_ix ix_tup (pv 1) pe_int (fun _ _ => rfl)) (pa_cons (pe_bltn (v := .ty "str") rfl T.str (by decide +kernel) rfl) pa_nil))))))))) (pss_one (ps_ret pe_bl)) pss_nil)
(pss_cons (ps_par (i := 2) (j := 3) (by rfl) nd rfl rfl (by decide) rfl rfl (pa_cons (pe_ix ix_tup (pv 1) pe_int (fun _ _ => rfl)) (pa_cons (pe_callB call_len_seq rfl T.len PySem.boot_len (pa_cons (pv 1) pa_nil)) pa_nil)) (by rfl))
(pss_cons (ps_if (pt_cmpR op_in_seq (pv 2) (pe_tup (pa_cons pe_str (pa_cons pe_str (pa_cons pe_str pa_nil)))) rfl) (pss_cons (ps_if (PW.pt (pw_or (pt_cmpR op_ne (pv 3) pe_int (nomark _)) (pw_or (pt_not (pt_val (pe_callB call_isi rfl T.isi (by decide +kernel) (pa_cons (pe_ix ix_tup (pv 1) pe_int (fun _ _ => rfl)) (pa_cons (pe_bltn (v := .ty "str") rfl T.str (by decide +kernel) rfl) pa_nil))))) (pw_or1 (pt_cmpR op_notIn_seq (pe_ix ix_tup (pv 1) pe_int (fun _ _ => rfl)) (pv 0) rfl))))) (pss_one (ps_ret pe_bl)) pss_nil)
(pss_one (ps_ret (pe_and (pe_call GN hr rfl mN kN bN .nil pass0 (pa_cons (pe_ix ix_tup (pv 1) pe_int (fun _ _ => rfl)) (pa_cons (pe_ifExp (pt_cmpR op_eq (pv 2) pe_str (nomark _)) pe_int pe_int) pa_nil))) (pe_one (pe_call GN hr rfl mN kN bN .nil pass0 (pa_cons (pe_ix ix_tup (pv 1) pe_int (fun _ _ => rfl)) (pa_cons (pe_op op_pow pe_int pe_int) pa_nil)))))))) pss_nil)
(pss_cons (ps_if (pt_cmpR op_eq (pv 2) pe_str (nomark _)) (pss_one (ps_ret (pe_and (pe_cmpR op_eq (pv 3) pe_int (nomark _)) (pe_and (pe_call GN hr rfl mN kN bN .nil pass0 (pa_cons (pe_ix ix_tup (pv 1) pe_int (fun _ _ => rfl)) (pa_cons pe_int pa_nil))) (pe_one (pe_call GN hr rfl mN kN bN .nil pass0 (pa_cons (pe_ix ix_tup (pv 1) pe_int (fun _ _ => rfl)) (pa_cons (pe_op op_pow pe_int pe_int) pa_nil)))))))) pss_nil)
(pss_cons (ps_if (pt_cmpR op_in_seq (pv 2) (pe_tup (pa_cons pe_str (pa_cons pe_str pa_nil))) rfl) (pss_cons (ps_if (PW.pt (pw_or (pt_cmpR op_ne (pv 3) pe_int (nomark _)) (pw_or1 (pt_not (pt_val (pe_call GN hr rfl mN kN bN .nil pass0 (pa_cons (pe_ix ix_tup (pv 1) pe_int (fun _ _ => rfl)) (pa_cons pe_int pa_nil)))))))) (pss_one (ps_ret pe_bl)) pss_nil)
(pss_one (ps_ret (pe_and (pe_call GN hr rfl mN kN bN .nil pass0 (pa_cons (pe_ix ix_tup (pv 1) pe_int (fun _ _ => rfl)) (pa_cons pe_int pa_nil))) (pe_one (pe_cmpR op_lt (pe_ix ix_tup (pv 1) pe_int (fun _ _ => rfl)) (pe_ix ix_tup (pv 1) pe_int (fun _ _ => rfl)) (nomark _))))))) pss_nil)
(pss_one (ps_ret (pe_and (pe_cmpR op_eq (pv 2) pe_str (nomark _)) (pe_and (pe_cmpR op_eq (pv 3) pe_int (nomark _)) (pe_one (pe_call GN hr rfl mN kN bN .nil pass0 (pa_cons (pe_ix ix_tup (pv 1) pe_int (fun _ _ => rfl)) (pa_cons pe_int pa_nil)))))))))))), ?_⟩
    cases hv with
    | non => exact ⟨_, rfl, _, _, _, _, false, rfl, .ty _, TyT.non.x, kit_ty (by decide +kernel), false, rfl, iteT (k _ Ext.refl)⟩
    | bl b => exact ⟨_, rfl, _, _, _, _, false, rfl, .ty _, (TyT.bl b).x, kit_ty (by decide +kernel), false, rfl, iteT (k _ Ext.refl)⟩
    | int i => exact ⟨_, rfl, _, _, _, _, false, rfl, .ty _, (TyT.int i).x, kit_ty (by decide +kernel), false, rfl, iteT (k _ Ext.refl)⟩
    | str z => exact ⟨_, rfl, _, _, _, _, false, rfl, .ty _, (TyT.str z).x, kit_ty (by decide +kernel), false, rfl, iteT (k _ Ext.refl)⟩
    | lst e _ _ _ => exact ⟨_, rfl, _, _, _, _, false, rfl, .ty _, (TyT.lst e).x, kit_ty (by decide +kernel), false, rfl, iteT (k _ Ext.refl)⟩
    | dct e _ _ => exact ⟨_, rfl, _, _, _, _, false, rfl, .ty _, (TyT.dct e).x, kit_ty (by decide +kernel), false, rfl, iteT (k _ Ext.refl)⟩
    | @tup p xs ds hp n1 n2 hall =>
    refine ⟨_, rfl, _, _, _, _, true, rfl, .ty _, (TyT.tup hp).x, kit_ty (by decide +kernel), true, rfl, iteF ?_⟩
    refine ⟨_, rfl, p, _, rfl, .inr (SqT.of hp), _, _, rfl, rfl, _, rfl, ?_⟩
    cases hall with
    | nil =>
      rw [decide_eq_true (show (([] : List V).length : Int) < 2 by decide)]
      exact iteT (k _ Ext.refl)
    | @cons v0 vr x0 dr h0 hr_ =>
    have ln2 := DkAll.len hr_
    cases dr with
    | nil =>
      obtain rfl : vr = [] := List.length_eq_zero_iff.mp ln2
      rw [decide_eq_true (show (([v0] : List V).length : Int) < 2 by show (1 : Int) < 2; decide)]
      have : factB ws (.tuple [x0]) = false := by
        cases x0 with
        | str z => exact factR_nil
        | _ => rfl
      rw [this] at k
      exact iteT (k _ Ext.refl)
    | cons x1 dr' =>
    rw [decide_eq_false (show ¬ (((v0 :: vr).length : Nat) : Int) < 2 by rw [List.length_cons, ln2, List.length_cons]; omega)]
    refine iteF ?_
    have a0 : atI (v0 :: vr) 0 = some v0 := (show atI (v0 :: vr) ((0 : Nat) : Int) = _ from atI_nat rfl)
    obtain ⟨T0, t1, t2⟩ := h0.isStr (K := K)
    refine ⟨_, rfl, p, _, _, _, rfl, rfl, SqT.of hp, a0, _, _, _, _, _, rfl, .ty _, t1, t2, _, rfl, ?_⟩
    cases h0 with
    | str z =>
      refine iteF ?_
      have ek : factB ws (.tuple (.str z :: x1 :: dr')) = factR ws z (x1 :: dr') := rfl
      rw [ek] at k
      refine ⟨_, rfl, p, _, _, _, rfl, rfl, SqT.of hp, a0, _, rfl, p, _, rfl, .inr (SqT.of hp), _, _, rfl, ?_⟩
      dsimp only [List.set]
      refine ⟨_, rfl, by show 3 ≤ sizeLine; decide, fun t ht => ?_⟩
      have k1 := Ext.new (o := .tup [.str "spender", .str "request", .str "deposit"]) ht
      refine ⟨t, _, rfl, .inr (SqT.of upd_same), rfl, rfl, _, rfl, ?_⟩
      generalize upd H t (.tup [.str "spender", .str "request", .str "deposit"]) = H1 at k1 ⊢
      have ein : inV (V.str z) [V.str "spender", V.str "request", V.str "deposit"] = decide (z ∈ (["spender", "request", "deposit"] : List Str)) := inV_strs z ["spender", "request", "deposit"]
      show if inV (V.str z) [V.str "spender", V.str "request", V.str "deposit"] = true then _ else _
      rw [ein]
      cases hr_ with
      | @cons v1 vr1 _ _ g1 hr1 =>
      have hn1 := k1 _ _ hn
      have hp1 := k1 _ _ hp
      have g1' := g1.kp (Kp.of k1)
      have a1 : atI (V.str z :: v1 :: vr1) 1 = some v1 := (show atI (V.str z :: v1 :: vr1) ((1 : Nat) : Int) = _ from atI_nat rfl)
      refine ite2 (fun hin => ?_) (fun hout => ?_)
      · have hin := of_decide_eq_true hin
        simp only [List.mem_cons, List.not_mem_nil, or_false] at hin
        obtain ⟨p1, m1, hps, hpm, hm1⟩ : ∃ (p1 : Str) (m1 : Int), partsOf z = some [p1, "account", "amount"] ∧ (∀ x, partB ws p1 x = isN m1 x) ∧ m1 = if z = "deposit" then 999 else 20 := by
          rcases hin with rfl | rfl | rfl
          · exact ⟨"place", 20, rfl, fun _ => rfl, rfl⟩
          · exact ⟨"place", 20, rfl, fun _ => rfl, rfl⟩
          · exact ⟨"mark", 999, rfl, fun _ => rfl, rfl⟩
        have na : decide (z = "consent" ∨ z = "refuse") = false := by
          rcases hin with rfl | rfl | rfl <;> decide +kernel
        rw [factR_some hps, na] at k
        refine ⟨_, rfl, rfl, _, rfl, ?_⟩
        show if (!decide (V.int (((V.str z :: v1 :: vr1).length : Nat) : Int) = V.int 4)) = true then _ else _
        have l4 : decide (V.int (((V.str z :: v1 :: vr1).length : Nat) : Int) = V.int 4) = decide ((x1 :: dr').length = 3) := decide_eq_decide.mpr ⟨fun e => by
          injection e with e
          rw [List.length_cons, ln2] at e
          omega, fun e => by
          congr 1
          rw [List.length_cons, ln2, e]
          rfl⟩
        rw [l4]
        by_cases hl : (x1 :: dr').length = 3
        case neg =>
          rw [show decide ((x1 :: dr').length = ([p1, "account", "amount"] : List Str).length) = false from decide_eq_false hl] at k
          rw [decide_eq_false hl]
          exact iteT (k _ k1)
        rw [show decide ((x1 :: dr').length = ([p1, "account", "amount"] : List Str).length) = true from decide_eq_true hl] at k
        rw [decide_eq_true hl]
        refine iteF ?_
        cases hr1 with
        | nil => cases hl
        | @cons v2 _ x2 _ g2 hr2 =>
        cases hr2 with
        | nil => cases hl
        | @cons v3 _ x3 _ g3 hr3 =>
        cases hr3 with
        | cons => simp at hl
        | nil =>
        have g2' := g2.kp (Kp.of k1)
        have g3' := g3.kp (Kp.of k1)
        have a2 : atI [V.str z, v1, v2, v3] 2 = some v2 := (show atI [V.str z, v1, v2, v3] ((2 : Nat) : Int) = _ from atI_nat rfl)
        have a3 : atI [V.str z, v1, v2, v3] 3 = some v3 := (show atI [V.str z, v1, v2, v3] ((3 : Nat) : Int) = _ from atI_nat rfl)
        have ez : (List.zipWith (partB ws) [p1, "account", "amount"] [x1, x2, x3]).all id = (isN m1 x1 && (isA ws x2 && (isN 1000000000 x3 && true))) := by
          show (partB ws p1 x1 && (partB ws "account" x2 && (partB ws "amount" x3 && true))) = _
          rw [hpm]
          rfl
        rw [ez, Bool.and_true, Bool.not_false, Bool.true_or, Bool.and_true, Bool.true_and] at k
        obtain ⟨T2, t3, t4⟩ := g2'.isStr (K := K)
        refine ⟨_, rfl, p, _, _, _, rfl, rfl, SqT.of hp1, a2, _, _, _, _, _, rfl, .ty _, t3, t4, _, rfl, ?_⟩
        cases g2 with
        | str y =>
          refine iteF ?_
          refine ⟨_, rfl, p, _, _, _, rfl, rfl, SqT.of hp1, a2, _, rfl, ln, _, rfl, .inl (SqL.of hn1), rfl, strs_flat _, _, rfl, ?_⟩
          show if (!inV (V.str y) (ws.map V.str)) = true then _ else _
          rw [inV_strs]
          have ea : isA ws (.str y) = decide (y ∈ ws) := rfl
          rw [ea] at k
          by_cases hy : y ∈ ws
          case neg =>
            rw [decide_eq_false hy, Bool.false_and, Bool.and_false] at k
            rw [decide_eq_false hy]
            exact iteT (k _ k1)
          rw [decide_eq_true hy, Bool.true_and] at k
          rw [decide_eq_true hy]
          refine iteF ?_
          have last : isN m1 x1 = true → ∀ mm : Int, mm = 1000000000 → Q (.bl (isN mm x3)) H1 := fun h mm e => by
            rw [h, Bool.true_and] at k
            rw [e]
            exact k _ k1
          have first : isN m1 x1 = false → Q (.bl false) H1 := fun h => by
            rw [h, Bool.false_and] at k
            exact k _ k1
          refine ⟨_, rfl, p, _, _, _, rfl, rfl, SqT.of hp1, a1, _, rfl, rfl, _, rfl, ?_⟩
          by_cases hd : z = "deposit"
          · rw [if_pos hd] at hm1
            subst hm1
            rw [decide_eq_true (by rw [hd] : V.str z = V.str "deposit")]
            refine iteT ?_
            refine ⟨d, g, v1, x1, 999, rfl, g1', ?_⟩
            cases h1 : isN 999 x1 with
            | false => exact ⟨false, rfl, iteF (first h1)⟩
            | true =>
              refine ⟨true, rfl, iteT ?_⟩
              exact ⟨_, rfl, p, _, _, _, rfl, rfl, SqT.of hp1, a3, _, _, rfl, rfl, ⟨by decide, by decide, by decide⟩, d, g, v3, x3, _, rfl, g3', last h1 _ (by decide +kernel)⟩
          · rw [if_neg hd] at hm1
            subst hm1
            rw [decide_eq_false (fun e => hd (by injection e) : ¬ V.str z = V.str "deposit")]
            refine iteF ?_
            refine ⟨d, g, v1, x1, 20, rfl, g1', ?_⟩
            cases h1 : isN 20 x1 with
            | false => exact ⟨false, rfl, iteF (first h1)⟩
            | true =>
              refine ⟨true, rfl, iteT ?_⟩
              exact ⟨_, rfl, p, _, _, _, rfl, rfl, SqT.of hp1, a3, _, _, rfl, rfl, ⟨by decide, by decide, by decide⟩, d, g, v3, x3, _, rfl, g3', last h1 _ (by decide +kernel)⟩
        | _ =>
          have ea : ∀ b : Bool, (b && (false && isN 1000000000 x3)) = false := fun b => by cases b <;> rfl
          refine iteT ?_
          have := k _ k1
          simp only [isA, Bool.false_and, Bool.and_false] at this
          exact this
      · have hout : ¬ (z = "spender" ∨ z = "request" ∨ z = "deposit") := fun h => hout (decide_eq_true (by simpa using h))
        have lsz : ∀ n : Nat, decide (V.int (((V.str z :: v1 :: vr1).length : Nat) : Int) = V.int ((n + 1 : Nat) : Int)) = decide ((x1 :: dr').length = n) := fun n => decide_eq_decide.mpr ⟨fun e => by
          injection e with e
          rw [List.length_cons, ln2] at e
          omega, fun e => by
          congr 1
          rw [List.length_cons, ln2, e]⟩
        refine ⟨_, rfl, rfl, _, rfl, ?_⟩
        refine ite2 (fun e => ?_) (fun e1 => ?_)
        · obtain rfl : z = "release" := by have := of_decide_eq_true e; injection this
          rw [factR_some (ps := ["place", "amount"]) rfl, show decide ((("release" : Str) = "consent") ∨ (("release" : Str) = "refuse")) = false by decide +kernel] at k
          refine ⟨_, rfl, rfl, _, rfl, ?_⟩
          show if decide (V.int (((V.str "release" :: v1 :: vr1).length : Nat) : Int) = V.int ((2 + 1 : Nat) : Int)) = true then _ else _
          rw [lsz 2]
          by_cases hl : (x1 :: dr').length = 2
          case neg =>
            rw [show decide ((x1 :: dr').length = (["place", "amount"] : List Str).length) = false from decide_eq_false hl] at k
            rw [decide_eq_false hl]
            exact iteF (k _ k1)
          rw [show decide ((x1 :: dr').length = (["place", "amount"] : List Str).length) = true from decide_eq_true hl] at k
          rw [decide_eq_true hl]
          refine iteT ?_
          cases hr1 with
          | nil => cases hl
          | @cons v2 _ x2 _ g2 hr2 =>
          cases hr2 with
          | cons => simp at hl
          | nil =>
          have g2' := g2.kp (Kp.of k1)
          have a2 : atI [V.str "release", v1, v2] 2 = some v2 := (show atI [V.str "release", v1, v2] ((2 : Nat) : Int) = _ from atI_nat rfl)
          have ez : (List.zipWith (partB ws) ["place", "amount"] [x1, x2]).all id = (isN 20 x1 && (isN 1000000000 x2 && true)) := rfl
          rw [ez, Bool.and_true, Bool.not_false, Bool.true_or, Bool.and_true, Bool.true_and] at k
          refine ⟨_, rfl, p, _, _, _, rfl, rfl, SqT.of hp1, a1, d, g, v1, x1, 20, rfl, g1', ?_⟩
          cases h1 : isN 20 x1 with
          | false =>
            rw [h1, Bool.false_and] at k
            exact ⟨false, rfl, iteF (k _ k1)⟩
          | true =>
            rw [h1, Bool.true_and] at k
            refine ⟨true, rfl, iteT ?_⟩
            have last : ∀ mm : Int, mm = 1000000000 → Q (.bl (isN mm x2)) H1 := fun mm e => by
              rw [e]
              exact k _ k1
            exact ⟨_, rfl, p, _, _, _, rfl, rfl, SqT.of hp1, a2, _, _, rfl, rfl, ⟨by decide, by decide, by decide⟩, d, g, v2, x2, _, rfl, g2', last _ (by decide +kernel)⟩
        have n1 : z ≠ "release" := fun h => e1 (by rw [h]; exact decide_eq_true rfl)
        refine ⟨_, rfl, by show 2 ≤ sizeLine; decide, fun t ht => ?_⟩
        have k2 := k1.trans (Ext.new (o := .tup [.str "consent", .str "refuse"]) ht)
        refine ⟨t, _, rfl, .inr (SqT.of upd_same), rfl, rfl, _, rfl, ?_⟩
        generalize upd H1 t (.tup [.str "consent", .str "refuse"]) = H2 at k2 ⊢
        have ein : inV (V.str z) [V.str "consent", V.str "refuse"] = decide (z ∈ (["consent", "refuse"] : List Str)) := inV_strs z ["consent", "refuse"]
        show if inV (V.str z) [V.str "consent", V.str "refuse"] = true then _ else _
        rw [ein]
        have hp2 := k2 _ _ hp
        have g1'' := g1.kp (Kp.of k2)
        refine ite2 (fun hin => ?_) (fun hno => ?_)
        · have hin := of_decide_eq_true hin
          simp only [List.mem_cons, List.not_mem_nil, or_false] at hin
          have hps : partsOf z = some (["place", "place"] : List Str) := by rcases hin with rfl | rfl <;> rfl
          rw [factR_some hps, decide_eq_true hin] at k
          refine ⟨_, rfl, rfl, _, rfl, ?_⟩
          show if (!decide (V.int (((V.str z :: v1 :: vr1).length : Nat) : Int) = V.int ((2 + 1 : Nat) : Int))) = true then _ else _
          rw [lsz 2]
          by_cases hl : (x1 :: dr').length = 2
          case neg =>
            rw [show decide ((x1 :: dr').length = (["place", "place"] : List Str).length) = false from decide_eq_false hl] at k
            rw [decide_eq_false hl]
            exact iteT (k _ k2)
          rw [show decide ((x1 :: dr').length = (["place", "place"] : List Str).length) = true from decide_eq_true hl] at k
          rw [decide_eq_true hl]
          refine iteF ?_
          cases hr1 with
          | nil => cases hl
          | @cons v2 _ x2 _ g2 hr2 =>
          cases hr2 with
          | cons => simp at hl
          | nil =>
          have g2'' := g2.kp (Kp.of k2)
          have b1 : atI [V.str z, v1, v2] 1 = some v1 := (show atI [V.str z, v1, v2] ((1 : Nat) : Int) = _ from atI_nat rfl)
          have b2 : atI [V.str z, v1, v2] 2 = some v2 := (show atI [V.str z, v1, v2] ((2 : Nat) : Int) = _ from atI_nat rfl)
          have ez : (List.zipWith (partB ws) ["place", "place"] [x1, x2]).all id = (isN 20 x1 && (isN 20 x2 && true)) := rfl
          rw [ez, Bool.and_true, Bool.not_true, Bool.false_or, Bool.true_and] at k
          refine ⟨_, rfl, p, _, _, _, rfl, rfl, SqT.of hp2, b1, d, g, v1, x1, 20, rfl, g1'', _, rfl, ?_⟩
          cases h1 : isN 20 x1 with
          | false =>
            rw [h1, Bool.false_and, Bool.false_and] at k
            exact iteT (k _ k2)
          | true =>
            rw [h1, Bool.true_and] at k
            refine iteF ?_
            refine ⟨_, rfl, p, _, _, _, rfl, rfl, SqT.of hp2, b2, d, g, v2, x2, 20, rfl, g2'', ?_⟩
            cases h2 : isN 20 x2 with
            | false =>
              rw [h2, Bool.false_and] at k
              exact ⟨false, rfl, iteF (k _ k2)⟩
            | true =>
              rw [h2, Bool.true_and] at k
              refine ⟨true, rfl, iteT ?_⟩
              cases x1 with
              | int i1 =>
                cases x2 with
                | int i2 =>
                  cases g1
                  cases g2
                  exact ⟨_, rfl, p, _, _, _, rfl, rfl, SqT.of hp2, b2, _, rfl, p, _, _, _, rfl, rfl, SqT.of hp2, b1, _, _, rfl, rfl, k _ k2⟩
                | _ => cases h2
              | _ => cases h1
        · have hno : ¬ (z = "consent" ∨ z = "refuse") := fun h => hno (decide_eq_true (by simpa using h))
          refine ⟨_, rfl, rfl, _, rfl, ?_⟩
          refine ite2 (fun e => ?_) (fun e3 => ?_)
          · obtain rfl : z = "withdrawn" := by have := of_decide_eq_true e; injection this
            rw [factR_some (ps := ["place"]) rfl, decide_eq_false hno] at k
            refine ⟨_, rfl, rfl, _, rfl, ?_⟩
            show if decide (V.int (((V.str "withdrawn" :: v1 :: vr1).length : Nat) : Int) = V.int ((1 + 1 : Nat) : Int)) = true then _ else _
            rw [lsz 1]
            by_cases hl : (x1 :: dr').length = 1
            case neg =>
              rw [show decide ((x1 :: dr').length = (["place"] : List Str).length) = false from decide_eq_false hl] at k
              rw [decide_eq_false hl]
              exact iteF (k _ k2)
            rw [show decide ((x1 :: dr').length = (["place"] : List Str).length) = true from decide_eq_true hl] at k
            rw [decide_eq_true hl]
            refine iteT ?_
            obtain rfl : dr' = [] := by
              cases dr' with
              | nil => rfl
              | cons _ _ => simp at hl
            have ez : (List.zipWith (partB ws) ["place"] [x1]).all id = (isN 20 x1 && true) := rfl
            rw [ez, Bool.and_true, Bool.not_false, Bool.true_or, Bool.and_true, Bool.true_and] at k
            exact ⟨_, rfl, p, _, _, _, rfl, rfl, SqT.of hp2, a1, d, g, v1, x1, 20, rfl, g1'', k _ k2⟩
          · have n3 : z ≠ "withdrawn" := fun h => e3 (by rw [h]; exact decide_eq_true rfl)
            have hps : partsOf z = none := by
              unfold partsOf
              rw [if_neg fun h => hout (.inl h), if_neg fun h => hout (.inr (.inl h)), if_neg fun h => hout (.inr (.inr h)), if_neg n1, if_neg fun h => hno (.inl h), if_neg fun h => hno (.inr h), if_neg n3]
            have : factR ws z (x1 :: dr') = false := by unfold factR; rw [hps]
            rw [this] at k
            have e3 := Bool.eq_false_iff.mpr e3
            exact k _ k2
    | _ => exact iteT (k _ Ext.refl)
end
end Lw

set_option Elab.async false
set_option linter.all false
set_option maxRecDepth 100000
set_option maxHeartbeats 4000000
namespace Lw
open L2 hiding Ext
open PySem PySem.Spec PyProof.Rows Gn Gr Gk Go Gt Gf Gu
/-- how much a value's text holds -/
def Odx (x : PyData) : Prop := Ok 1 x ∧ ∀ ds, x = .tuple ds → ds.length ≤ 1 ∧ ∀ y ∈ ds, Ok 1 y
theorem odx {x : PyData} (h : Ok 1 x) (n : ∀ ds, x ≠ .tuple ds) : Odx x := ⟨h, fun ds e => absurd e (n ds)⟩
def Th (n : Nat) (x : PyData) : Prop := (∃ ds, (x = .tuple ds ∨ x = .list ds) ∧ ds.length ≤ n ∧ ∀ y ∈ ds, Ok 1 y) ∨ Odx x
def Sml (d : PyData) : Prop := d.showable = true ∧ d.depth ≤ 60 ∧ d.shown.length ≤ sizeLine
theorem Th.small {n : Nat} {x : PyData} (h : Th n x) (hn : n ≤ 100) : Sml x := by
  rcases h with ⟨ds, e, hl, ho⟩ | ⟨⟨h1, h2, h3⟩, _⟩
  · obtain ⟨b1, b2, b3, b4⟩ := ok_all ho
    have t := listText_len_le (PyData.shownAll ds)
    have t2 := tupleText_len_le (PyData.shownAll ds)
    have e2 : ds.length * (200 * 4 ^ 1) ≤ 100 * (200 * 4 ^ 1) := Nat.mul_le_mul_right _ (by omega)
    rcases e with rfl | rfl
    · refine ⟨by simp only [PyData.showable, b1], by simp only [PyData.depth]; omega, ?_⟩
      simp only [PyData.shown]
      rw [sizeLine_eq]
      omega
    · refine ⟨by simp only [PyData.showable, b1], by simp only [PyData.depth]; omega, ?_⟩
      simp only [PyData.shown]
      rw [sizeLine_eq]
      omega
  · exact ⟨h1, by omega, by rw [sizeLine_eq]; have e8 : 200 * 4 ^ 1 = 800 := (by decide); omega⟩
instance ascDec (n : Nat) (x : Str) : Decidable (Asc n x) := by
  unfold Asc
  infer_instance
theorem ten20 {i : Int} (h0 : -3000000000 ≤ i) (h : i ≤ 3000000000) : i.natAbs < 10 ^ 20 := by
  have : (10:Nat) ^ 20 = 100000000000000000000 := by decide
  omega
def Nm (H : Hp) (a : Addr) (ws : List Str) : Prop := H a = some (.lst (ws.map V.str)) ∧ ws ≠ [] ∧ ws.length ≤ 8 ∧ ∀ x ∈ ws, nameOk x = true
section
variable {P : Program} {w : World} {K : PySem.W.Frag} {mg : Str → Option Value} {base : Heap}
abbrev nLFact : List Str := ["_law_state", "_law_names", "_law_places", "_law_marks", "_law_way", "_law_spot", "_law_number", "_law_later"]
def spLFact (ns : List Int) : Sp := fun vs H Q _ => ∃ (d g c l : Addr) (b : Nat) (m z : Int) (ws : List Str), vs = [.ref d, .ref l, .int m, .int z] ∧ Dw ns d g c b H ∧ b ≤ 800000000 ∧ l ≠ d ∧ l ≠ g ∧ Nm H l ws ∧ 4 ≤ m ∧ m ≤ 20 ∧ 1 ≤ z ∧ z ≤ 1000 ∧
  ∀ (p : Addr) (x : PyData) (H' : Hp), Dk d g H' (.ref p) x → Th 4 x → Dw ns d g c (b + 20) H' → Kp d g H H' → Q (.ref p) H'
theorem scLFact : FnScope nLFact ["_law_state", "_law_names", "_law_places", "_law_marks"] (defScope sLFact) := ⟨rfl, rfl, rfl, by decide +kernel, rfl, by decide +kernel, by decide +kernel⟩
theorem ok_lfact {f fT fP : Addr} {fd fdT fdP : FuncData} (ns : List Int) (F : Fun K "_law_fact" "_law_fact" sLFact f fd) (R : Draw P w K mg base ns fT fP fdT fdP) : FnOk P w K mg base CX0 4 f fd ["_law_state", "_law_names", "_law_places", "_law_marks"] (spLFact ns) := by
  refine F.ok scLFact (fun vs H Q E h => ?_) (fun cdv A outer s H vs Q E hr h => ?_)
  · obtain ⟨d, g, c, l, b, m, z, ws, rfl, _⟩ := h
    rfl
  · obtain ⟨d, g, c, l, b, m, z, ws, rfl, D, hb, nld, nlg, ⟨hl, hws, hlen, hok⟩, m0, m1, z0, z1, k⟩ := h
    have hu := hu_of hr
    have nd := scLFact.nd
    have hr3 : Room 3 (A.deeper (envOfC "_law_fact" (defScope sLFact) s.heap.objs.size f cdv)) := hr
    have hr2 : Room 2 (A.deeper (envOfC "_law_fact" (defScope sLFact) s.heap.objs.size f cdv)) := hr.mono (by decide)
    refine ⟨_, pss_cons (ps_par (i := 4) (j := 5) (by rfl) nd rfl rfl (by decide) rfl rfl (pa_cons (pe_call R.GT hr2 rfl R.mT R.kT R.bT .nil pass0 (pa_cons (pv 0) (pa_cons pe_int pa_nil))) (pa_cons (pe_op op_add pe_int (pe_call R.GT hr2 rfl R.mT R.kT R.bT .nil pass0 (pa_cons (pv 0) (pa_cons (pv 2) pa_nil)))) pa_nil)) (by rfl))
(pss_cons (ps_set (i := 6) nd rfl (.inl rfl) (pe_call R.GP hr3 rfl R.mP R.kP R.bP .nil pass0 (pa_cons (pv 0) (pa_cons (pe_lst (pa_cons pe_int (pa_cons pe_int (pa_cons pe_int (pa_cons (pe_op op_add pe_int (pe_call R.GT hr2 rfl R.mT R.kT R.bT .nil pass0 (pa_cons (pv 0) (pa_cons pe_int pa_nil)))) (pa_cons (pe_op op_add pe_int (pe_call R.GT hr2 rfl R.mT R.kT R.bT .nil pass0 (pa_cons (pv 0) (pa_cons (pe_op op_pow pe_int pe_int) pa_nil)))) (pa_cons (pe_op op_pow pe_int pe_int) pa_nil))))))) pa_nil))))
(pss_cons (ps_if (pt_cmpR op_lt (pv 4) pe_int (nomark _)) (pss_one (ps_ret (pe_tup (pa_cons (pe_ix ix_list (pe_lst (pa_cons pe_str (pa_cons pe_str pa_nil))) (pv 4) (fun _ _ => rfl)) (pa_cons (pv 5) (pa_cons (pe_call R.GP hr3 rfl R.mP R.kP R.bP .nil pass0 (pa_cons (pv 0) (pa_cons (pv 1) pa_nil))) (pa_cons (pv 6) pa_nil))))))) pss_nil)
(pss_cons (ps_if (pt_cmpR op_lt (pv 4) pe_int (nomark _)) (pss_one (ps_ret (pe_tup (pa_cons pe_str (pa_cons (pe_op op_add pe_int (pe_call R.GT hr2 rfl R.mT R.kT R.bT .nil pass0 (pa_cons (pv 0) (pa_cons (pv 3) pa_nil)))) (pa_cons (pe_call R.GP hr3 rfl R.mP R.kP R.bP .nil pass0 (pa_cons (pv 0) (pa_cons (pv 1) pa_nil))) (pa_cons (pv 6) pa_nil))))))) pss_nil)
(pss_cons (ps_if (pt_cmpR op_eq (pv 4) pe_int (nomark _)) (pss_one (ps_ret (pe_tup (pa_cons pe_str (pa_cons (pv 5) (pa_cons (pv 6) pa_nil)))))) pss_nil)
(pss_cons (ps_if (pt_cmpR op_eq (pv 4) pe_int (nomark _)) (pss_one (ps_ret (pe_tup (pa_cons pe_str (pa_cons (pv 5) pa_nil))))) pss_nil)
(pss_cons (ps_set (i := 7) nd rfl (.inl rfl) (pe_op op_add pe_int (pe_call R.GT hr2 rfl R.mT R.kT R.bT .nil pass0 (pa_cons (pv 0) (pa_cons (pe_op op_sub (pv 2) pe_int) pa_nil)))))
(pss_one (ps_ret (pe_tup (pa_cons (pe_ix ix_list (pe_lst (pa_cons pe_str (pa_cons pe_str pa_nil))) (pe_op op_sub (pv 4) pe_int) (fun _ _ => rfl)) (pa_cons (pv 7) (pa_cons (pe_op op_add pe_int (pe_call R.GT hr2 rfl R.mT R.kT R.bT .nil pass0 (pa_cons (pv 0) (pa_cons (pe_op op_sub (pv 7) pe_int) pa_nil)))) pa_nil)))))))))))), ?_⟩
    refine ⟨_, rfl, d, g, c, _, 8, rfl, D, by omega, by decide, by decide, fun r H1 r0 r1 D1 k1 => ?_⟩
    refine ⟨_, rfl, _, rfl, d, g, c, _, m, rfl, D1, by omega, by omega, by omega, fun y H2 y0 y1 D2 k2 => ?_⟩
    refine ⟨_, _, rfl, rfl, ?_⟩
    refine ⟨_, _, rfl, ?_⟩
    refine ⟨_, rfl, _, rfl, d, g, c, _, 12, rfl, D2, by omega, by decide, by decide, fun u1 H3 u10 u11 D3 k3 => ?_⟩
    refine ⟨_, _, rfl, rfl, ?_⟩
    refine ⟨_, rfl, _, _, rfl, rfl, ⟨by decide, by decide, by decide⟩, d, g, c, _, _, rfl, D3, by omega, by decide +kernel, by decide +kernel, fun u2 H4 u20 u21 D4 k4 => ?_⟩
    refine ⟨_, _, rfl, rfl, ?_⟩
    refine ⟨_, _, rfl, rfl, ⟨by decide, by decide, by decide⟩, by show 6 ≤ sizeLine; decide, fun q hq => ?_⟩
    refine ⟨d, g, c, _, D4.new hq, by omega, .inl ⟨q, _, rfl, upd_same, D4.nd hq, D4.ng hq, by show 0 < 6; decide, by show 6 ≤ 1000000; decide, fun x H5 hx D5 k5 => ?_⟩⟩
    obtain ⟨nm, rfl, nm0⟩ : ∃ n : Int, x = .int n ∧ n.natAbs < 10 ^ 20 := by
      have p9 : ((10 : Int) ^ (9 : Int).toNat) = 1000000000 := by decide +kernel
      simp only [List.mem_cons, List.not_mem_nil, or_false] at hx
      rcases hx with rfl | rfl | rfl | rfl | rfl | rfl
      · exact ⟨_, rfl, by decide⟩
      · exact ⟨_, rfl, by decide⟩
      · exact ⟨_, rfl, by decide⟩
      · exact ⟨_, rfl, ten20 (by omega) (by omega)⟩
      · exact ⟨_, rfl, ten20 (by omega) (by have u21 : u2 < 1000000000 := u21; omega)⟩
      · exact ⟨_, rfl, by decide +kernel⟩
    have sm : ∀ i : Int, 0 ≤ i → i ≤ 2000 → Ok 1 (.int i) := fun i h1 h2 => Gk.ok_int (ten20 (by omega) (by omega))
    have onm : Ok 1 (.int nm) := Gk.ok_int nm0
    have out : ∀ (t : Addr) (H' H0 : Hp) (c' : Nat) (vs : List V) (ds : List PyData), H' t = some (.tup vs) → H0 t = none → Dw ns d g c c' H0 → DkAll d g H' vs ds → ds.length ≤ 4 → (∀ y ∈ ds, Ok 1 y) → Dw ns d g c (b + 20) H' → Kp d g H H' → Q (.ref t) H' := fun t H' H0 c' vs ds h1 h2 D0 h3 h4 h5 D' k' => k t (.tuple ds) H' (.tup h1 (D0.nd h2) (D0.ng h2) h3) (.inl ⟨ds, .inl rfl, h4, h5⟩) D' k'
    have all4 : ∀ {a1 a2 a3 a4 : PyData}, Ok 1 a1 → Ok 1 a2 → Ok 1 a3 → Ok 1 a4 → ∀ y ∈ [a1, a2, a3, a4], Ok 1 y := fun h1 h2 h3 h4 y hy => by
      simp only [List.mem_cons, List.not_mem_nil, or_false] at hy
      rcases hy with rfl | rfl | rfl | rfl
      · exact h1
      · exact h2
      · exact h3
      · exact h4
    have all3 : ∀ {a1 a2 a3 : PyData}, Ok 1 a1 → Ok 1 a2 → Ok 1 a3 → ∀ y ∈ [a1, a2, a3], Ok 1 y := fun h1 h2 h3 y hy => by
      simp only [List.mem_cons, List.not_mem_nil, or_false] at hy
      rcases hy with rfl | rfl | rfl
      · exact h1
      · exact h2
      · exact h3
    have all2 : ∀ {a1 a2 : PyData}, Ok 1 a1 → Ok 1 a2 → ∀ y ∈ [a1, a2], Ok 1 y := fun h1 h2 y hy => by
      simp only [List.mem_cons, List.not_mem_nil, or_false] at hy
      rcases hy with rfl | rfl
      · exact h1
      · exact h2
    have okw : ∀ n ∈ ws, Ok 1 (.str n) := fun n hn => ok_str (name_asc19 (hok n hn))
    have okk : ∀ z : Str, Asc 19 z → Ok 1 (.str z) := fun z h => ok_str h
    have kk : Kp d g H H5 := ((((k1.trans k2).trans k3).trans k4).trans (Kp.new hq)).trans k5
    have hl5 := kk l _ nld nlg hl
    clear hx k1 k2 k3 k4 k5 D1 D2 D3 D4
    have D5 : Dw ns d g c (b + 5) H5 := D5.mono (by omega)
    have wpos : 0 < (ws.map V.str).length := by rw [List.length_map]; exact List.length_pos_iff.mpr hws
    have wlen : (ws.map V.str).length ≤ 1000000 := by rw [List.length_map]; omega
    refine ⟨_, rfl, _, _, rfl, rfl, _, rfl, ?_⟩
    refine ite2 (fun e => ?_) (fun n1 => ?_)
    · have e : r < 2 := of_decide_eq_true e
      refine ⟨by show 2 ≤ sizeLine; decide, fun q2 hq2 => ?_⟩
      have D6 := D5.new (o := .lst [.str "spender", .str "request"]) hq2
      have hl6 := new_same (o := .lst [.str "spender", .str "request"]) hq2 _ _ hl5
      have fin : ∀ (kd : Str) (x : V) (H7 : Hp) (t : Addr), Asc 19 kd → x ∈ ws.map V.str → Dw ns d g c (b + 6) H7 → Kp d g H H7 → H7 t = none → Q (.ref t) (upd H7 t (.tup [.str kd, .int (1 + y), x, .int nm])) := fun kd x H7 t hk hx D7 k7 ht => by
        obtain ⟨n, hn, rfl⟩ := List.mem_map.mp hx
        exact out t _ _ _ _ _ upd_same ht D7 (.cons (.str kd) (.cons (.int _) (.cons (.str n) (.cons (.int _) .nil)))) (Nat.le_refl _) (all4 (okk kd hk) (sm _ (by omega) (by omega)) (okw n hn) onm) ((D7.new ht).mono (by omega)) (k7.trans (Kp.new ht))
      have hr01 : r = 0 ∨ r = 1 := by omega
      rcases hr01 with rfl | rfl
      · refine ⟨_, rfl, q2, _, 0, V.str "spender", rfl, rfl, SqL.of upd_same, rfl, ?_⟩
        refine ⟨_, rfl, _, rfl, _, rfl, d, g, c, _, D6, by omega, .inl ⟨l, _, rfl, hl6, nld, nlg, wpos, wlen, fun x H7 hx D7 k7 => ?_⟩⟩
        exact ⟨_, rfl, by show 4 ≤ sizeLine; decide, fun t ht => fin "spender" x H7 t (by decide +kernel) hx D7 ((kk.trans (Kp.new hq2)).trans k7) ht⟩
      · refine ⟨_, rfl, q2, _, 1, V.str "request", rfl, rfl, SqL.of upd_same, rfl, ?_⟩
        refine ⟨_, rfl, _, rfl, _, rfl, d, g, c, _, D6, by omega, .inl ⟨l, _, rfl, hl6, nld, nlg, wpos, wlen, fun x H7 hx D7 k7 => ?_⟩⟩
        exact ⟨_, rfl, by show 4 ≤ sizeLine; decide, fun t ht => fin "request" x H7 t (by decide +kernel) hx D7 ((kk.trans (Kp.new hq2)).trans k7) ht⟩
    have n1 : ¬ r < 2 := of_decide_eq_false (Bool.eq_false_iff.mpr n1)
    refine ⟨_, rfl, _, _, rfl, rfl, _, rfl, ?_⟩
    refine ite2 (fun e => ?_) (fun n2 => ?_)
    · refine ⟨_, rfl, _, rfl, d, g, c, _, z, rfl, D5, by omega, by omega, by omega, fun mk H6 mk0 mk1 D6 k6 => ?_⟩
      refine ⟨_, _, rfl, rfl, ?_⟩
      refine ⟨_, rfl, _, rfl, d, g, c, _, D6, by omega, .inl ⟨l, _, rfl, k6 _ _ nld nlg hl5, nld, nlg, wpos, wlen, fun x H7 hx D7 k7 => ?_⟩⟩
      refine ⟨_, rfl, by show 4 ≤ sizeLine; decide, fun t ht => ?_⟩
      obtain ⟨n, hn, rfl⟩ := List.mem_map.mp hx
      exact out t _ _ _ _ _ upd_same ht D7 (.cons (.str _) (.cons (.int _) (.cons (.str n) (.cons (.int _) .nil)))) (Nat.le_refl _) (all4 (okk _ (by decide +kernel)) (sm _ (by omega) (by omega)) (okw n hn) onm) ((D7.new ht).mono (by omega)) (((kk.trans k6).trans k7).trans (Kp.new ht))
    have n2 : ¬ r < 4 := of_decide_eq_false (Bool.eq_false_iff.mpr n2)
    refine ⟨_, rfl, rfl, _, rfl, ?_⟩
    refine ite2 (fun e => ?_) (fun n3 => ?_)
    · refine ⟨_, rfl, _, rfl, by show 3 ≤ sizeLine; decide, fun t ht => ?_⟩
      exact out t _ _ _ _ _ upd_same ht D5 (.cons (.str _) (.cons (.int _) (.cons (.int _) .nil))) (by show 3 ≤ 4; decide) (all3 (okk _ (by decide +kernel)) (sm _ (by omega) (by omega)) onm) ((D5.new ht).mono (by omega)) (kk.trans (Kp.new ht))
    have n3 : ¬ r = 4 := fun e => n3 (decide_eq_true (by rw [e]))
    refine ⟨_, rfl, rfl, _, rfl, ?_⟩
    refine ite2 (fun e => ?_) (fun n4 => ?_)
    · refine ⟨_, rfl, by show 2 ≤ sizeLine; decide, fun t ht => ?_⟩
      exact out t _ _ _ _ _ upd_same ht D5 (.cons (.str _) (.cons (.int _) .nil)) (by show 2 ≤ 4; decide) (all2 (okk _ (by decide +kernel)) (sm _ (by omega) (by omega))) ((D5.new ht).mono (by omega)) (kk.trans (Kp.new ht))
    have n4 : ¬ r = 5 := fun e => n4 (decide_eq_true (by rw [e]))
    refine ⟨_, rfl, _, rfl, _, _, rfl, rfl, d, g, c, _, m - 1, rfl, D5, by omega, by omega, by omega, fun la H6 la0 la1 D6 k6 => ?_⟩
    refine ⟨_, _, rfl, rfl, ?_⟩
    refine ⟨by show 2 ≤ sizeLine; decide, fun q2 hq2 => ?_⟩
    have D7 := D6.new (o := .lst [.str "consent", .str "refuse"]) hq2
    have k7 : Kp d g H (upd H6 q2 (.lst [.str "consent", .str "refuse"])) := (kk.trans k6).trans (Kp.new hq2)
    have e7 : (upd H6 q2 (.lst [.str "consent", .str "refuse"])) q2 = some (.lst [.str "consent", .str "refuse"]) := upd_same
    generalize upd H6 q2 (.lst [.str "consent", .str "refuse"]) = H7 at D7 k7 e7 ⊢
    refine ⟨_, rfl, _, _, rfl, rfl, ?_⟩
    have hr67 : r = 6 ∨ r = 7 := by omega
    rcases hr67 with rfl | rfl
    · refine ⟨q2, _, 0, V.str "consent", rfl, rfl, SqL.of e7, rfl, ?_⟩
      refine ⟨_, rfl, _, rfl, _, rfl, _, _, rfl, rfl, d, g, c, _, 2 + la - 1, rfl, D7, by omega, by omega, by omega, fun sp H8 sp0 sp1 D8 k8 => ?_⟩
      refine ⟨_, _, rfl, rfl, by show 3 ≤ sizeLine; decide, fun t ht => ?_⟩
      exact out t _ _ _ _ _ upd_same ht D8 (.cons (.str _) (.cons (.int _) (.cons (.int _) .nil))) (by show 3 ≤ 4; decide) (all3 (okk _ (by decide +kernel)) (sm _ (by omega) (by omega)) (sm _ (by omega) (by omega))) ((D8.new ht).mono (by omega)) ((k7.trans k8).trans (Kp.new ht))
    · refine ⟨q2, _, 1, V.str "refuse", rfl, rfl, SqL.of e7, rfl, ?_⟩
      refine ⟨_, rfl, _, rfl, _, rfl, _, _, rfl, rfl, d, g, c, _, 2 + la - 1, rfl, D7, by omega, by omega, by omega, fun sp H8 sp0 sp1 D8 k8 => ?_⟩
      refine ⟨_, _, rfl, rfl, by show 3 ≤ sizeLine; decide, fun t ht => ?_⟩
      exact out t _ _ _ _ _ upd_same ht D8 (.cons (.str _) (.cons (.int _) (.cons (.int _) .nil))) (by show 3 ≤ 4; decide) (all3 (okk _ (by decide +kernel)) (sm _ (by omega) (by omega)) (sm _ (by omega) (by omega))) ((D8.new ht).mono (by omega)) ((k7.trans k8).trans (Kp.new ht))
end
end Lw

set_option Elab.async false
set_option linter.all false
set_option maxRecDepth 100000
set_option maxHeartbeats 4000000
namespace Lw
open L2 hiding Ext
open PySem PySem.Spec PyProof.Rows Gn Gr Gk Go Gt Gf Gu Gdw Gx Ge
/-! ### how long the texts are -/
theorem ok_manyT {n : Nat} {ds : List PyData} (h : ∀ x ∈ ds, Ok n x) (h2 : ds.length ≤ 8) : Ok (n + 2) (.tuple ds) := by
  obtain ⟨b1, b2, b3, b4⟩ := ok_all h
  have t2 := tupleText_len_le (PyData.shownAll ds)
  have e2 : ds.length * (200 * 4 ^ n) ≤ 8 * (200 * 4 ^ n) := Nat.mul_le_mul_right _ h2
  have e3 : 200 * 4 ^ (n + 2) = 16 * (200 * 4 ^ n) := by rw [Nat.pow_add]; omega
  have e4 : 1 ≤ 4 ^ n := Nat.pow_pos (by decide)
  refine ⟨by simp only [PyData.showable, b1], by simp only [PyData.depth]; omega, ?_⟩
  simp only [PyData.shown]
  omega
theorem ok_manyL {n : Nat} {ds : List PyData} (h : ∀ x ∈ ds, Ok n x) (h2 : ds.length ≤ 8) : Ok (n + 2) (.list ds) := by
  obtain ⟨b1, b2, b3, b4⟩ := ok_all h
  have t2 := listText_len_le (PyData.shownAll ds)
  have e2 : ds.length * (200 * 4 ^ n) ≤ 8 * (200 * 4 ^ n) := Nat.mul_le_mul_right _ h2
  have e3 : 200 * 4 ^ (n + 2) = 16 * (200 * 4 ^ n) := by rw [Nat.pow_add]; omega
  have e4 : 1 ≤ 4 ^ n := Nat.pow_pos (by decide)
  refine ⟨by simp only [PyData.showable, b1], by simp only [PyData.depth]; omega, ?_⟩
  simp only [PyData.shown]
  omega
theorem Ok.small {n : Nat} {x : PyData} (h : Ok n x) (hn : n ≤ 8) : x.showable = true ∧ x.depth ≤ 60 ∧ x.shown.length ≤ sizeLine := by
  obtain ⟨a, b, c⟩ := h
  refine ⟨a, by omega, Nat.le_trans c ?_⟩
  have : 4 ^ n ≤ 4 ^ 8 := Nat.pow_le_pow_right (by decide) hn
  rw [sizeLine_eq]
  have : (4:Nat) ^ 8 = 65536 := by decide
  omega
/-- a row of these accounts, as a value -/
theorem row_ok {b : Bool} {p z : Int} {n : Str} (hp : 1 ≤ p ∧ p ≤ 20) (hz : 1 ≤ z ∧ z ≤ 1000000000) (hn : nameOk n = true) : Ok 3 (Fact.row b p n z).data := by
  refine ok_manyT (n := 1) (fun x hx => ?_) (by show 4 ≤ 8; decide)
  simp only [Fact.drest, List.mem_cons, List.not_mem_nil, or_false] at hx
  rcases hx with rfl | rfl | rfl | rfl
  · cases b
    · exact ok_str (show Asc 19 (kinds 1) by decide +kernel)
    · exact ok_str (show Asc 19 (kinds 0) by decide +kernel)
  · exact Gk.ok_int (ten20 (by show -3000000000 ≤ p; omega) (by show p ≤ 3000000000; omega))
  · exact ok_str (name_asc19 hn)
  · exact Gk.ok_int (ten20 (by omega) (by omega))
theorem dep_fact {ws : List Str} {m z : Int} {n : Str} (hm : 1 ≤ m ∧ m ≤ 999) (hz : 1 ≤ z ∧ z ≤ 1000000000) (hn : n ∈ ws) : factB ws (Fact.dep m n z).data = true := by
  show factR ws "deposit" [.int m, .str n, .int z] = true
  unfold factR
  rw [show partsOf "deposit" = some (["mark", "account", "amount"] : List Str) by decide +kernel]
  have h1 : partB ws "mark" (.int m) = true := by unfold partB; rw [if_neg (by decide +kernel), if_neg (by decide +kernel), if_pos rfl]; exact decide_eq_true hm
  have h2 : partB ws "account" (.str n) = true := by unfold partB; rw [if_pos rfl]; exact decide_eq_true hn
  have h3 : partB ws "amount" (.int z) = true := by unfold partB; rw [if_neg (by decide +kernel), if_pos rfl]; exact decide_eq_true hz
  show (decide (3 = 3) && ((List.zipWith (partB ws) ["mark", "account", "amount"] [.int m, .str n, .int z]).all id && _)) = true
  simp only [List.zipWith_cons_cons, List.zipWith_nil_right, List.all_cons, List.all_nil, id, h1, h2, h3]
  rw [show decide (("deposit" : Str) = "consent" ∨ ("deposit" : Str) = "refuse") = false by decide +kernel]
  rfl
theorem row_fact {ws : List Str} {b : Bool} {p z : Int} {n : Str} (hp : 1 ≤ p ∧ p ≤ 20) (hz : 1 ≤ z ∧ z ≤ 1000000000) (hn : n ∈ ws) : factB ws (Fact.row b p n z).data = true := by
  have h1 : partB ws "place" (.int p) = true := by unfold partB; rw [if_neg (by decide +kernel), if_neg (by decide +kernel), if_neg (by decide +kernel)]; exact decide_eq_true hp
  have h2 : partB ws "account" (.str n) = true := by unfold partB; rw [if_pos rfl]; exact decide_eq_true hn
  have h3 : partB ws "amount" (.int z) = true := by unfold partB; rw [if_neg (by decide +kernel), if_pos rfl]; exact decide_eq_true hz
  cases b
  · show factR ws "request" [.int p, .str n, .int z] = true
    unfold factR
    rw [show partsOf "request" = some (["place", "account", "amount"] : List Str) by decide +kernel]
    show (decide (3 = 3) && ((List.zipWith (partB ws) ["place", "account", "amount"] [.int p, .str n, .int z]).all id && _)) = true
    simp only [List.zipWith_cons_cons, List.zipWith_nil_right, List.all_cons, List.all_nil, id, h1, h2, h3]
    rw [show decide (("request" : Str) = "consent" ∨ ("request" : Str) = "refuse") = false by decide +kernel]
    rfl
  · show factR ws "spender" [.int p, .str n, .int z] = true
    unfold factR
    rw [show partsOf "spender" = some (["place", "account", "amount"] : List Str) by decide +kernel]
    show (decide (3 = 3) && ((List.zipWith (partB ws) ["place", "account", "amount"] [.int p, .str n, .int z]).all id && _)) = true
    simp only [List.zipWith_cons_cons, List.zipWith_nil_right, List.all_cons, List.all_nil, id, h1, h2, h3]
    rw [show decide (("spender" : Str) = "consent" ∨ ("spender" : Str) = "refuse") = false by decide +kernel]
    rfl
theorem learn_dep (b : Bool) (p z m z' : Int) (n n' : Str) : learnF [.row b p n z] [] 0 [some (.dep m n' z')] = .ok ([.row b p n z, .dep m n' z'], [.dep m n' z']) := by
  have hr : ruled [.row b p n z] (.dep m n' z') = false := by
    have h1 : takenAt [.row b p n z] [.inr "deposit", .inl m] = none := by
      unfold takenAt takenL
      simp only [List.filterMap, Fact.slot, Option.map, List.find?]
      have : decide (([.inr "row", .inl p] : List Key) = [.inr "deposit", .inl m]) = false := decide_eq_false (fun e => by
        have := (List.cons.inj e).1
        exact absurd (Sum.inr.inj this) (by decide +kernel))
      rw [this]
    unfold ruled slotHit
    simp only [Fact.slot, Option.bind, h1]
    rfl
  show (if ruled _ _ = true then _ else _) = _
  rw [if_neg (by rw [hr]; exact Bool.false_ne_true), if_neg (by simp)]
  rfl
section
variable {P : Program} {w : World} {K : PySem.W.Frag} {mg : Str → Option Value} {base : Heap} {C CV CN CF CS : Addr}
/-! ### place, spent, view, log -/
def spSpPlace (CS : Addr) : Sp := fun vs H Q _ => ∃ (x fo p l v dx : Addr) (z : V) (i : Int) (f : Fact), vs = [.ref x] ∧ H x = some (.ins CS dx (spF fo p z i l v)) ∧ FAt H p f ∧ ∀ H', Ext H H' → Q (.int f.n1) H'
theorem scSpPlace : FnScope ["self"] ["self"] (defScope sSpPlace) := ⟨rfl, rfl, rfl, by decide +kernel, rfl, by decide +kernel, by decide +kernel⟩
theorem ok_spPlace {f0 : Addr} {fd : FuncData} (F : Fun K "place" "Spender.place" sSpPlace f0 fd) (S_ : SC K CS) : FnOk P w K mg base CX0 1 f0 fd ["self"] (spSpPlace CS) := by
  refine F.ok scSpPlace (fun vs H Q E h => ?_) (fun cdv A outer s H vs Q E hr h => ?_)
  · obtain ⟨x, fo, p, l, v, dx, z, i, f, rfl, _⟩ := h
    rfl
  · obtain ⟨x, fo, p, l, v, dx, z, i, f, rfl, hx, hp, q⟩ := h
    refine ⟨_, pss_one (ps_ret (pe_ix ix_tup (pe_fld (pv 0) rfl) pe_int (fun _ _ => rfl))), ?_⟩
    exact ⟨_, rfl, x, CS, dx, _, _, rfl, hx, S_.cl, S_.n2, rfl, p, _, _, _, rfl, rfl, SqT.of hp, at1 f, q H Ext.refl⟩
def spSpSpent (CS : Addr) : Sp := fun vs H Q _ => ∃ (x fo p l v dx : Addr) (z : V) (i : Int), vs = [.ref x] ∧ H x = some (.ins CS dx (spF fo p z i l v)) ∧ ∀ H', Ext H H' → Q (.int i) H'
theorem scSpSpent : FnScope ["self"] ["self"] (defScope sSpSpent) := ⟨rfl, rfl, rfl, by decide +kernel, rfl, by decide +kernel, by decide +kernel⟩
theorem ok_spSpent {f0 : Addr} {fd : FuncData} (F : Fun K "spent" "Spender.spent" sSpSpent f0 fd) (S_ : SC K CS) : FnOk P w K mg base CX0 1 f0 fd ["self"] (spSpSpent CS) := by
  refine F.ok scSpSpent (fun vs H Q E h => ?_) (fun cdv A outer s H vs Q E hr h => ?_)
  · obtain ⟨x, fo, p, l, v, dx, z, i, rfl, _⟩ := h
    rfl
  · obtain ⟨x, fo, p, l, v, dx, z, i, rfl, hx, q⟩ := h
    refine ⟨_, pss_one (ps_ret (pe_fld (pv 0) rfl)), ?_⟩
    exact ⟨_, rfl, x, CS, dx, _, _, rfl, hx, S_.cl, S_.n4, rfl, q H Ext.refl⟩
def spSpLog (CS : Addr) : Sp := fun vs H Q _ => ∃ (x fo p l v dx : Addr) (z : V) (i : Int) (ys : List V), vs = [.ref x] ∧ H x = some (.ins CS dx (spF fo p z i l v)) ∧ H l = some (.lst ys) ∧ ∀ H' l', Ext H H' → H l' = none → H' l' = some (.lst ys) → Q (.ref l') H'
theorem scSpLog : FnScope ["self"] ["self"] (defScope sSpLog) := ⟨rfl, rfl, rfl, by decide +kernel, rfl, by decide +kernel, by decide +kernel⟩
theorem ok_spLog {f0 : Addr} {fd : FuncData} (F : Fun K "log" "Spender.log" sSpLog f0 fd) (T : Names mg) (S_ : SC K CS) : FnOk P w K mg base CX0 1 f0 fd ["self"] (spSpLog CS) := by
  refine F.ok scSpLog (fun vs H Q E h => ?_) (fun cdv A outer s H vs Q E hr h => ?_)
  · obtain ⟨x, fo, p, l, v, dx, z, i, ys, rfl, _⟩ := h
    rfl
  · obtain ⟨x, fo, p, l, v, dx, z, i, ys, rfl, hx, hl, q⟩ := h
    refine ⟨_, pss_one (ps_ret (pe_callTy call_list_of rfl T.list (by decide +kernel) (pa_cons (pe_fld (pv 0) rfl) pa_nil))), ?_⟩
    exact ⟨_, rfl, x, CS, dx, _, _, rfl, hx, S_.cl, S_.n5, rfl, l, ys, rfl, .inl (SqL.of hl), fun l' hl' => q _ l' (Ext.new hl') hl' upd_same⟩
def spSpView (CS CV : Addr) : Sp := fun vs H Q _ => ∃ (x fo p l v dx dv fo' n : Addr) (z : V) (i : Int), vs = [.ref x] ∧ H x = some (.ins CS dx (spF fo p z i l v)) ∧ H v = some (.ins CV dv [("_forest", .ref fo'), ("_notes", .ref n)]) ∧
  ∀ H' o dx', Ext H H' → H o = none → H' o = some (.ins CV dx' [("_forest", .ref fo'), ("_notes", .ref n)]) → Q (.ref o) H'
theorem scSpView : FnScope ["self"] ["self"] (defScope sSpView) := ⟨rfl, rfl, rfl, by decide +kernel, rfl, by decide +kernel, by decide +kernel⟩
theorem ok_spView {f0 fT : Addr} {fd fdT : FuncData} (F : Fun K "view" "Spender.view" sSpView f0 fd) (S_ : SC K CS) (GT : FnOk P w K mg base CX0 5 fT fdT ["view"] (spTwinOf CV)) (bT : Binds K fdT ["view"] []) (kT : PySem.W.keepIn K (.ref fT) = true) (mT : mg "twin_of" = some (.ref fT)) :
    FnOk P w K mg base CX0 6 f0 fd ["self"] (spSpView CS CV) := by
  refine F.ok scSpView (fun vs H Q E h => ?_) (fun cdv A outer s H vs Q E hr h => ?_)
  · obtain ⟨x, fo, p, l, v, dx, dv, fo', n, z, i, rfl, _⟩ := h
    rfl
  · obtain ⟨x, fo, p, l, v, dx, dv, fo', n, z, i, rfl, hx, hv, q⟩ := h
    refine ⟨_, pss_one (ps_ret (pe_call GT hr rfl mT kT bT .nil pass0 (pa_cons (pe_fld (pv 0) rfl) pa_nil))), ?_⟩
    exact ⟨_, rfl, x, CS, dx, _, _, rfl, hx, S_.cl, S_.n6, rfl, v, dv, fo', n, rfl, hv, q⟩
end
end Lw

set_option Elab.async false
set_option linter.all false
set_option maxRecDepth 100000
set_option maxHeartbeats 4000000
/-! a call of a def of the text whose body wants to know more of where it is called from (the guards of repr) -/
namespace Gcg
open L2 hiding Ext
open PySem PySem.Spec PyProof.Rows Gn Gk Ge
variable {X : Cx} {x x' qual : Str} {st : Stmt} {f : Addr} {fd : FuncData} {N ps : List Str} {k : Nat} {sp : Sp} {p pos : Pos} {e : Expr} {es : List Expr} {t : TA}
theorem pe_callG (F : Fun X.K x qual st f fd) (S : FnScope N ps (defScope st)) (len : ∀ vs H Q E, sp vs H Q E → vs.length = ps.length)
    (body : ∀ (cdv : Value) (outer : List Env) (s : Shared) (H : Hp) (vs : List V) (Q : VK), Room k (X.A.deeper (envOfC qual (defScope st) s.heap.objs.size f cdv)) → sp vs H Q E0 →
      ∃ t, PSs (cxOf CX0 X.prog X.w X.K X.mg X.base N qual (defScope st) f cdv X.A outer s H E0).nox (defBody st) t ∧ t { nx := fun _ H' => Q .non H', rt := Q } (L2.start N vs) H)
    (hr : Room (k + 1) X.A) (hg : Gl X x') (hm : X.mg x' = some (.ref f)) (hk : PySem.W.keepIn X.K (.ref f) = true) (hb : Binds X.K fd ps [])
    (ha : PA X (e :: es) t) (hdb : (x' == ("__debug__" : Str)) = false := by decide) (he : starEach (e :: es) X.env = (false, eval e X.env) :: starEach es X.env := by rfl) (hpl : (backTo pos (starEach es X.env)).any (·.1) = false := by rfl) :
    PE X (.Call (.Name x' p) (e :: es) [] pos) (tCall sp [] E0 t) := by
  refine ⟨fun pins s σ H Q I h => ?_⟩
  refine wpAny_Call_Name_kw (ld_glob I hg hm ?_ hdb)
  refine PySem.W.callWith_K (h₀ := X.base) I.ok.mod.kin hk (thn (ha.run pos pins s σ H _ I h) fun us s1 ⟨vs, H1, I1, r, q⟩ => ⟨I1.kIn, ?_⟩) he hpl
  have q : sp (vs ++ []) H1 Q E0 := q
  rw [List.append_nil] at q
  have hl := len _ _ _ _ q
  have hl2 : (us ++ []).length = ps.length := by rw [List.append_nil, ← r.length, hl]
  have hbb := hb s1 us I1.kIn hl2
  rw [List.append_nil] at hbb
  refine wpAny_call (codeAny_mono (call_here F S hr I1.env0 hbb hl r (fun cdv hr' => body cdv X.stack s1 H1 vs Q hr' q)) fun r s' hq => ?_)
  cases r with
  | error er => exact False.elim hq
  | ok fl =>
    cases fl with
    | ret u => exact I1.after hq
    | next => exact False.elim hq
    | brk => exact False.elim hq
    | cont => exact False.elim hq
end Gcg

set_option Elab.async false
set_option linter.all false
set_option maxRecDepth 100000
set_option maxHeartbeats 4000000
namespace Lw
open L2 hiding Ext
open PySem PySem.Spec PyProof.Rows Gn Gr Gk Go Gt Gf Gu Gdw Gx Ge
section
variable {P : Program} {w : World} {K : PySem.W.Frag} {mg : Str → Option Value} {base : Heap} {C CV CN CF CS : Addr}
structure SO (P : Program) (w : World) (K : PySem.W.Frag) (mg : Str → Option Value) (base : Heap) (CS CV CN pV fV pL fL pP fP pS fS pF fF : Addr) (fdV fdL fdP fdS fdF : FuncData) : Prop where
  hV : PropOf K CS "view" pV fV
  GV : FnOk P w K mg base CX0 6 fV fdV ["self"] (spSpView CS CV)
  bV : Binds K fdV ["self"] []
  hL : PropOf K CS "log" pL fL
  GL : FnOk P w K mg base CX0 1 fL fdL ["self"] (spSpLog CS)
  bL : Binds K fdL ["self"] []
  hP : PropOf K CS "place" pP fP
  GP : FnOk P w K mg base CX0 1 fP fdP ["self"] (spSpPlace CS)
  bP : Binds K fdP ["self"] []
  hS : PropOf K CS "spent" pS fS
  GS : FnOk P w K mg base CX0 1 fS fdS ["self"] (spSpSpent CS)
  bS : Binds K fdS ["self"] []
  hF : PropOf K CV "facts" pF fF
  GF : FnOk P w K mg base CX0 1 fF fdF ["self"] (spVwFacts1 CV CN)
  bF : Binds K fdF ["self"] []
def spStands (C CV CN CS : Addr) : Sp := fun vs H Q _ => ∃ (x p fo l v dx dv n : Addr) (zr : V) (pl z : Int) (nm : Str) (rs : List FRow) (k t s r d : Addr), vs = [.ref x, .ref p] ∧ H x = some (.ins CS dx (spF fo p zr 0 l v)) ∧ FAt H p (.row true pl nm z) ∧ H l = some (.lst []) ∧
  H v = some (.ins CV dv [("_forest", .ref fo), ("_notes", .ref n)]) ∧ NtAt CN H n [.row true pl nm z] k t s r d ∧ FoAt C H fo rs ∧ 1 ≤ pl ∧ pl ≤ 20 ∧ 1 ≤ z ∧ z ≤ 1000000000 ∧ nm ∈ fNames rs ∧ nameOk nm = true ∧ ∀ H', Ext H H' → Q (.bl true) H'
abbrev nStands : List Str := ["_law_holder", "_law_own", "_law_told", "_law_more"]
theorem scStands : FnScope nStands ["_law_holder", "_law_own"] (defScope sLStands) := ⟨rfl, rfl, rfl, by decide +kernel, rfl, by decide +kernel, by decide +kernel⟩
theorem body_stands {f pV fV pL fL pP fP pS fS pF fF fLe : Addr} {fdV fdL fdP fdS fdF : FuncData} (T : Names mg) (V_ : VC K CV) (S_ : SC K CS) (O_ : SO P w K mg base CS CV CN pV fV pL fL pP fP pS fS pF fF fdV fdL fdP fdS fdF)
    (mLe : Meth K CV "learn" fLe) (GLe : FnR P w K mg base (L2.CX P w) 5 fLe (spLearn1 C CV CN CF))
    (cdv : Value) (A : Around) (outer : List Env) (s : Shared) (H : Hp) (vs : List V) (Q : VK) (hgd : (A.deeper (envOfC "_law_stands" (defScope sLStands) s.heap.objs.size f cdv)).guards = some []) (hsys : ∃ o, base.get? sysModules = some o)
    (hr : Room 7 (A.deeper (envOfC "_law_stands" (defScope sLStands) s.heap.objs.size f cdv))) (h : spStands C CV CN CS vs H Q E0) :
    ∃ t, PSs (cxOf CX0 P w K mg base nStands "_law_stands" (defScope sLStands) f cdv A outer s H E0).nox (defBody sLStands) t ∧ t { nx := fun _ H' => Q .non H', rt := Q } (L2.start nStands vs) H := by
  obtain ⟨x, p, fo, l, v, dx, dv, n, zr, pl, z, nm, rs, k, t, su, r, d, rfl, hx, hp, hl, hv, N, hF, p1, p2, z1, z2, hnm, hok, q⟩ := h
  have hu := hu_of hr
  have nd := scStands.nd
  have hr7 := hr
  have hr5 : Room 5 (A.deeper (envOfC "_law_stands" (defScope sLStands) s.heap.objs.size f cdv)) := hr.mono (by decide)
  have hr2 : Room 2 (A.deeper (envOfC "_law_stands" (defScope sLStands) s.heap.objs.size f cdv)) := hr.mono (by decide)
  have B : ∃ _u : Unit, ∃ o, base.get? sysModules = some o := ⟨(), hsys⟩
  refine ⟨_, pss_cons (ps_set (i := 2) nd rfl (.inl rfl) (pe_prop (pv 0) S_.cl O_.hV O_.GV hr7 O_.bV .nil pass0 rfl))
(pss_cons (ps_expr (pe_methR (pv 2) V_.cl mLe GLe hr5 passL (pa_cons (pe_tup (pa_cons pe_str (pa_cons pe_int (pa_cons (pe_ix ix_tup (pv 1) pe_int (fun _ _ => rfl)) (pa_cons pe_int pa_nil))))) pa_nil)))
(pss_cons (ps_set (i := 3) nd rfl (.inl rfl) (pe_prop (pv 0) S_.cl O_.hL O_.GL hr2 O_.bL .nil pass0 rfl))
(pss_cons (ps_expr (pe_bm PySem.F.plainAttrs_list PySem.F.slot_list_append PySem.F.type_list_append mt_append (pv 3) (pa_cons pe_str pa_nil)))
(pss_one (ps_ret (pe_cmpR op_eq (pe_callB (call_repr hgd hr.units hsys) rfl T.repr (by decide +kernel) (pa_cons (pe_lst (pa_cons (pe_prop (pv 0) S_.cl O_.hP O_.GP hr2 O_.bP .nil pass0 rfl) (pa_cons (pe_prop (pv 0) S_.cl O_.hS O_.GS hr2 O_.bS .nil pass0 rfl) (pa_cons (pe_prop (pe_prop (pv 0) S_.cl O_.hV O_.GV hr7 O_.bV .nil pass0 rfl) V_.cl O_.hF O_.GF hr2 O_.bF .nil pass0 rfl) (pa_cons (pe_prop (pv 0) S_.cl O_.hL O_.GL hr2 O_.bL .nil pass0 rfl) pa_nil))))) pa_nil)) (pe_callB (call_repr hgd hr.units hsys) rfl T.repr (by decide +kernel) (pa_cons (pe_lst (pa_cons (pe_ix ix_tup (pv 1) pe_int (fun _ _ => rfl)) (pa_cons pe_int (pa_cons (pe_lst (pa_cons (pv 1) pa_nil)) (pa_cons (pe_lst pa_nil) pa_nil))))) pa_nil)) (nomark _))))))), ?_⟩
  refine ⟨_, rfl, x, dx, _, rfl, hx, x, fo, p, l, v, dx, dv, fo, n, zr, 0, rfl, hx, hv, fun H1 tw dxt e1 ztw otw => ?_⟩
  -- it learns a deposit
  have at2 : atI (Fact.row true pl nm z).vals 2 = some (.str nm) := (show atI _ ((2 : Nat) : Int) = _ from atI_nat rfl)
  refine ⟨_, rfl, tw, dxt, _, rfl, otw, rfl, _, rfl, p, _, _, _, rfl, rfl, SqT.of (hp.ext e1), at2, by show 4 ≤ sizeLine; decide, fun pd hpd => ?_⟩
  have e2 := e1.trans (Ext.new (o := .tup [.str "deposit", .int 1, .str nm, .int 5]) hpd)
  have otw2 := Ext.new (o := .tup [.str "deposit", .int 1, .str nm, .int 5]) hpd _ _ otw
  have hpd2 : FAt (upd H1 pd (.tup [.str "deposit", .int 1, .str nm, .int 5])) pd (.dep 1 nm 5) := upd_same
  generalize upd H1 pd (.tup [.str "deposit", .int 1, .str nm, .int 5]) = H2 at e2 otw2 hpd2 ⊢
  have pdt : pd ≠ tw := ne_of hpd2 otw2 (by intro z; cases z)
  refine ⟨tw, tw, tw, dxt, fo, n, .ref pd, some (.dep 1 nm 5), rs, [.row true pl nm z], k, t, su, r, d, rfl, otw2, hF.ext e2, N.ext e2, ⟨_, dk_mk hpd2 pdt pdt, dep_fact ⟨by decide, by decide⟩ ⟨by decide, by decide⟩ hnm, rfl, hok⟩, by show 1 ≤ 900; decide, ?_⟩
  rw [learn_dep]
  intro H3 _ _ _ _ _ _ _ _ b3 _ _ _ _
  have e3 : Ext H H3 := fun b o hb => b3 _ _ (ne_of_none hb ztw) (e2 _ _ hb)
  have hx3 := e3 _ _ hx
  -- a list of its own
  refine ⟨_, rfl, x, dx, _, rfl, hx3, x, fo, p, l, v, dx, zr, 0, [], rfl, hx3, e3 _ _ hl, fun H4 l2 e4 zl2 hl2 => ?_⟩
  refine ⟨_, rfl, .inl ⟨rfl, _, SqL.of hl2⟩, l2, [], _, rfl, rfl, hl2, by show 0 < sizeLine; decide, ?_⟩
  have e5 : Ext H (upd H4 l2 (.lst ([] ++ [.str "more"]))) := fun b o hb => by
    rw [upd_ne (ne_of_none (e3 _ _ hb) zl2)]
    exact e4 _ _ (e3 _ _ hb)
  generalize upd H4 l2 (.lst ([] ++ [.str "more"])) = H5 at e5 ⊢
  -- what it tells
  refine ⟨_, rfl, x, dx, _, rfl, e5 _ _ hx, x, fo, p, l, v, dx, zr, 0, .row true pl nm z, rfl, e5 _ _ hx, hp.ext e5, fun H6 k6 => ?_⟩
  have e6 := e5.trans k6
  refine ⟨_, rfl, x, dx, _, rfl, e6 _ _ hx, x, fo, p, l, v, dx, zr, 0, rfl, e6 _ _ hx, fun H7 k7 => ?_⟩
  have e7 := e6.trans k7
  refine ⟨_, rfl, x, dx, _, rfl, e7 _ _ hx, x, fo, p, l, v, dx, dv, fo, n, zr, 0, rfl, e7 _ _ hx, e7 _ _ hv, fun H8 tw2 dxt2 k8 _ o8 => ?_⟩
  have e8 := e7.trans k8
  refine ⟨tw2, dxt2, _, rfl, o8, tw2, dxt2, fo, n, .row true pl nm z, k, t, su, r, d, rfl, o8, N.ext e8, fun H9 lf b9 k9 hlf hb9 => ?_⟩
  have e9 := e8.trans k9
  refine ⟨_, rfl, x, dx, _, rfl, e9 _ _ hx, x, fo, p, l, v, dx, zr, 0, [], rfl, e9 _ _ hx, e9 _ _ hl, fun H10 l3 k10 zl3 hl3 => ?_⟩
  have e10 := e9.trans k10
  refine ⟨by show 4 ≤ sizeLine; decide, fun tl htl => ?_⟩
  have k11 := Ext.new (o := .lst [.int (Fact.row true pl nm z).n1, .int 0, .ref lf, .ref l3]) htl
  have tl11 : (upd H10 tl (.lst [.int (Fact.row true pl nm z).n1, .int 0, .ref lf, .ref l3])) tl = some (.lst [.int pl, .int 0, .ref lf, .ref l3]) := upd_same
  generalize upd H10 tl (.lst [.int (Fact.row true pl nm z).n1, .int 0, .ref lf, .ref l3]) = H11 at k11 tl11 ⊢
  have e11 := e10.trans k11
  have drF : ∀ {Hq : Hp} {b : Addr}, FAt Hq b (.row true pl nm z) → Dr Hq (.ref b) (Fact.row true pl nm z).data := fun {_ b} h => (dk_mk (d := b + 1) (g := b + 1) h (Nat.ne_of_lt (Nat.lt_succ_self b)) (Nat.ne_of_lt (Nat.lt_succ_self b))).dr
  have okF := row_ok (b := true) ⟨p1, p2⟩ ⟨z1, z2⟩ hok
  have okL : Ok 6 (.list [.int pl, .int 0, .list [(Fact.row true pl nm z).data], .list []]) := ok_manyL (n := 4) (fun y hy => by
    simp only [List.mem_cons, List.not_mem_nil, or_false] at hy
    rcases hy with rfl | rfl | rfl | rfl
    · exact Gk.ok_int (ten20 (by omega) (by omega))
    · exact Gk.ok_int (by decide)
    · exact ok_list (fun y hy => by rw [List.mem_singleton.mp hy]; exact okF) (by show 1 ≤ 2; decide)
    · exact (ok_list (n := 0) (fun y hy => by cases hy) (Nat.zero_le _)).mono (by decide)) (by show 4 ≤ 8; decide)
  obtain ⟨s1, s2, s3⟩ := Lw.Ok.small okL (by decide)
  refine ⟨_, _, rfl, Dr.lst tl11 (.cons (.int _) (.cons (.int _) (.cons (Dr.lst ((k10.trans k11) _ _ hlf) (.cons (drF (hb9.ext (k10.trans k11))) .nil)) (.cons (Dr.lst (k11 _ _ hl3) .nil) .nil)))), s1, s2, s3, ?_⟩
  have hp11 := hp.ext e11
  refine ⟨_, rfl, p, _, _, _, rfl, rfl, SqT.of hp11, at1 _, _, rfl, by show 1 ≤ sizeLine; decide, fun lo hlo => ?_⟩
  have k12 := Ext.new (o := .lst [.ref p]) hlo
  have lo12 : (upd H11 lo (.lst [.ref p])) lo = some (.lst [.ref p]) := upd_same
  generalize upd H11 lo (.lst [.ref p]) = H12 at k12 lo12 ⊢
  refine ⟨Nat.zero_le _, fun le hle => ?_⟩
  have k13 := Ext.new (o := .lst []) hle
  have le13 : (upd H12 le (.lst [])) le = some (.lst []) := upd_same
  generalize upd H12 le (.lst []) = H13 at k13 le13 ⊢
  refine ⟨by show 4 ≤ sizeLine; decide, fun to hto => ?_⟩
  have k14 := Ext.new (o := .lst [.int (Fact.row true pl nm z).n1, .int 0, .ref lo, .ref le]) hto
  have to14 : (upd H13 to (.lst [.int (Fact.row true pl nm z).n1, .int 0, .ref lo, .ref le])) to = some (.lst [.int pl, .int 0, .ref lo, .ref le]) := upd_same
  generalize upd H13 to (.lst [.int (Fact.row true pl nm z).n1, .int 0, .ref lo, .ref le]) = H14 at k14 to14 ⊢
  have e14 := ((e11.trans k12).trans k13).trans k14
  refine ⟨_, _, rfl, Dr.lst to14 (.cons (.int _) (.cons (.int _) (.cons (Dr.lst ((k13.trans k14) _ _ lo12) (.cons (drF (hp.ext e14)) .nil)) (.cons (Dr.lst (k14 _ _ le13) .nil) .nil)))), s1, s2, s3, rfl, ?_⟩
  have := q H14 e14
  rw [decide_eq_true rfl]
  exact this
end
end Lw

set_option Elab.async false
set_option linter.all false
set_option maxRecDepth 100000
set_option maxHeartbeats 4000000
/-! a law that makes lambdas: its own table of code objects is tracked -/
namespace Ga
open PySem PySem.Spec PyProof.Rows L2 Gn Ge LamX
/-- call_here where the code object is known -/
theorem call_at {P : Program} {w : World} {K : PySem.W.Frag} {mg : Str → Option Value} {base : Heap} {x qual : Str} {st : Stmt} {f c : Addr} {fd : FuncData} {N ps : List Str} {k : Nat} {A : Around} {outer : List Env} {s : Shared} {H : Hp} {vs : List V} {us : List Value} {Q : VK}
    (F : Fun K x qual st f fd) (S : FnScope N ps (defScope st)) (hr : Room (k + 1) A) (e0 : Env0 P w K mg base A outer s H) (hb : BindsTo s fd ⟨us, []⟩ (ps.zip us)) (hl : vs.length = ps.length) (r : Vals vs us) (hcode : fd.code = .ref c)
    (body : Room k (A.deeper (envOfC qual (defScope st) s.heap.objs.size f (.ref c))) →
      ∃ t, PSs (cxOf CX0 P w K mg base N qual (defScope st) f (.ref c) A outer s H E0).nox (defBody st) t ∧ t { nx := fun _ H' => Q .non H', rt := Q } (start N vs) H) :
    codeAny (model P w) A (.call (.ref f) ⟨us, []⟩) (CR CX0 outer P w H s Q E0) s := by
  obtain ⟨oc, od, kV, doc, pm, an, cdv, ct, osl, rfl, lk, hcd⟩ := F.ex
  have hcode : cdv = .ref c := hcode
  subst hcode
  have old : ∀ b o, base.get? b = some o → s.heap.get? b = some o := fun b o e => (e0.bs b o e).1
  have KX : K.In s.heap := e0.mod.kin.keeps old
  obtain ⟨t, ht, hq⟩ := body (hr.deeper _)
  refine codeAny_call_function hr.depth (KX _ _ lk) rfl S.co S.gen rfl (PySem.W.codeRec_of KX hcd) (hb _ _ _ _ ?_)
  refine wpAny_newFunctionEnv_cells S.kind (fun ⟨n, v⟩ hy => ?_) (fun env he s1 z => ?_)
  · cases S.par n (List.of_mem_zip hy).1 with
    | inl q => exact .inl q
    | inr q => exact .inr ⟨q, PySem.W.cellsFrom_some _ _ _ (.inl q)⟩
  · subst he
    refine ⟨(e0.mod.nolimit.keeps old).keeps z.toInCall.keep, codeAny_func ?_⟩
    have I : Inv (cxOf CX0 P w K mg base N qual (defScope st) f (.ref c) A outer s H E0) [] (start N vs) H s1 := inv_start S hr.hd e0 hl r z
    refine wpAny_mono (ht.nox.run [] s1 (start N vs) H _ I hq) (fun fl s' hs => ?_) (fun e s' hs => hs)
    match fl, hs with
    | .ret u, ⟨v, σ', H', J, rv, q⟩ => exact ⟨v, H', J.os, J.bare, J.base, J.hok, rv, q⟩
    | .next, ⟨σ', H', J, q⟩ => exact ⟨.non, H', J.os, J.bare, J.base, J.hok, rfl, q⟩
    | .brk, ⟨_, _, _, q⟩ => exact q.elim
    | .cont, ⟨_, _, _, q⟩ => exact q.elim
section
variable {P : Program} {w : World} {K : PySem.W.Frag} {mg mb : Str → Option Value} {s₁ : Shared} {a c t : Addr} {vs : List Value} {ns : List Int} {st : Stmt} {N : List Str} {x : Str} {k : Nat} {fa : Addr} {fd : FuncData}
/-- the state that the row's call begins with; t is the table -/
theorem env_ofT {H : Hp} (KX : K.In s₁.heap) (hns : s₁.heap.Ns mainGlobals mg) (hb : s₁.heap.Ns builtinsNs mb) (hbb : ∀ x : Str, x ≠ "__name__" → mb x = bootBuiltins x) (hlim : s₁.heap.NoLimit) (hsee : ∃ mm, s₁.heap.Ns sysModules mm) (hg : s₁.gens = #[])
    (ha : s₁.heap.get? a = some { cls := .type "list", data := .seq vs.toArray }) (ht : s₁.heap.get? t = some (PySem.W.tabObj #[])) (hc : PySem.W.CodeHd s₁.heap c t)
    (hbm : ∃ bm ob, mg "__builtins__" = some (.ref bm) ∧ bm ≠ builtinsNs ∧ s₁.heap.get? bm = some ob ∧ ob.cls = .type "module" ∧ ob.dict = some builtinsNs ∧ ob.data = .plain)
    (only : ∀ b, H b ≠ none → b = a ∨ b = t) (hka : H a ≠ none → K.lookup a = none) (hkt : K.lookup t = none) (hok : HOk P w H s₁.heap) :
    Env0 P w K mg (hidT s₁.heap H) callerA [] s₁ H ∧ Bed K mg (hidT s₁.heap H) callerA ∧ TabB (hidT s₁.heap H) mg c t := by
  -- what is neither the list nor the table stands in the hidden heap too
  have stands : ∀ {b : Addr} {o : Obj}, s₁.heap.get? b = some o → (∀ q n, o.data ≠ .seq q n) → o.data ≠ .fields #[] → (hidT s₁.heap H).get? b = some o := fun {b o} e h1 h2 => hidT_get e (by
    cases q : H b with
    | none => rfl
    | some u =>
      exfalso
      rcases only b (by rw [q]; simp) with z | z
      · subst z
        rw [ha] at e
        cases e
        exact h1 _ _ rfl
      · subst z
        rw [ht] at e
        cases e
        exact h2 rfl)
  have nsS : ∀ {b : Addr} {m : Str → Option Value}, s₁.heap.Ns b m → (hidT s₁.heap H).Ns b m := fun {b m} ⟨o, es, ep, e, dd, r⟩ =>
    ⟨o, es, ep, stands e (fun q n z => by rw [dd] at z; cases z) (fun z => by rw [dd] at z; cases z), dd, r⟩
  have kS : K.In (hidT s₁.heap H) := fun b o e => hidT_get (KX b o e) (by
    cases q : H b with
    | none => rfl
    | some u =>
      exfalso
      rcases only b (by rw [q]; simp) with z | z
      · subst z
        rw [hka (by rw [q]; simp)] at e
        cases e
      · subst z
        rw [hkt] at e
        cases e)
  obtain ⟨mc, c1, c2⟩ := hlim
  obtain ⟨mm, sysN⟩ := hsee
  obtain ⟨so, _, _, sysE, _⟩ := nsS sysN
  obtain ⟨go, ges, gep, ge, gd, _⟩ := id hns
  refine ⟨⟨rfl, ⟨kS, nsS hns, ⟨mb, nsS hb, hbb⟩, ⟨mc, nsS c1, c2⟩⟩, fun b o e => of_hidT e, Nat.le_of_eq (hidT_size _ _), trivial, fun b z => absurd (show b ∈ ([] : List Addr) from z) (by simp), hok, .of_eq hg⟩, ⟨kS, nsS hns, ⟨so, sysE⟩, rfl⟩, ?_, ?_, ?_⟩
  · obtain ⟨o, us, file, tf, flags, tg, inF, tx, tt, e1, r1, r2, r3, rest⟩ := hc
    refine ⟨o, us, file, tf, flags, tg, inF, tx, tt, stands e1 (fun q n z => ?_) (fun z => ?_), r1, r2, r3, rest⟩
    · rw [r2] at z
      cases z
    · rw [r2] at z
      cases z
      simp at r3
  · obtain ⟨bm, ob, b1, b2, b3, b4, b5, b6⟩ := hbm
    refine ⟨bm, ob, b1, b2, fun z => ?_, fun z => ?_, stands b3 (fun q n z => by rw [b6] at z; cases z) (fun z => by rw [b6] at z; cases z), b4, b5, b6⟩
    · subst z
      rw [ge] at b3
      cases b3
      rw [gd] at b6
      cases b6
    · subst z
      rw [ht] at b3
      cases b3
      cases b6
  · intro z
    subst z
    rw [ge] at ht
    cases ht
    cases gd
/-- the heap with the table, and the list where it is tracked -/
def Ht (t a : Addr) (v : Option HO) : Hp := fun b => if b = t then some (.tbl #[]) else if b = a then v else none
theorem ht_t {t a : Addr} {v : Option HO} : Ht t a v t = some (.tbl #[]) := if_pos rfl
theorem ht_a {t a : Addr} {v : Option HO} (h : a ≠ t) : Ht t a v a = v := (if_neg h).trans (if_pos rfl)
theorem ht_no {t a b : Addr} {v : Option HO} (h1 : b ≠ t) (h2 : b ≠ a) : Ht t a v b = none := (if_neg h1).trans (if_neg h2)
theorem law_trueT (KX : K.In s₁.heap) (hns : s₁.heap.Ns mainGlobals mg) (hb : s₁.heap.Ns builtinsNs mb) (hbb : ∀ x : Str, x ≠ "__name__" → mb x = bootBuiltins x) (hlim : s₁.heap.NoLimit) (hsee : ∃ mm, s₁.heap.Ns sysModules mm) (hg : s₁.gens = #[])
    (ha : s₁.heap.get? a = some { cls := .type "list", data := .seq vs.toArray }) (ht : s₁.heap.get? t = some (PySem.W.tabObj #[])) (hc : PySem.W.CodeHd s₁.heap c t)
    (hbm : ∃ bm ob, mg "__builtins__" = some (.ref bm) ∧ bm ≠ builtinsNs ∧ s₁.heap.get? bm = some ob ∧ ob.cls = .type "module" ∧ ob.dict = some builtinsNs ∧ ob.data = .plain) (hkt : K.lookup t = none)
    (hi : IntsAre vs ns) (hl : ns.length ≤ sizeLine) (hr : Room (k + 1) callerA)
    (F : Fun K "law" "law" st fa fd) (S : FnScope N [x] (defScope st)) (hbind : ∀ (s : Shared) (u : Value), BindsTo s fd ⟨[u], []⟩ [(x, u)]) (hcode : fd.code = .ref c)
    (body : ∀ (base : Heap) (A : Around) (s : Shared) (H : Hp), Bed K mg base A → TabB base mg c t → H t = some (.tbl #[]) → Room k (A.deeper (envOfC "law" (defScope st) s.heap.objs.size fa (.ref c))) → SqL K H a (ns.map V.int) →
      ∃ q, PSs (cxOf CX0 P w K mg base N "law" (defScope st) fa (.ref c) A [] s H E0).nox (defBody st) q ∧ q { nx := fun _ _ => False, rt := fun v _ => v = .bl true } (start N [.ref a]) H) :
    codeAny (model P w) callerA (.call (.ref fa) ⟨[.ref a], []⟩) (fun r s' => r = .ok (.ret (.bool true)) ∧ OldK s₁.heap s'.heap ∧ s'.os = s₁.os ∧ AllBare s'.gens) s₁ := by
  have nat : a ≠ t := fun z => by
    subst z
    rw [ha] at ht
    cases ht
  have rv := vals_ints hi
  have go : ∀ v : Option HO, (v = none ∨ v = some (.frz { cls := .type "list", data := .seq vs.toArray } (.lst (ns.map V.int)))) → SqL K (Ht t a v) a (ns.map V.int) → (v ≠ none → K.lookup a = none) →
      codeAny (model P w) callerA (.call (.ref fa) ⟨[.ref a], []⟩) (fun r s' => r = .ok (.ret (.bool true)) ∧ OldK s₁.heap s'.heap ∧ s'.os = s₁.os ∧ AllBare s'.gens) s₁ := by
    intro v hv hS hk
    have hok : HOk P w (Ht t a v) s₁.heap := fun b u z => by
      by_cases h1 : b = t
      · subst h1
        rw [ht_t] at z
        cases z
        exact ht
      · by_cases h2 : b = a
        · subst h2
          rw [ht_a nat] at z
          rcases hv with e | e
          · rw [e] at z; cases z
          · rw [e] at z
            cases z
            exact ⟨ha, by rw [List.length_map]; exact hl, vs, _, rv, ha⟩
        · rw [ht_no h1 h2] at z
          cases z
    obtain ⟨e0, B, TB⟩ := env_ofT (P := P) (w := w) (H := Ht t a v) KX hns hb hbb hlim hsee hg ha ht hc hbm (fun b hne => by
      by_cases h1 : b = t
      · exact .inr h1
      · by_cases h2 : b = a
        · exact .inl h2
        · exact absurd (ht_no h1 h2) hne) (fun hne => hk (by rw [ht_a nat] at hne; exact hne)) hkt hok
    refine codeAny_mono (call_at (Q := fun v _ => v = .bl true) (vs := [.ref a]) (us := [.ref a]) F S hr e0 (hbind s₁ (.ref a)) rfl (.cons rfl .nil) hcode fun hr' => ?_) fun r s' h => ?_
    · obtain ⟨q, h1, h2⟩ := body (hidT s₁.heap (Ht t a v)) callerA s₁ (Ht t a v) B TB ht_t hr' hS
      have e : (fun (_ : L2.St) (_ : Hp) => V.non = V.bl true) = fun _ _ => False := by funext _ _; simp
      refine ⟨q, h1, ?_⟩
      show q { nx := fun _ _ => V.non = V.bl true, rt := fun v _ => v = V.bl true } (start N [.ref a]) (Ht t a v)
      rw [e]
      exact h2
    · match r, h with
      | .error e, h => exact False.elim h
      | .ok .next, h => exact False.elim h
      | .ok .brk, h => exact False.elim h
      | .ok .cont, h => exact False.elim h
      | .ok (.ret u), ⟨v1, H', os, bare, un, hok', r', q⟩ =>
        subst q
        obtain rfl : u = Value.bool true := r'
        obtain ⟨more, hm⟩ := un.tbls t #[] ht_t
        have tab' : s'.heap.get? t = some { cls := .none, data := .fields (#[] ++ more) } := hok' t _ hm
        have rest : ∀ b o, b ≠ t → s₁.heap.get? b = some o → s'.heap.get? b = some o := fun b o n e => by
          by_cases h2 : b = a
          · subst h2
            rcases hv with z | z
            · exact un.keep b o e (by rw [ht_a nat, z]) (by intro m; exact absurd (show b ∈ ([] : List Addr) from m) (by simp)) (by simp)
            · have zf : Ht t b v b = some (.frz { cls := .type "list", data := .seq vs.toArray } (.lst (ns.map V.int))) := by rw [ht_a nat, z]
              obtain ⟨e2, _⟩ := hok' b _ (un.frzs b _ _ zf)
              rw [ha] at e
              cases e
              exact e2
          · exact un.keep b o e (ht_no n h2) (by intro m; exact absurd (show b ∈ ([] : List Addr) from m) (by simp)) (by simp)
        refine ⟨rfl, ⟨fun b o e => ?_, fun b o e => ?_⟩, os, bare⟩
        · by_cases h1 : b = t
          · subst h1
            rw [ht] at e
            cases e
            exact .inr (.inl ⟨(hc.tab ht).isCodeTable, rfl, #[], more, rfl, tab'⟩)
          · exact .inl (rest b o h1 e)
        · by_cases h1 : b = t
          · subst h1
            exact ⟨_, tab'⟩
          · exact ⟨o, rest b o h1 e⟩
  cases hk : K.lookup a with
  | some o =>
    have e := KX a o hk
    rw [ha] at e
    cases e
    exact go none (.inl rfl) (.inr ⟨_, vs.toArray, _, hk, rfl, rfl, rfl, by rw [List.size_toArray, hi.length]; exact hl, by simpa using rv⟩) fun z => absurd rfl z
  | none => exact go _ (.inr rfl) (.inl (.inr ⟨_, ht_a nat⟩)) fun _ => hk
end
open PySem.W in
/-- the goal that the head leaves, where the law makes lambdas -/
theorem walk_lawT {l : PySem.W.OpenLaw} {n k : Nat} {q : Program} {loose : List Str} {XP : (Str → Option Value) → Heap → Prop} {YP : World → Heap → Prop} {d dd : DefRec} {K : Params → PySem.W.Frag} {x : Str} {st : Stmt} {N : List Str}
    (hn : l.most = some n) (hn2 : n ≤ sizeLine) (hdf : d.params.defaults = []) (hdn : d.name = "law") (hr : Room (k + 1) callerA) (hi : importsNone q = true) (hfind : (recsOf q).find? (fun e => e.name == ("law" : Str)) = some dd) (S : FnScope N [x] (defScope st))
    (hY : ∀ (w : World) (h : Heap), YP w h → (K w.params).In h)
    (F : ∀ (w : World) (mg : Str → Option Value) (fa : Addr) (h : Heap), (K w.params).In h → h.Ns mainGlobals mg → mg "law" = some (.ref fa) →
      ∃ (fd : FuncData) (c t : Addr), tabIn (K w.params) "law" = some (c, t) ∧ (K w.params).lookup t = none ∧ Fun (K w.params) "law" "law" st fa fd ∧ fd.code = .ref c ∧ (∀ (s : Shared) (u : Value), BindsTo s fd ⟨[u], []⟩ [(x, u)]) ∧
        ∀ (base : Heap) (A : Around) (s : Shared) (H : Hp) (a : Addr) (ns : List Int), ns.length ≤ n → Bed (K w.params) mg base A → TabB base mg c t → H t = some (.tbl #[]) → Room k (A.deeper (envOfC "law" (defScope st) s.heap.objs.size fa (.ref c))) → SqL (K w.params) H a (ns.map V.int) →
          ∃ q, PSs (cxOf CX0 l.prog w (K w.params) mg base N "law" (defScope st) fa (.ref c) A [] s H E0).nox (defBody st) q ∧ q { nx := fun _ _ => False, rt := fun v _ => v = .bl true } (start N [.ref a]) H) :
    PySem.W.WalkO q loose XP YP l.row.toRowW d [] (fun f vs => PySem.call f vs) := by
  refine Att.attach_call hn hdf fun w s₀ s₁ mg mb fa o pm cd doc a vs ns G Y ho hd hcd hmg hobj hints hlen hg => ?_
  rw [hdn] at hmg
  have KX := hY w _ Y
  obtain ⟨fd, c, t, e1, e2, F1, e3, F2, F3⟩ := F w mg fa _ KX G.T.g hmg
  obtain ⟨hc, ht⟩ := tab_of G.T KX hfind e1
  obtain ⟨mm, z, _⟩ := (G.T.seer hi).mods
  exact law_trueT KX G.T.g G.T.b G.T.builtins G.T.nolimit ⟨mm, z⟩ hg hobj ht hc G.T.bmain e2 hints (Nat.le_trans hlen hn2) hr F1 S F2 e3 fun base A s H B TB hT hr' hS => F3 base A s H a ns hlen B TB hT hr' hS
end Ga

set_option Elab.async false
set_option linter.all false
set_option maxRecDepth 100000
set_option maxHeartbeats 4000000
namespace Lw
open L2 hiding Ext
open PySem PySem.Spec PyProof.Rows Gn Gr Gk Go Gt Gf Gu Gx LamX
/-! ### _law_refusal: what it makes of the lambda -/
structure XM (K : PySem.W.Frag) (A CP CF CR : Addr) (b : Bool) : Prop where
  c : ExcC K A
  e : PySem.W.exmOne K (.ref A) (.ref CP) = some true
  sF : PySem.W.kitOne K (.ref A) (.ref CF) = some b
  sR : PySem.W.kitOne K (.ref A) (.ref CR) = some (!b)
  sV : PySem.W.kitOne K (.ref A) (.type "ValueError") = some true
structure XRc (K : PySem.W.Frag) (mg : Str → Option Value) (CP CF CR : Addr) : Prop where
  nm : mg "PurseError" = some (.ref CP)
  gF : mg "InvalidFact" = some (.ref CF)
  gR : mg "UnknownRule" = some (.ref CR)
  gV : mg "ValueError" = none
  mF : XM K CF CP CF CR true
  mR : XM K CR CP CF CR false
  fF : XfC K CF
  nF : PySem.W.findIn K (.ref CF) "index" = some none
abbrev nRef : List Str := ["_law_work", "_law_caught", "e"]
def Cau (CF CR : Addr) (Q : VK) (cls : Value) (d : Option Addr) (H' : Hp) : Prop :=
  (cls = .ref CF ∧ ∃ (dd : Addr) (i : Int), d = some dd ∧ H' dd = some (.xd [("index", .int i)]) ∧ ∀ H2, Ext H' H2 → Q (.int i) H2) ∨ (cls = .ref CR ∧ d = none ∧ ∀ H2, Ext H' H2 → Q (.str "rule") H2)
def TTR (CF CR : Addr) : (XK → Hp → VK → Prop) → Hp → VK → Prop := fun tl H Q =>
  ∀ (E' : XK) (Q' : VK), (∀ cls d H', Cau CF CR Q cls d H' → E' cls d H') → (∀ v H', Q .non H' → Q' v H') → tl E' H Q'
theorem scRef : FnScope nRef ["_law_work"] (defScope sLRefusal) := ⟨rfl, rfl, rfl, by decide +kernel, rfl, by decide +kernel, by decide +kernel⟩
theorem takes_len {X : Cx} {W : WX} (tk : Takes X W) : Takes X (fun cls d σ H => σ.length = X.N.length → W cls d σ H) := fun u s' ⟨a, B, sI, pins, σ, H, cls, d, e, I, nb, up, sky, na, os, ag, w⟩ => tk u s' ⟨a, B, sI, pins, σ, H, cls, d, e, I, nb, up, sky, na, os, ag, w I.len⟩
section
variable {X : Cx} {CP CF CR g : Addr} {cdg : Value} {q : Str}
theorem ref_gives (T : Names X.mg) (Y : XRc X.K X.mg CP CF CR) : GivesTo X nRef "_law_refusal" (defScope sLRefusal) g cdg (defBody sLRefusal) "_law_work" q (TTR CF CR) := by
  intro f c' s H Q tl act hc h
  have nd := scRef.nd
  refine ⟨_, pss_cons (ps_set (i := 1) nd rfl (.inl rfl) pe_non)
    (pss_cons (ps_try_keep (X := (cxOf C8.CX0 X.prog X.w X.K X.mg X.base nRef "_law_refusal" (defScope sLRefusal) g cdg X.A X.stack s H C8.E0).nox) (c := .ref CP) (i := 2) (j := 1)
      (tb := fun W D σ H => ∃ Ech : XK, (∀ cls d σ' H', Ech cls d H' → σ'.length = 3 → W cls d σ' H') ∧ σ[0]? = some (some (.ref f)) ∧ H c' = some (CodeO c' q) ∧ tl Ech H (fun _ H' => D.nx σ H'))
      rfl rfl nd rfl rfl rfl rfl ⟨rfl, by decide, .inl Y.nm⟩ rfl (by decide) (by decide) rfl fun W pn xe tk _ => ?body)
    (pss_cons (ps_if (pt_cmpR op_isN (pv 1) pe_non (nomark _)) (pss_one (ps_ret pe_non)) pss_nil)
    (pss_cons (ps_if (PW.pt (pw_or (pt_cmpR op_eq (pe_callB call_isX rfl T.isi (by decide +kernel) (pa_cons (pv 1) (pa_cons (pe_glob (v := .ref CF) rfl Y.gF rfl) pa_nil))) (pe_callB call_isX rfl T.isi (by decide +kernel) (pa_cons (pv 1) (pa_cons (pe_glob (v := .ref CR) rfl Y.gR rfl) pa_nil))) (nomark _))
      (pw_or1 (pt_not (pt_val (pe_callB call_isX rfl T.isi (by decide +kernel) (pa_cons (pv 1) (pa_cons (pe_bltn (v := .ty "ValueError") rfl Y.gV (by decide +kernel) rfl) pa_nil)))))))) (pss_one (ps_ret pe_str)) pss_nil)
    (pss_one (ps_ret (pe_ifExp (pt_val (pe_callB call_isX rfl T.isi (by decide +kernel) (pa_cons (pv 1) (pa_cons (pe_glob (v := .ref CF) rfl Y.gF rfl) pa_nil)))) (pe_xk (pv 1)) pe_str))))))
    , ?_⟩
  case body =>
    refine ⟨fun pins s' σ H' D I h' => ?_⟩
    obtain ⟨Ech, hW, h1, h2, h3⟩ := h'
    exact (pss_one (ps_expr (act _ pn xe Ech _ _ (takes_len tk) (fun cls d σ' H' e l => hW cls d σ' H' e l)))).run pins s' σ H' D I ⟨h1, h2, h3⟩
  · refine ⟨fun cls d H' => Cau CF CR Q cls d H', ?_, rfl, hc, h _ _ (fun cls d H' hz => hz) fun v H' k => ⟨_, rfl, rfl, _, rfl, iteS rfl k⟩⟩
    rintro cls d σ' H' hz hl
    match σ', hl with
    | [x0, x1, x2], _ =>
    rcases hz with ⟨rfl, dd, i, rfl, hd, k⟩ | ⟨rfl, rfl, k⟩
    · refine ⟨Y.mF.e, fun a ha => ?_⟩
      have nda : dd ≠ a := ne_of_none hd ha
      have d3 : (upd H' a (ExK (.ref CF) (some dd) a)) dd = some (.xd [("index", .int i)]) := by rw [upd_ne nda]; exact hd
      have a3 : (upd H' a (ExK (.ref CF) (some dd) a)) a = some (ExK (.ref CF) (some dd) a) := upd_same
      have k3 : Ext H' (upd H' a (ExK (.ref CF) (some dd) a)) := Ext.new ha
      dsimp only [List.set]
      generalize upd H' a (ExK (.ref CF) (some dd) a) = H3 at d3 a3 k3 ⊢
      refine ⟨_, rfl, rfl, _, rfl, iteN (by intro z; cases z) ?_⟩
      refine ⟨_, rfl, a, CF, some dd, _, _, true, rfl, a3, ⟨_, d3⟩, Y.mF.c, .own CF, Y.mF.sF, _, rfl, a, CF, some dd, _, _, false, rfl, a3, ⟨_, d3⟩, Y.mF.c, .own CR, Y.mF.sR, rfl, _, rfl, iteN (by intro z; cases z) ?_⟩
      refine ⟨_, rfl, a, CF, some dd, _, _, true, rfl, a3, ⟨_, d3⟩, Y.mF.c, .ty "ValueError", Y.mF.sV, true, rfl, iteF ?_⟩
      refine ⟨_, rfl, a, CF, some dd, _, _, true, rfl, a3, ⟨_, d3⟩, Y.mF.c, .own CF, Y.mF.sF, true, rfl, iteT ?_⟩
      exact ⟨_, rfl, a, CF, dd, _, .int i, rfl, a3, d3, Y.fF, Y.nF, rfl, k _ k3⟩
    · refine ⟨Y.mR.e, fun a ha => ?_⟩
      have a3 : (upd H' a (ExK (.ref CR) none a)) a = some (ExK (.ref CR) none a) := upd_same
      have k3 : Ext H' (upd H' a (ExK (.ref CR) none a)) := Ext.new ha
      dsimp only [List.set]
      generalize upd H' a (ExK (.ref CR) none a) = H3 at a3 k3 ⊢
      refine ⟨_, rfl, rfl, _, rfl, iteN (by intro z; cases z) ?_⟩
      refine ⟨_, rfl, a, CR, none, _, _, false, rfl, a3, trivial, Y.mR.c, .own CF, Y.mR.sF, _, rfl, a, CR, none, _, _, true, rfl, a3, trivial, Y.mR.c, .own CR, Y.mR.sR, rfl, _, rfl, iteN (by intro z; cases z) ?_⟩
      refine ⟨_, rfl, a, CR, none, _, _, true, rfl, a3, trivial, Y.mR.c, .ty "ValueError", Y.mR.sV, true, rfl, iteF ?_⟩
      refine ⟨_, rfl, a, CR, none, _, _, false, rfl, a3, trivial, Y.mR.c, .own CF, Y.mR.sF, false, rfl, iteF ?_⟩
      exact k _ k3
end
end Lw

set_option Elab.async false
set_option linter.all false
set_option maxRecDepth 100000
set_option maxHeartbeats 4000000
/-! repr of a list of a text and a tuple of texts that the module holds -/
namespace Gr
open PySem PySem.Spec PyProof.Rows L2 Gk
theorem dr_strs {H : Hp} : ∀ zs : List Str, DrAll H (zs.map V.str) (zs.map PyData.str)
  | [] => .nil
  | z :: r => .cons (.str z) (dr_strs r)
def rReprC (K : PySem.W.Frag) : List V → Hp → VK → Prop := fun xs H Q => ∃ (a t : Addr) (z : Str) (zs : List Str) (d : PyData), xs = [.ref a] ∧ H a = some (.lst [.str z, .ref t]) ∧ SqT K H t (zs.map V.str) ∧ d = .list [.str z, .tuple (zs.map PyData.str)] ∧ d.showable = true ∧ d.depth ≤ 60 ∧ d.shown.length ≤ sizeLine ∧ Q (.str d.shown) H
theorem call_reprC {X : Cx} (hg : X.A.guards = some []) (hu : X.A.units + 64 < cLine) (hs : ∃ o, X.base.get? sysModules = some o) : CallR X (.builtin "repr") (rReprC X.K) := by
  intro pins s σ H xs us Q I r h
  obtain ⟨a, t, z, zs, d, rfl, ha, ht, rfl, sh, dp, sz, q⟩ := h
  obtain ⟨u, rfl, ru⟩ := vals1 r
  obtain rfl : u = .ref a := ru
  have fin : ∀ h' tk uk, (∀ b o, s.heap.get? b = some o → h'.get? b = some o) → EP X pins σ Q (.str (PyData.list [.str z, .tuple (zs.map PyData.str)]).shown uk) { s with heap := h', toks := tk } := fun h' tk uk k => ⟨.str _, H, I.kept k, ⟨uk, rfl⟩, q⟩
  obtain ⟨its, rv, ⟨o, n, ho, hc, _, hd⟩, _⟩ := I.list (SqL.of ha)
  obtain ⟨u1, u2, rfl, r1, r2⟩ := vals2 rv
  obtain ⟨t1, rfl⟩ := r1
  obtain rfl : u2 = .ref t := r2
  obtain ⟨its2, rv2, ⟨o2, ho2, hc2, n2, hd2⟩, _⟩ := I.tuple ht
  obtain ⟨as, hr, hn⟩ := DrAll.reads I hs _ _ its2 (dr_strs zs) rv2
  have rd := ReadsAll.cons (Reads.str (h := s.heap) z t1) (ReadsAll.cons (Reads.tuple ho2 hc2 hd2 hr) ReadsAll.nil)
  exact repr_of_reads' (Reads.list ho hc hd rd) sh (fun _ => fun m => by
    rcases List.mem_cons.mp m with e | e
    · exact not_sys I hs ha e
    · simp only [List.nil_append, List.append_nil] at e
      exact hn e) hg (by omega) (fun _ _ e => e) (fun h' u tk k => fin h' tk u k) sz
end Gr

set_option Elab.async false
set_option linter.all false
set_option maxRecDepth 100000
set_option maxHeartbeats 16000000
namespace Lw
open L2 hiding Ext
open PySem PySem.Spec PyProof.Rows Gn Gr Gk Go Gt Gf Gu Gx LamX Ge Ga
/-! ### what stands, where only tables may grow -/
theorem FoAt.kp {C a d g c : Addr} {ns : List Int} {b : Nat} {H H' : Hp} {rs : List FRow} (h : FoAt C H a rs) (G : Good rs) (D : Dw ns d g c b H) (k : Kp d g H H') : FoAt C H' a rs := by
  obtain ⟨⟨gs, l, t, hd, hg, _, _⟩, _⟩ := D
  obtain ⟨dx, q, h1, h2⟩ := h
  refine ⟨dx, q, k _ _ (ne_of h1 hd (by intro z; cases z)) (ne_of h1 hg (by intro z; cases z)) h1, k _ _ (fun e => ?_) (ne_of h2 hg (by intro z; cases z)) h2⟩
  rw [e, hd] at h2
  injection h2 with h2
  injection h2 with h2
  cases rs with
  | nil => have := G.1; simp at this
  | cons r rs =>
    have h3 : (kG, V.ref g) = ((Sum.inr r.1 : Key), parV r.2) := (List.cons.inj h2).1
    have h4 : V.ref g = parV r.2 := (Prod.mk.inj h3).2
    cases e2 : r.2 with
    | none => rw [e2] at h4; cases h4
    | some m => rw [e2] at h4; cases h4
theorem good_names {rs : List FRow} (G : Good rs) : fNames rs ≠ [] ∧ (fNames rs).length ≤ 8 ∧ (∀ x ∈ fNames rs, nameOk x = true) ∧ (fNames rs).Nodup := by
  have l : (fNames rs).length = rs.length := by unfold fNames; rw [List.length_map]
  refine ⟨fun e => ?_, by rw [l]; exact G.2.1, fun x hx => ?_, (good_nodup G.2.2).1⟩
  · rw [e] at l
    have := G.1
    simp at l
    omega
  · obtain ⟨r, hr, rfl⟩ := List.mem_map.mp hx
    exact (good_mem G.2.2 hr).1
theorem RowsAt.get {H : Hp} {vs : List V} {rs : List FRow} (h : RowsAt H vs rs) {i : Nat} {x : V} (hx : vs[i]? = some x) : ∃ (r : FRow) (p : Addr), rs[i]? = some r ∧ x = .ref p ∧ H p = some (.tup [.str r.1, parV r.2]) := by
  have hi : i < rs.length := by rw [← h.1]; exact (List.getElem?_eq_some_iff.mp hx).1
  obtain ⟨p, a, b⟩ := h.2 i _ (List.getElem?_eq_getElem hi)
  rw [hx] at a
  cases a
  exact ⟨_, p, List.getElem?_eq_getElem hi, rfl, b⟩
theorem tabs_kp {T : List (Addr × Str)} {ns : List Int} {d g c : Addr} {b : Nat} {H H' : Hp} (D : Dw ns d g c b H) (k : Kp d g H H') (h : Tabs T H) : Tabs T H' := fun p hp => by
  obtain ⟨⟨gs, l, t, hd, hg, _, _⟩, _⟩ := D
  obtain ⟨ps, h1, h2, h3⟩ := h p hp
  refine ⟨ps, k _ _ (ne_of h1 hd (by intro z; cases z)) (ne_of h1 hg (by intro z; cases z)) h1, h2, fun pos cv hc => ?_⟩
  obtain ⟨c0, e1, e2⟩ := h3 pos cv hc
  exact ⟨c0, e1, k _ _ (ne_of e2 hd (by unfold CodeO; intro z; cases z)) (ne_of e2 hg (by unfold CodeO; intro z; cases z)) e2⟩
theorem dw_n {ns : List Int} {d g c : Addr} {b : Nat} {H H' : Hp} (h : Dw ns d g c b H) (k : ExtN H H') : Dw ns d g c b H' := by
  obtain ⟨⟨gs, l, t, h1, h2, h3, h4⟩, h5, h6, h7⟩ := h
  exact ⟨⟨gs, l, t, k _ _ h1 (by intro z q; cases q), k _ _ h2 (by intro z q; cases q), h3, h4⟩, k _ _ h5 (by intro z q; cases q), h6, h7⟩
theorem fo_n {C a : Addr} {H H' : Hp} {rs : List FRow} (h : FoAt C H a rs) (k : ExtN H H') : FoAt C H' a rs := by
  obtain ⟨dx, q, h1, h2⟩ := h
  exact ⟨dx, q, k _ _ h1 (by intro z q; cases q), k _ _ h2 (by intro z q; cases q)⟩
mutual
theorem dk_n {d g : Addr} {H H' : Hp} (k : ExtN H H') : ∀ {v : V} {x : PyData}, Dk d g H v x → Dk d g H' v x
  | _, _, .non => .non
  | _, _, .bl b => .bl b
  | _, _, .int i => .int i
  | _, _, .str x => .str x
  | _, _, .lst h n1 n2 a => .lst (k _ _ h (by intro z q; cases q)) n1 n2 (dk_nAll k a)
  | _, _, .tup h n1 n2 a => .tup (k _ _ h (by intro z q; cases q)) n1 n2 (dk_nAll k a)
  | _, _, .dct h n1 n2 => .dct (k _ _ h (by intro z q; cases q)) n1 n2
theorem dk_nAll {d g : Addr} {H H' : Hp} (k : ExtN H H') : ∀ {vs : List V} {ds : List PyData}, DkAll d g H vs ds → DkAll d g H' vs ds
  | _, _, .nil => .nil
  | _, _, .cons h a => .cons (dk_n k h) (dk_nAll k a)
end
/-! ### tuples in pieces -/
def Tv (d g : Addr) (m : Nat) (H : Hp) (q : Addr) : Prop := ∃ vs ds, H q = some (.tup vs) ∧ q ≠ d ∧ q ≠ g ∧ DkAll d g H vs ds ∧ ds.length ≤ m
theorem Tv.mono {d g : Addr} {m m' : Nat} {H : Hp} {q : Addr} (h : Tv d g m H q) (k : m ≤ m') : Tv d g m' H q := by
  obtain ⟨vs, ds, h1, h2, h3, h4, h5⟩ := h
  exact ⟨vs, ds, h1, h2, h3, h4, Nat.le_trans h5 k⟩
theorem Tv.kp {d g : Addr} {m : Nat} {H H' : Hp} {q : Addr} (h : Tv d g m H q) (k : Kp d g H H') : Tv d g m H' q := by
  obtain ⟨vs, ds, h1, h2, h3, h4, h5⟩ := h
  exact ⟨vs, ds, k _ _ h2 h3 h1, h2, h3, h4.kp k, h5⟩
theorem Tv.dk {d g : Addr} {m : Nat} {H : Hp} {q : Addr} (h : Tv d g m H q) : ∃ x, Dk d g H (.ref q) x := by
  obtain ⟨vs, ds, h1, h2, h3, h4, h5⟩ := h
  exact ⟨.tuple ds, .tup h1 h2 h3 h4⟩
section
variable {K : PySem.W.Frag} {d g c : Addr} {ns : List Int} {b : Nat} {H : Hp}
theorem slV {m : Nat} {p : Addr} {lo hi : Option Int} {Q : VK} (h : Tv d g m H p) (D : Dw ns d g c b H) (k : ∀ H' q, Ext H H' → Tv d g m H' q → Q (.ref q) H') : rSlA K (.ref p) lo hi H Q := by
  obtain ⟨vs, ds, h1, h2, h3, h4, h5⟩ := id h
  refine ⟨p, vs, rfl, SqT.of h1, fun _ => k H p Ext.refl h, fun _ q hq => ?_⟩
  refine k _ q (Ext.new hq) ⟨cutV vs lo hi, (ds.drop (HT.sIx vs.length 0 lo)).take (HT.sIx vs.length vs.length hi - HT.sIx vs.length 0 lo), upd_same, D.nd hq, D.ng hq, ((h4.drop _).take _).kp (Kp.new hq), ?_⟩
  rw [List.length_take, List.length_drop]
  omega
theorem catV {m m' : Nat} {p q : Addr} {Q : VK} (h : Tv d g m H p) (h' : Tv d g m' H q) (hz : m + m' ≤ 100000) (D : Dw ns d g c b H) (k : ∀ H' r, Ext H H' → Tv d g (m + m') H' r → Q (.ref r) H') : rCatA K (.ref p) (.ref q) H Q := by
  obtain ⟨vs, ds, h1, h2, h3, h4, h5⟩ := id h
  obtain ⟨us, es, g1, g2, g3, g4, g5⟩ := id h'
  have l1 := h4.len
  have l2 := g4.len
  refine ⟨p, q, vs, us, rfl, rfl, SqT.of h1, SqT.of g1, by rw [sizeLine_eq]; omega, fun _ => k H q Ext.refl (h'.mono (by omega)), fun _ _ => k H p Ext.refl (h.mono (by omega)), fun _ _ r hr => ?_⟩
  exact k _ r (Ext.new hr) ⟨vs ++ us, ds ++ es, upd_same, D.nd hr, D.ng hr, (h4.kp (Kp.new hr)).app (g4.kp (Kp.new hr)), by rw [List.length_append]; omega⟩
end
/-! ### what the law is given -/
structure SpM (P : Program) (w : World) (K : PySem.W.Frag) (mg : Str → Option Value) (base : Heap) (C CV CN CF CR CS fSp : Addr) (fdSp : FuncData) (ds : List Value) : Prop where
  S_ : SC K CS
  make : Mk K CS fSp
  g : mg "Spender" = some (.ref CS)
  G : FnOk P w K mg base (L2.CX P w) 6 fSp fdSp ["self", "forest", "row", "rule"] (spSpInit C CV CN CF CR CS)
  b : Binds K fdSp ["self", "forest", "row", "rule"] ds
  v : Vals [V.str "correct"] ds
  k1 : KBn K fdSp ["self", "forest", "row", "rule"] 3 ["rule"] (fun us ws => us ++ ws) (fun vs zs => vs ++ zs)
  k3 : KBn K fdSp ["self", "forest", "row", "rule"] 1 ["rule", "row", "forest"] (fun us ws => us ++ ws.reverse) (fun vs zs => vs ++ zs.reverse)
section
variable {P : Program} {w : World} {K : PySem.W.Frag} {mg : Str → Option Value} {base : Heap}
def spPickC (K : PySem.W.Frag) (ns : List Int) : Sp := fun vs H Q _ => ∃ (d g c t : Addr) (b : Nat) (xs : List V), vs = [.ref d, .ref t] ∧ Dw ns d g c b H ∧ b ≤ 1000000000 ∧ (∀ H : Hp, SqT K H t xs) ∧ 0 < xs.length ∧ xs.length ≤ 1000000 ∧
  ∀ (x : V) (H' : Hp), x ∈ xs → Dw ns d g c (b + 1) H' → Kp d g H H' → Q x H'
theorem ok_pickC {f fT : Addr} {fd fdT : FuncData} (ns : List Int) (F : Fun K "_law_pick" "_law_pick" sPick f fd) (GT : FnOk P w K mg base CX0 2 fT fdT ["_law_state", "_law_size"] (spTake ns)) (bT : Binds K fdT ["_law_state", "_law_size"] []) (kT : PySem.W.keepIn K (.ref fT) = true) (mT : mg "_law_take" = some (.ref fT))
    (ml : mg "len" = none) : FnOk P w K mg base CX0 3 f fd ["_law_state", "_law_some"] (spPickC K ns) := by
  refine F.ok scPick (fun vs H Q E h => ?_) (fun cdv A outer s H vs Q E hr h => ?_)
  · obtain ⟨d, g, c, t, b, xs, rfl, _⟩ := h
    rfl
  · obtain ⟨d, g, c, t, b, xs, rfl, D, hb, ht, h0, h1, k⟩ := h
    have nd := scPick.nd
    refine ⟨_, pss_one (ps_ret (pe_ix ix_tup (pv 1) (pe_call GT hr rfl mT kT bT .nil pass0 (pa_cons (pv 0) (pa_cons (pe_callB call_len_seq rfl ml PySem.boot_len (pa_cons (pv 1) pa_nil)) pa_nil))) (fun _ _ => rfl))), ?_⟩
    refine ⟨_, rfl, _, rfl, _, rfl, t, xs, rfl, .inr (ht H), d, g, c, b, _, rfl, D, hb, by omega, by omega, fun r H' r0 r1 D' k' => ?_⟩
    obtain ⟨v, hv, hm⟩ := at_int r0 r1
    exact ⟨t, xs, r, v, rfl, rfl, ht H', hv, k v H' hm D' k'⟩
theorem data_inj {f g : Fact} (h : f.data = g.data) : f = g := by
  have e := eqv_fact f g
  rw [h, eqv_fact g g, decide_eq_true rfl] at e
  exact of_decide_eq_true e.symm
theorem tag_sp (f : Fact) : decide (f.tag = 0) = isSp (some f) := by
  cases f with
  | row b _ _ _ => cases b <;> rfl
  | ans b _ _ => cases b <;> rfl
  | _ => rfl
theorem ttr_val {CF CR : Addr} {tl : XK → Hp → VK → Prop} {Ha : Hp} {R : VK} (due : V) (hd : ∀ H2, Ext Ha H2 → R due H2)
    (h : ∀ (R' : VK), (∀ H2, Ext Ha H2 → R' due H2) → ∀ (E' : XK) (Q' : VK), (∀ cls d H', Cau CF CR R' cls d H' → E' cls d H') → (∀ v H', R' .non H' → Q' v H') → tl E' Ha Q') : TTR CF CR tl Ha R :=
  fun E' Q' a b => h R hd E' Q' a b
/-- what making a spender of such values comes to -/
theorem sp_call {C CV CN CF CR CS x dx y d g : Addr} {Ha : Hp} {vr vz : V} {o : Option Fact} {yz : PyData} {rs : List FRow} {R' : VK} {E' : XK} {Q' : VK} {due : V} (hE : ∀ cls d H', Cau CF CR R' cls d H' → E' cls d H') (hQ : ∀ v H', R' .non H' → Q' v H') (hd : ∀ H2, Ext Ha H2 → R' due H2)
    (hx : Ha x = none) (hdx : Ha dx = none) (hF : FoAt C Ha y rs) (ha : ArgAt d g Ha (fNames rs) vr o) (hz : Dk d g Ha vz yz) (e1 : isSp o = false → due = .int 0) (e2 : isSp o = true → ruleB yz = false → due = .str "rule") (e3 : isSp o = true → ruleB yz = true → due = .non) :
    spSpInit C CV CN CF CR CS [.ref x, .ref y, vr, vz] (upd (upd Ha dx (.own x)) x (.ins CS dx [])) (fun v H2 => v = .non ∧ Q' (.ref x) H2) E' := by
  have kx : Ext Ha (upd (upd Ha dx (.own x)) x (.ins CS dx [])) := fun b o hb => by
    rw [upd_ne (ne_of_none hb hx), upd_ne (ne_of_none hb hdx)]
    exact hb
  refine ⟨x, y, dx, d, g, d, g, vr, vz, o, yz, rs, rfl, upd_same, hF.ext kx, ha.kp (Kp.of kx), hz.kp (Kp.of kx), fun e H' dd k d0 d1 => ?_, fun e e' H' k => ?_, fun e e' H' p l v dv n f' k t s r d' kb _ _ _ _ _ _ => ⟨rfl, ?_⟩⟩
  · refine hE _ _ _ (.inl ⟨rfl, dd, 0, rfl, d1, fun H2 k2 => ?_⟩)
    have := hd H2 ((kx.trans k).trans k2)
    rw [e1 e] at this
    exact this
  · refine hE _ _ _ (.inr ⟨rfl, rfl, fun H2 k2 => ?_⟩)
    have := hd H2 ((kx.trans k).trans k2)
    rw [e2 e e'] at this
    exact this
  · refine hQ _ _ ?_
    have := hd H' (fun b ob hb => kb b ob (ne_of_none hb hx) (kx _ _ hb))
    rw [e3 e e'] at this
    exact this
theorem ArgAt.n {d g : Addr} {H H' : Hp} {ws : List Str} {v : V} {o : Option Fact} (h : ArgAt d g H ws v o) (k : ExtN H H') : ArgAt d g H' ws v o := let ⟨y, a, b⟩ := h; ⟨y, dk_n k a, b⟩
/-- all that the calls read -/
structure Lst (C : Addr) (T : List (Addr × Str)) (ns : List Int) (d g c y po qD : Addr) (bn : Nat) (rs : List FRow) (vb vw : V) (o : Option Fact) (yw : PyData) (own : Fact) (D : List V) (H : Hp) : Prop where
  fo : FoAt C H y rs
  ar : ArgAt d g H (fNames rs) vb o
  wo : Dk d g H vw yw
  po : FAt H po own
  dw : Dw ns d g c bn H
  tb : Tabs T H
  ld : H qD = some (.lst D)
theorem Lst.ext {C : Addr} {T : List (Addr × Str)} {ns : List Int} {d g c y po qD : Addr} {bn : Nat} {rs : List FRow} {vb vw : V} {o : Option Fact} {yw : PyData} {own : Fact} {D : List V} {H H' : Hp} (h : Lst C T ns d g c y po qD bn rs vb vw o yw own D H) (k : Ext H H') : Lst C T ns d g c y po qD bn rs vb vw o yw own D H' :=
  ⟨h.fo.ext k, h.ar.kp (Kp.of k), h.wo.kp (Kp.of k), h.po.ext k, h.dw.keep k, h.tb.ext k, k _ _ h.ld⟩
theorem Lst.n {C : Addr} {T : List (Addr × Str)} {ns : List Int} {d g c y po qD : Addr} {bn : Nat} {rs : List FRow} {vb vw : V} {o : Option Fact} {yw : PyData} {own : Fact} {D : List V} {H H' : Hp} (h : Lst C T ns d g c y po qD bn rs vb vw o yw own D H) (k : ExtN H H') (t : Tabs T H') : Lst C T ns d g c y po qD bn rs vb vw o yw own D H' :=
  ⟨fo_n h.fo k, h.ar.n k, dk_n k h.wo, k _ _ h.po (by intro z q; cases q), dw_n h.dw k, t, k _ _ h.ld (by intro z q; cases q)⟩
theorem tabs_put {T : List (Addr × Str)} {q : Addr} {ys zs : List V} {H : Hp} (h : Tabs T H) (hq : H q = some (.lst ys)) : Tabs T (upd H q (.lst zs)) := fun p hp => by
  obtain ⟨ps, h1, h2, h3⟩ := h p hp
  refine ⟨ps, by rw [upd_ne (ne_of h1 hq (by intro z; cases z))]; exact h1, h2, fun pos cv hc => ?_⟩
  obtain ⟨c0, e1, e2⟩ := h3 pos cv hc
  exact ⟨c0, e1, by rw [upd_ne (ne_of e2 hq (by unfold CodeO; intro z; cases z))]; exact e2⟩
theorem extN_put {q : Addr} {zs : List V} {H H1 : Hp} (h : ExtN H H1) (hq : H q = none) : ExtN H (upd H1 q (.lst zs)) := fun b o e n => by
  rw [upd_ne (ne_of_none e hq)]
  exact h b o e n
theorem sp_made {C CV CN CF CR CS x dx y po : Addr} {Ha : Hp} {f : Fact} {rs : List FRow} {zr : Str} {R : Hp → Prop} {E : XK} (hz : zr ∈ rulesL) (hx : Ha x = none) (hdx : Ha dx = none) (hF : FoAt C Ha y rs) (hp : FAt Ha po f) (hs : isSp (some f) = true) (hg : factB (fNames rs) f.data = true) (hok : f.ok)
    (q : ∀ (H' : Hp) (l v dv n k t s r d : Addr), Ext Ha H' → H' x = some (.ins CS dx (spF y po (.str zr) 0 l v)) → H' l = some (.lst []) → H' v = some (.ins CV dv [("_forest", .ref y), ("_notes", .ref n)]) → NtAt CN H' n [f] k t s r d → R H') :
    spSpInit C CV CN CF CR CS [.ref x, .ref y, .ref po, .str zr] (upd (upd Ha dx (.own x)) x (.ins CS dx [])) (fun v H2 => v = .non ∧ R H2) E := by
  have kx : Ext Ha (upd (upd Ha dx (.own x)) x (.ins CS dx [])) := fun b o hb => by
    rw [upd_ne (ne_of_none hb hx), upd_ne (ne_of_none hb hdx)]
    exact hb
  have px : po ≠ x := ne_of_none hp hx
  refine ⟨x, y, dx, x, x, x, x, .ref po, .str zr, some f, .str zr, rs, rfl, upd_same, hF.ext kx, ⟨f.data, dk_mk (hp.ext kx) px px, hg, rfl, hok⟩, .str zr, (fun e => (by rw [hs] at e; cases e)), fun _ e => ?_, fun _ _ H' p l v dv n f' k t s r d kb ef ep hx' hl' hv' N' => ⟨rfl, ?_⟩⟩
  · have e : decide (zr ∈ rulesL) = false := e
    rw [decide_eq_true hz] at e
    cases e
  · cases ef
    cases ep
    exact q H' l v dv n k t s r d (fun b o hb => kb b o (ne_of_none hb hx) (kx _ _ hb)) hx' hl' hv' N'
abbrev nLaw : List Str := ["_law_script", "_law_state", "_law_turn", "_law_rows", "_law_woods", "_law_names", "_law_number", "_law_own", "_law_thing", "_law_spare", "_law_at", "_law_odd", "_law_bad", "_law_is_good", "_law_word", "_law_due", "_law_found", "_law_pair"]
theorem scLaw : FnScope nLaw ["_law_script"] (defScope sLaw) := ⟨rfl, rfl, rfl, by decide +kernel, rfl, by decide +kernel, by decide +kernel⟩
abbrev T0 (t : Addr) : List (Addr × Str) := [(t, (envOfC "law" (defScope sLaw) 0 0 Value.none).qual ++ "<lambda>")]
theorem lenSt {C CV CN CS : Addr} : ∀ vs H Q E, spStands C CV CN CS vs H Q E → vs.length = (["_law_holder", "_law_own"] : List Str).length := fun vs H Q E h => by
  obtain ⟨x, p, fo, l, v, dx, dv, n, zr, pl, z, nm, rs, k, t, su, r, d, rfl, _⟩ := h
  rfl
theorem ok_law {C fI fB fF fT fP fLf fLi fRf fSt fSp fLe cc tt f CV CN CF CR CS CP tU pV fV pL fL pP fPl pS fS pF fFa : Addr} {mc : Value} {fdI fdB fdF fdT fdP fdLf fdLi fdSt fdSp fdV fdL fdPl fdS fdFa : FuncData} {ds : List Value} {ns : List Int} {a : Addr} {A : Around} {s : Shared} {H : Hp} (hl : ns.length ≤ 63) (B : Bed K mg base A) (hr : Room 9 (A.deeper (envOfC "law" (defScope sLaw) s.heap.objs.size f (.ref cc)))) (hS : SqL K H a (ns.map V.int))
    (TB : TabB base mg cc tt) (hT : H tt = some (.tbl #[])) (Y : XRc K mg CP CF CR)
    {dV kV doc pm cdv ct oc : Value} {an od : Option Addr} {osl : Array (Option Value)} (lRf : K.lookup fRf = some ⟨oc, od, .func (PySem.W.fnOf "_law_refusal" "_law_refusal" (defArgs sLRefusal) (defBody sLRefusal) (defScope sLRefusal) dV kV doc pm an cdv ct), osl⟩) (cRf : PySem.W.codeIn K cdv "_law_refusal" = true)
    (bRf : L2.Binds K (PySem.W.fnOf "_law_refusal" "_law_refusal" (defArgs sLRefusal) (defBody sLRefusal) (defScope sLRefusal) dV kV doc pm an cdv ct) ["_law_work"] []) (kRf : PySem.W.keepIn K (.ref fRf) = true) (mRf : mg "_law_refusal" = some (.ref fRf))
    (R : Draw P w K mg base ns fT fP fdT fdP) (T : Names mg) (Z : FC K mg C fI mc)
    (GPc : FnOk P w K mg base CX0 3 fP fdP ["_law_state", "_law_some"] (spPickC K ns))
    (GI : FnOk P w K mg base CX0 4 fI fdI ["self", "rows"] (spInit C)) (bI : Binds K fdI ["self", "rows"] [])
    (GB : FnOk P w K mg base CX0 1 fB fdB ["_law_script"] (spBegun K ns)) (bB : Binds K fdB ["_law_script"] []) (kB : PySem.W.keepIn K (.ref fB) = true) (mB : mg "_law_begun" = some (.ref fB))
    (GF : FnOk P w K mg base CX0 5 fF fdF ["_law_state", "_law_most"] (spForest ns)) (bF : Binds K fdF ["_law_state", "_law_most"] []) (kF : PySem.W.keepIn K (.ref fF) = true) (mF : mg "_law_forest" = some (.ref fF))
    (GLf : FnOk P w K mg base CX0 4 fLf fdLf ["_law_state", "_law_names", "_law_places", "_law_marks"] (spLFact ns)) (bLf : Binds K fdLf ["_law_state", "_law_names", "_law_places", "_law_marks"] []) (kLf : PySem.W.keepIn K (.ref fLf) = true) (mLf : mg "_law_fact" = some (.ref fLf))
    (GLi : FnOk P w K mg base CX0 2 fLi fdLi ["_law_names", "_law_thing"] spLFa) (bLi : Binds K fdLi ["_law_names", "_law_thing"] []) (kLi : PySem.W.keepIn K (.ref fLi) = true) (mLi : mg "_law_is_fact" = some (.ref fLi))
    (S : SpM P w K mg base C CV CN CF CR CS fSp fdSp ds) (V_ : VC K CV) (O_ : SO P w K mg base CS CV CN pV fV pL fL pP fPl pS fS pF fFa fdV fdL fdPl fdS fdFa)
    (mLe : Meth K CV "learn" fLe) (GLe : FnR P w K mg base (L2.CX P w) 5 fLe (spLearn1 C CV CN CF))
    (Fst : Fun K "_law_stands" "_law_stands" sLStands fSt fdSt) (bSt : Binds K fdSt ["_law_holder", "_law_own"] []) (kSt : PySem.W.keepIn K (.ref fSt) = true) (mSt : mg "_law_stands" = some (.ref fSt))
    (gC : ∃ t, mg "CORRECT" = some (.str "correct" t)) (gU : mg "RULES" = some (.ref tU)) (sU : ∀ H, SqT K H tU (rulesL.map V.str)) :
    ∃ t, PSs (cxOf CX0 P w K mg base nLaw "law" (defScope sLaw) f (.ref cc) A [] s H E0).nox (defBody sLaw) t ∧ t { nx := fun _ _ => False, rt := fun v _ => v = .bl true } (L2.start nLaw [.ref a]) H := by
  have nd := scLaw.nd
  have hu := hu_of hr
  have hgd : (A.deeper (envOfC "law" (defScope sLaw) s.heap.objs.size f (.ref cc))).guards = some [] := B.gd
  have hr8 : Room 8 (A.deeper (envOfC "law" (defScope sLaw) s.heap.objs.size f (.ref cc))) := hr.mono (by decide)
  have hr7 : Room 7 (A.deeper (envOfC "law" (defScope sLaw) s.heap.objs.size f (.ref cc))) := hr.mono (by decide)
  have hr5 : Room 5 (A.deeper (envOfC "law" (defScope sLaw) s.heap.objs.size f (.ref cc))) := hr.mono (by decide)
  have hr4 : Room 4 (A.deeper (envOfC "law" (defScope sLaw) s.heap.objs.size f (.ref cc))) := hr.mono (by decide)
  have hr3 : Room 3 (A.deeper (envOfC "law" (defScope sLaw) s.heap.objs.size f (.ref cc))) := hr.mono (by decide)
  have hr2 : Room 2 (A.deeper (envOfC "law" (defScope sLaw) s.heap.objs.size f (.ref cc))) := hr.mono (by decide)
  have hr1 : Room 1 (A.deeper (envOfC "law" (defScope sLaw) s.heap.objs.size f (.ref cc))) := hr.mono (by decide)
  obtain ⟨tkC, gC⟩ := gC
  refine ⟨_, pss_cons (ps_set (i := 1) nd rfl (.inl rfl) (pe_call GB hr1 rfl mB kB bB .nil pass0 (pa_cons (pv 0) pa_nil)))
(pss_cons (ps_if (pt_cmpR op_ne (pe_callB (Gr.call_reprC hgd hr.units B.sys) rfl T.repr (by decide +kernel) (pa_cons (pe_lst (pa_cons (pe_glob (v := .str "correct") rfl gC ⟨_, rfl⟩) (pa_cons (pe_glob (v := .ref tU) rfl gU rfl) pa_nil))) pa_nil)) (pe_callB (call_repr hgd hr.units B.sys) rfl T.repr (by decide +kernel) (pa_cons (pe_lst (pa_cons pe_str (pa_cons (pe_tup (pa_cons pe_str (pa_cons pe_str (pa_cons pe_str (pa_cons pe_str (pa_cons pe_str (pa_cons pe_str (pa_cons pe_str pa_nil)))))))) pa_nil))) pa_nil)) (nomark _)) (pss_one (ps_ret pe_bl)) pss_nil)
(pss_cons (ps_for PassesOwn.never rfl (pi_range1 rfl T.range (pa_cons pe_int pa_nil)) (pg_name (i := 2) nd rfl (.inl rfl))
(pss_cons (ps_set (i := 3) nd rfl (.inl rfl) (pe_call GF hr5 rfl mF kF bF .nil pass0 (pa_cons (pv 1) (pa_cons pe_int pa_nil))))
(pss_cons (ps_asg (pe_tup (pa_cons (pe_make Z.make GI hr5 rfl Z.g bI .nil pass0 (pa_cons (pv 3) pa_nil)) (pa_cons (pe_lc (own := [("_law_pair", 17)]) (g := gName 17) (tt := tYes) rfl nd (pi_list (pv 3)) (blkOk_by (N := nLaw) (sc := defScope sLaw) (by decide +kernel))
(fun _ _ _ _ _ => pg_name (i := 17) nd rfl (.inl rfl)) (fun _ _ _ _ _ => pts_nil) (fun _ _ _ _ _ => pe_ix (r := rIxT K) ix_tup (pv 17) pe_int (fun _ _ => rfl))) pa_nil))) (by exact (pg_tup rfl (pgs_cons (pg_name (i := 4) nd rfl (.inr rfl)) (pgs_cons (pg_name (i := 5) nd rfl (.inl rfl)) pgs_nil)))))
(pss_cons (ps_set (i := 6) nd rfl (.inl rfl) (pe_call R.GP hr3 rfl R.mP R.kP R.bP .nil pass0 (pa_cons (pv 1) (pa_cons (pe_lst (pa_cons pe_int (pa_cons (pe_op op_add pe_int (pe_call R.GT hr2 rfl R.mT R.kT R.bT .nil pass0 (pa_cons (pv 1) (pa_cons (pe_op op_pow pe_int pe_int) pa_nil)))) (pa_cons (pe_op op_pow pe_int pe_int) pa_nil)))) pa_nil))))
(pss_cons (ps_set (i := 7) nd rfl (.inr rfl) (pe_tup (pa_cons pe_str (pa_cons (pe_op op_add pe_int (pe_call R.GT hr2 rfl R.mT R.kT R.bT .nil pass0 (pa_cons (pv 1) (pa_cons pe_int pa_nil)))) (pa_cons (pe_call R.GP hr3 rfl R.mP R.kP R.bP .nil pass0 (pa_cons (pv 1) (pa_cons (pv 5) pa_nil))) (pa_cons (pv 6) pa_nil))))))
(pss_cons (ps_if (pt_not (pt_val (Gcg.pe_callG Fst scStands lenSt (fun cdv outer s H vs Q hr' h => body_stands T V_ S.S_ O_ mLe GLe cdv _ outer s H vs Q hgd B.sys hr' h) hr8 rfl mSt kSt bSt (pa_cons (pe_make S.make S.G hr7 rfl S.g S.b S.v passL (pa_cons (pv 4) (pa_cons (pv 7) pa_nil))) (pa_cons (pv 7) pa_nil))))) (pss_one (ps_ret pe_bl)) pss_nil)
(pss_cons (ps_if (pt_not (pt_val (Gcg.pe_callG Fst scStands lenSt (fun cdv outer s H vs Q hr' h => body_stands T V_ S.S_ O_ mLe GLe cdv _ outer s H vs Q hgd B.sys hr' h) hr8 rfl mSt kSt bSt (pa_cons (pe_makeK0 S.make S.G hr7 rfl S.g S.k3 passL (pk_cons (pe_call GPc hr3 rfl R.mP R.kP R.bP .nil pass0 (pa_cons (pv 1) (pa_cons (pe_glob (v := .ref tU) rfl gU rfl) pa_nil))) (pk_cons (pv 7) (pk_cons (pv 4) pk_nil)))) (pa_cons (pv 7) pa_nil))))) (pss_one (ps_ret pe_bl)) pss_nil)
(pss_cons (ps_set (i := 8) nd rfl (.inl rfl) (pe_call GLf hr4 rfl mLf kLf bLf .nil pass0 (pa_cons (pv 1) (pa_cons (pv 5) (pa_cons pe_int (pa_cons pe_int pa_nil))))))
(pss_cons (ps_set (i := 9) nd rfl (.inl rfl) (pe_call R.GP hr3 rfl R.mP R.kP R.bP .nil pass0 (pa_cons (pv 1) (pa_cons (pe_lst (pa_cons pe_int (pa_cons (pe_un un_neg pe_int) (pa_cons pe_int (pa_cons (pe_op op_add (pe_op op_pow pe_int pe_int) pe_int) (pa_cons pe_bl (pa_cons pe_non (pa_cons pe_str (pa_cons (pe_op op_add_str (pe_ix ix_list (pv 5) pe_int (fun _ _ => rfl)) pe_str) pa_nil))))))))) pa_nil))))
(pss_cons (ps_set (i := 10) nd rfl (.inl rfl) (pe_call R.GT hr2 rfl R.mT R.kT R.bT .nil pass0 (pa_cons (pv 1) (pa_cons pe_int pa_nil))))
(pss_cons (ps_set (i := 11) nd rfl (.inl rfl) (pe_op op_catA (pe_op op_catA (pe_slice sl_tupA (pv 7) po_none (po_some (pv 10))) (pe_tup (pa_cons (pv 9) pa_nil))) (pe_slice sl_tupA (pv 7) (po_some (pe_op op_add (pv 10) pe_int)) po_none)))
(pss_cons (ps_set (i := 12) nd rfl (.inr rfl) (pe_call R.GP hr3 rfl R.mP R.kP R.bP .nil pass0 (pa_cons (pv 1) (pa_cons (pe_lst (pa_cons (pv 8) (pa_cons (pv 11) (pa_cons (pv 11) (pa_cons (pe_slice sl_tupA (pv 7) po_none (po_some (pe_un un_neg pe_int))) (pa_cons (pe_op op_catA (pv 7) (pe_tup (pa_cons pe_int pa_nil))) (pa_cons (pe_callTy call_list_of rfl T.list (by decide +kernel) (pa_cons (pv 7) pa_nil)) (pa_cons pe_non (pa_cons (pe_tup pa_nil) (pa_cons pe_str (pa_cons pe_dnewK pa_nil))))))))))) pa_nil))))
(pss_cons (ps_set (i := 13) nd rfl (.inl rfl) (pe_and (pe_call GLi hr2 rfl mLi kLi bLi .nil pass0 (pa_cons (pv 5) (pa_cons (pv 12) pa_nil))) (pe_one (pe_cmpR op_eq (pe_ix ix_tup (pv 12) pe_int (fun _ _ => rfl)) pe_str (nomark _)))))
(pss_cons (ps_set (i := 14) nd rfl (.inr rfl) (pe_call R.GP hr3 rfl R.mP R.kP R.bP .nil pass0 (pa_cons (pv 1) (pa_cons (pe_lst (pa_cons pe_str (pa_cons pe_str (pa_cons pe_non (pa_cons pe_int (pa_cons pe_bl (pa_cons (pe_tup (pa_cons pe_str pa_nil)) (pa_cons (pe_lst (pa_cons pe_str pa_nil)) (pa_cons pe_dnewK (pa_cons pe_str (pa_cons pe_str pa_nil))))))))))) pa_nil))))
(pss_cons (ps_set (i := 15) nd rfl (.inl rfl) (pe_lst (pa_cons (pe_ifExp (pt_val (pv 13)) pe_non pe_int) (pa_cons pe_str (pa_cons (pe_ifExp (pt_val (pv 13)) pe_str pe_int) pa_nil)))))
(pss_cons (ps_set (i := 16) nd rfl (.inl rfl) (pe_lst (pa_cons (pe_lamcall (T := T0 tt) (TT := TTR CF CR) (k := 7) rfl mRf kRf lRf cRf bRf scRef rfl (.inl rfl) (ref_gives (CP := CP) T Y) TB rfl (List.mem_singleton.mpr rfl) (fun p hp _ => by cases List.mem_singleton.mp hp; rfl) hr (lamS_by (by show lamSB (defScope sLaw) _ = true; decide +kernel)) rfl (fun _ _ _ _ _ => rfl) (fun A outer s H E f c' hr2 => pe_make S.make S.G hr2 rfl S.g S.b S.v (passes_call (takes_of rfl rfl rfl rfl) fun _ _ _ _ h => h) (pa_cons (pe_var (i := 4) rfl (.inr (.inr rfl)) rfl rfl) (pa_cons (pe_var (i := 12) rfl (.inr (.inr rfl)) rfl rfl) pa_nil)))) pa_nil)))
(pss_cons (ps_expr (pe_bm PySem.F.plainAttrs_list PySem.F.slot_list_append PySem.F.type_list_append mt_append (pv 16) (pa_cons (pe_lamcall (T := T0 tt) (TT := TTR CF CR) (k := 7) rfl mRf kRf lRf cRf bRf scRef rfl (.inl rfl) (ref_gives (CP := CP) T Y) TB rfl (List.mem_singleton.mpr rfl) (fun p hp _ => by cases List.mem_singleton.mp hp; rfl) hr (lamS_by (by show lamSB (defScope sLaw) _ = true; decide +kernel)) rfl (fun _ _ _ _ _ => rfl) (fun A outer s H E f c' hr2 => pe_makeK S.make S.G hr2 rfl S.g S.k1 (passes_call (takes_of rfl rfl rfl rfl) fun _ _ _ _ h => h) (pa_cons (pe_var (i := 4) rfl (.inr (.inr rfl)) rfl rfl) (pa_cons (pe_var (i := 7) rfl (.inr (.inr rfl)) rfl rfl) pa_nil)) (pk_cons (pe_var (i := 14) rfl (.inr (.inr rfl)) rfl rfl) pk_nil))) pa_nil)))
(pss_cons (ps_expr (pe_bm PySem.F.plainAttrs_list PySem.F.slot_list_append PySem.F.type_list_append mt_append (pv 16) (pa_cons (pe_lamcall (T := T0 tt) (TT := TTR CF CR) (k := 7) rfl mRf kRf lRf cRf bRf scRef rfl (.inl rfl) (ref_gives (CP := CP) T Y) TB rfl (List.mem_singleton.mpr rfl) (fun p hp _ => by cases List.mem_singleton.mp hp; rfl) hr (lamS_by (by show lamSB (defScope sLaw) _ = true; decide +kernel)) rfl (fun _ _ _ _ _ => rfl) (fun A outer s H E f c' hr2 => pe_makeK S.make S.G hr2 rfl S.g S.k1 (passes_call (takes_of rfl rfl rfl rfl) fun _ _ _ _ h => h) (pa_cons (pe_var (i := 4) rfl (.inr (.inr rfl)) rfl rfl) (pa_cons (pe_var (i := 12) rfl (.inr (.inr rfl)) rfl rfl) pa_nil)) (pk_cons (pe_var (i := 14) rfl (.inr (.inr rfl)) rfl rfl) pk_nil))) pa_nil)))
(pss_one (ps_if (pt_cmpR op_ne (pe_callB (call_repr hgd hr.units B.sys) rfl T.repr (by decide +kernel) (pa_cons (pv 16) pa_nil)) (pe_callB (call_repr hgd hr.units B.sys) rfl T.repr (by decide +kernel) (pa_cons (pv 15) pa_nil)) (nomark _)) (pss_one (ps_ret pe_bl)) pss_nil))))))))))))))))))))
(pss_one (ps_ret pe_bl)))), ?_⟩
  refine ⟨_, rfl, a, rfl, hS, hl, fun d g c H1 D1 x1 fd fg fc => ?_⟩
  have hT1 : Tabs (T0 tt) H1 := fun p hp => by
    cases List.mem_singleton.mp hp
    exact TabS.nil (x1 _ _ hT)
  -- the rules' names
  have okR : Ok 5 (.list [.str "correct", .tuple (rulesL.map PyData.str)]) := (ok_list (n := 3) (fun y hy => by
    simp only [List.mem_cons, List.not_mem_nil, or_false] at hy
    rcases hy with rfl | rfl
    · exact ok_str (by decide +kernel)
    · refine ok_manyT (n := 1) (fun y hy => ?_) (by decide)
      obtain ⟨z, hz, rfl⟩ := List.mem_map.mp hy
      exact ok_str ((by decide +kernel : ∀ z ∈ rulesL, Asc 19 z) z hz)) (by show 2 ≤ 2; decide)).mono (by decide)
  obtain ⟨r1, r2, r3⟩ := Lw.Ok.small okR (by decide)
  refine ⟨by show 2 ≤ sizeLine; decide, fun q1 hq1 => ⟨q1, tU, _, rulesL, _, rfl, upd_same, sU _, rfl, r1, r2, r3, ?_⟩⟩
  have e1 := Ext.new (o := .lst [.str "correct", .ref tU]) hq1
  generalize upd H1 q1 (.lst [.str "correct", .ref tU]) = H1a at e1 ⊢
  refine ⟨by show 7 ≤ sizeLine; decide, fun q2 hq2 => ?_⟩
  have e2 := e1.trans (Ext.new (o := .tup [.str "correct", .str "gap", .str "glad", .str "free", .str "late", .str "poor", .str "deaf"]) hq2)
  have q2a : (upd H1a q2 (.tup [.str "correct", .str "gap", .str "glad", .str "free", .str "late", .str "poor", .str "deaf"])) q2 = some (.tup [.str "correct", .str "gap", .str "glad", .str "free", .str "late", .str "poor", .str "deaf"]) := upd_same
  refine ⟨by show 2 ≤ sizeLine; decide, fun q3 hq3 => ?_⟩
  have e3 := e2.trans (Ext.new (o := .lst [.str "correct", .ref q2]) hq3)
  refine ⟨_, .list [.str "correct", .tuple (rulesL.map PyData.str)], rfl, Dr.lst upd_same (.cons (.str _) (.cons (Dr.tup (Ext.new (o := .lst [.str "correct", .ref q2]) hq3 _ _ q2a) (dr_strs rulesL)) .nil)), r1, r2, r3, rfl, _, rfl, iteNS rfl ?_⟩
  generalize upd (upd H1a q2 (.tup [.str "correct", .str "gap", .str "glad", .str "free", .str "late", .str "poor", .str "deaf"])) q3 (.lst [.str "correct", .ref q2]) = H1b at e3 ⊢
  have D1b := D1.keep e3
  have hT1b := hT1.ext e3
  refine ⟨6, rfl, by decide, by decide, for_range (lo := 0) (n := 6) (fun i σ H' => ∃ (v2 v3 v4 v5 v6 v7 v8 v9 v10 v11 v12 v13 v14 v15 v16 : Option V), σ = [some (.ref a), some (.ref d), v2, v3, v4, v5, v6, v7, v8, v9, v10, v11, v12, v13, v14, v15, v16, none] ∧ Dw ns d g c (i * 1000) H' ∧ Tabs (T0 tt) H') ⟨none, none, none, none, none, none, none, none, none, none, none, none, none, none, none, rfl, D1b, hT1b⟩ ?_ ?_⟩
  · rintro i σ H2 hi ⟨v2, v3, v4, v5, v6, v7, v8, v9, v10, v11, v12, v13, v14, v15, v16, rfl, D2, tb2⟩
    refine ⟨_, rfl, d, g, c, _, 8, rfl, D2, by omega, by decide, by decide, fun lr rx rs H3 lr0 nrd nrg hr3' R3 G D3 k3 => ?_⟩
    have tb3 := tabs_kp D2 k3 tb2
    refine ⟨_, rfl, fun y dx hy hdx ne => ?_⟩
    have kx : Ext H3 (upd (upd H3 dx (.own y)) y (.ins C dx [])) := fun b o hb => by
      rw [upd_ne (ne_of_none hb hy), upd_ne (ne_of_none hb hdx)]
      exact hb
    refine ⟨y, lr, dx, rx, rs, rfl, upd_same, kx _ _ hr3', R3.ext kx, G, fun H5 q k5 i5 q5 => ⟨rfl, ?_⟩⟩
    have k45 : Ext H3 H5 := fun b o hb => k5 _ _ (ne_of_none hb hy) (kx _ _ hb)
    have f5 : FoAt C H5 y rs := ⟨dx, q, i5, q5⟩
    obtain ⟨nm0, nm8, nmo, nmn⟩ := good_names G
    refine ⟨_, rfl, lr, rfl, ⟨_, SqL.of (k45 _ _ hr3')⟩, fun ln hln => ?_⟩
    have D5 := D3.keep k45
    have nnd := D5.nd hln
    have nng := D5.ng hln
    refine lc_it walk_list (fun i H' => H' ln = some (.lst (((fNames rs).take i).map V.str)) ∧ Ext H5 H') ⟨upd_same, Ext.new hln⟩ (fun i H' _ ⟨_, e⟩ => SqL.of (e _ _ (k45 _ _ hr3'))) ?_ ?_
    · rintro i' z H6 H6' hi' ⟨d6, k6⟩ ⟨rfl, hz⟩
      obtain ⟨r, p, hr1', rfl, hp⟩ := R3.get hz
      have hrn : (fNames rs)[i']? = some r.1 := by unfold fNames; rw [List.getElem?_map, hr1']; rfl
      refine ⟨rfl, yes_of ?_⟩
      refine ⟨_, rfl, p, _, _, _, rfl, rfl, SqT.of (k6 _ _ (k45 _ _ hp)), (show atI [V.str r.1, parV r.2] ((0 : Nat) : Int) = some (V.str r.1) from atI_nat rfl), _, d6, ?_, ?_, fun x o e => ?_⟩
      · rw [List.length_map, List.length_take]
        exact small1000 (by omega)
      · rw [upd_same, List.take_add_one, hrn, List.map_append]
        rfl
      · rw [upd_ne (ne_of_none e hln)]
        exact k6 _ _ e
    rintro H6 ⟨d6, k6⟩
    have e6 : (fNames rs).take rx.length = fNames rs := List.take_of_length_le (by rw [R3.1]; unfold fNames; rw [List.length_map]; exact Nat.le_refl _)
    rw [e6] at d6
    refine ⟨by show 2 ≤ sizeLine; decide, fun tp htp => ?_⟩
    have k67 : Ext H6 (upd H6 tp (.tup [.ref y, .ref ln])) := Ext.new htp
    refine ⟨tp, _, rfl, SqT.of upd_same, rfl, _, _, rfl, _, _, rfl, rfl, ?_⟩
    generalize upd H6 tp (.tup [.ref y, .ref ln]) = H7 at k67 ⊢
    have k57 := k6.trans k67
    have k37 := k45.trans k57
    have f7 := f5.ext k57
    have n7 := k67 _ _ d6
    have D7 : Dw ns d g c (i * 1000 + 400) H7 := (D3.keep k37).mono (by omega)
    have tb7 := tb3.ext k37
    dsimp only [List.set]
    -- the number
    refine ⟨_, rfl, _, rfl, _, _, rfl, rfl, ⟨by decide, by decide, by decide⟩, d, g, c, _, _, rfl, D7, by omega, by decide +kernel, by decide +kernel, fun u2 H8 u20 u21 D8 k8 => ?_⟩
    refine ⟨_, _, rfl, rfl, ?_⟩
    refine ⟨_, _, rfl, rfl, ⟨by decide, by decide, by decide⟩, by show 3 ≤ sizeLine; decide, fun q hq => ?_⟩
    have kq := Ext.new (o := .lst [.int 1, .int (1 + u2), .int (10 ^ (9 : Int).toNat)]) hq
    refine ⟨d, g, c, _, D8.new hq, by omega, .inl ⟨q, _, rfl, upd_same, D8.nd hq, D8.ng hq, by show 0 < 3; decide, by show 3 ≤ 1000000; decide, fun x H9 hx D9 k9 => ?_⟩⟩
    obtain ⟨nm, rfl, nm1, nm2⟩ : ∃ n : Int, x = .int n ∧ 1 ≤ n ∧ n ≤ 1000000000 := by
      have p9 : ((10 : Int) ^ (9 : Int).toNat) = 1000000000 := by decide +kernel
      simp only [List.mem_cons, List.not_mem_nil, or_false] at hx
      rcases hx with rfl | rfl | rfl
      · exact ⟨_, rfl, by omega, by omega⟩
      · exact ⟨_, rfl, by omega, by have u21 : u2 < 1000000000 := u21; omega⟩
      · exact ⟨_, rfl, by omega, by omega⟩
    have k79 : Kp d g H7 H9 := (k8.trans (Kp.new hq)).trans k9
    -- its own row
    refine ⟨_, rfl, d, g, c, _, 20, rfl, D9, by omega, by decide, by decide, fun u3 H10 u30 u31 D10 k10 => ?_⟩
    refine ⟨_, _, rfl, rfl, ?_⟩
    have k710 := k79.trans k10
    refine ⟨_, rfl, _, rfl, d, g, c, _, D10, by omega, .inl ⟨ln, _, rfl, k710 _ _ nnd nng n7, nnd, nng, by rw [List.length_map]; exact List.length_pos_iff.mpr nm0, by rw [List.length_map]; omega, fun x H11 hx D11 k11 => ?_⟩⟩
    obtain ⟨an, han, rfl⟩ := List.mem_map.mp hx
    refine ⟨_, rfl, by show 4 ≤ sizeLine; decide, fun po hpo => ?_⟩
    have k712 : Kp d g H7 (upd H11 po (.tup [.str "spender", .int (1 + u3), .str an, .int nm])) := (k710.trans k11).trans (Kp.new hpo)
    have D12 := D11.new (o := .tup [.str "spender", .int (1 + u3), .str an, .int nm]) hpo
    have po12 : FAt (upd H11 po (.tup [.str "spender", .int (1 + u3), .str an, .int nm])) po (.row true (1 + u3) an nm) := upd_same
    have npd := D11.nd hpo
    have npg := D11.ng hpo
    generalize upd H11 po (.tup [.str "spender", .int (1 + u3), .str an, .int nm]) = H12 at k712 D12 po12 ⊢
    have fok : (Fact.row true (1 + u3) an nm).ok := nmo _ han
    have fgood : factB (fNames rs) (Fact.row true (1 + u3) an nm).data = true := row_fact ⟨by omega, by have u31 : u3 < 20 := u31; omega⟩ ⟨nm1, nm2⟩ han
    have f12 := f7.kp G D7 k712
    have n12 := k712 _ _ nnd nng n7
    have tb12 := tabs_kp D7 k712 tb7
    dsimp only [List.set]
    -- a spender of it stands
    refine ⟨_, rfl, _, rfl, fun sx sdx hsx hsdx _ => sp_made (zr := "correct") (by decide +kernel) hsx hsdx f12 po12 rfl fgood fok fun H13 l v dv n k t s' r d' e13 ox13 ol13 ov13 N13 => ?_⟩
    refine ⟨_, rfl, sx, po, y, l, v, sdx, dv, n, .str "correct", 1 + u3, nm, an, rs, k, t, s', r, d', rfl, ox13, po12.ext e13, ol13, ov13, N13, f12.ext e13, by omega, by have u31 : u3 < 20 := u31; omega, nm1, nm2, han, nmo _ han, fun H14 e14 => ⟨_, rfl, iteF ?_⟩⟩
    have e124 := e13.trans e14
    have D14 := D12.keep e124
    have k714 := k712.trans (Kp.of e124)
    -- by any rule
    refine ⟨_, rfl, d, g, c, tU, _, _, rfl, D14, by omega, sU, by decide, by decide, fun x H15 hx D15 k15 => ?_⟩
    obtain ⟨zr, hzr, rfl⟩ := List.mem_map.mp hx
    have k715 := k714.trans k15
    have po15 : FAt H15 po (.row true (1 + u3) an nm) := k15 _ _ npd npg (po12.ext e124)
    have f15 := f7.kp G D7 k715
    refine ⟨_, rfl, _, rfl, rfl, rfl, fun sx2 sdx2 hsx2 hsdx2 _ => sp_made (zr := zr) hzr hsx2 hsdx2 f15 po15 rfl fgood fok fun H16 l2 v2' dv2 n2 k2 t2 s2 r2 d2 e16 ox16 ol16 ov16 N16 => ?_⟩
    refine ⟨_, rfl, sx2, po, y, l2, v2', sdx2, dv2, n2, .str zr, 1 + u3, nm, an, rs, k2, t2, s2, r2, d2, rfl, ox16, po15.ext e16, ol16, ov16, N16, f15.ext e16, by omega, by have u31 : u3 < 20 := u31; omega, nm1, nm2, han, nmo _ han, fun H17 e17 => ⟨_, rfl, iteF ?_⟩⟩
    have e157 := e16.trans e17
    have D17 := D15.keep e157
    have k717 := k715.trans (Kp.of e157)
    -- a fact, a value, a place
    refine ⟨_, rfl, _, rfl, d, g, c, ln, _, 20, 999, fNames rs, rfl, D17, by omega, nnd, nng, ⟨k717 _ _ nnd nng n7, nm0, nm8, nmo⟩, by decide, by decide, by decide, by decide, fun pt xt H18 dt _ D18 k18 => ?_⟩
    have k718 := k717.trans k18
    obtain ⟨w0, hw0⟩ : ∃ w0, atI ((fNames rs).map V.str) 0 = some (.str w0) ∧ nameOk w0 = true := by
      cases e : fNames rs with
      | nil => exact absurd e nm0
      | cons w0 r => exact ⟨w0, (show atI _ ((0 : Nat) : Int) = _ from atI_nat rfl), nmo w0 (by rw [e]; exact List.mem_cons_self ..)⟩
    have n18 := k718 _ _ nnd nng n7
    refine ⟨_, rfl, _, rfl, _, _, rfl, rfl, ⟨by decide, by decide, by decide⟩, _, _, rfl, rfl, _, rfl, ln, _, _, _, rfl, rfl, SqL.of n18, hw0.1, _, _, rfl, rfl, ?_, by show 8 ≤ sizeLine; decide, fun qs hqs => ?_⟩
    · have h1 := (name_asc19 hw0.2).1
      rw [sizeLine_eq]
      have : (Str.ofString "zzzzzzzz").length = 8 := by decide +kernel
      omega
    refine ⟨d, g, c, _, D18.new hqs, by omega, .inl ⟨qs, _, rfl, upd_same, D18.nd hqs, D18.ng hqs, by show 0 < 8; decide, by show 8 ≤ 1000000; decide, fun sv H19 hsv D19 k19 => ?_⟩⟩
    obtain ⟨sx3, dsv⟩ : ∃ sx3, ∀ Hq : Hp, Dk d g Hq sv sx3 := by
      simp only [List.mem_cons, List.not_mem_nil, or_false] at hsv
      rcases hsv with rfl | rfl | rfl | rfl | rfl | rfl | rfl | rfl
      · exact ⟨_, fun _ => .int _⟩
      · exact ⟨_, fun _ => .int _⟩
      · exact ⟨_, fun _ => .int _⟩
      · exact ⟨_, fun _ => .int _⟩
      · exact ⟨_, fun _ => .bl _⟩
      · exact ⟨_, fun _ => .non⟩
      · exact ⟨_, fun _ => .str _⟩
      · exact ⟨_, fun _ => .str _⟩
    have k1819 : Kp d g H18 H19 := (Kp.new hqs).trans k19
    have k719 := k718.trans k1819
    dsimp only [List.set]
    refine ⟨_, rfl, d, g, c, _, 4, rfl, D19, by omega, by decide, by decide, fun at_ H20 ah0 ah1 D20 k20 => ?_⟩
    have k1820 := k1819.trans k20
    have k720 := k719.trans k20
    have k1520 : Kp d g H15 H20 := ((Kp.of e157).trans k18).trans k1820
    have po20 : FAt H20 po (.row true (1 + u3) an nm) := k1520 _ _ npd npg po15
    have tv : ∀ {Hq : Hp}, FAt Hq po (.row true (1 + u3) an nm) → Tv d g 4 Hq po := fun h => ⟨_, _, h, npd, npg, .cons (.str _) (.cons (.int _) (.cons (.str _) (.cons (.int _) .nil))), Nat.le_refl _⟩
    obtain ⟨ai, rfl⟩ : ∃ n : Nat, at_ = (n : Nat) := ⟨at_.toNat, by omega⟩
    -- the row with another part
    refine ⟨_, rfl, _, rfl, _, rfl, slV (tv po20) D20 fun Ha qa ea ta => ?_⟩
    refine ⟨_, rfl, by show 1 ≤ sizeLine; decide, fun qt hqt => ?_⟩
    have et := Ext.new (o := .tup [sv]) hqt
    have Da := D20.keep ea
    have tt1 : Tv d g 1 (upd Ha qt (.tup [sv])) qt := ⟨_, [sx3], upd_same, Da.nd hqt, Da.ng hqt, .cons (dsv _) .nil, Nat.le_refl _⟩
    have ta2 := ta.kp (Kp.of et)
    have Dt := Da.keep et
    generalize upd Ha qt (.tup [sv]) = Ht at et tt1 ta2 Dt ⊢
    refine catV ta2 tt1 (by omega) Dt fun Hc qc ec tc => ?_
    have e20c := (ea.trans et).trans ec
    refine ⟨_, rfl, _, rfl, _, _, rfl, rfl, _, rfl, ?_⟩
    dsimp only [tNoPart]
    refine slV ((tv po20).kp (Kp.of e20c)) (D20.keep e20c) fun Hd qd ed td => ?_
    refine catV (tc.kp (Kp.of ed)) td (by omega) ((D20.keep e20c).keep ed) fun H21 qo eo to21 => ?_
    have e2021 := (e20c.trans ed).trans eo
    have D21 := D20.keep e2021
    have k721 := k720.trans (Kp.of e2021)
    have k1821 : Kp d g H18 H21 := k1820.trans (Kp.of e2021)
    have po21 := po20.ext e2021
    dsimp only [List.set]
    -- a row that is none
    refine ⟨_, rfl, _, rfl, _, rfl, _, rfl, _, rfl, _, rfl, _, rfl, slV (tv po21) D21 fun Hb1 qb1 eb1 tb1 => ?_⟩
    have Db1 := D21.keep eb1
    refine ⟨_, rfl, by show 1 ≤ sizeLine; decide, fun q4 hq4 => ?_⟩
    have e4 := Ext.new (o := .tup [.int 1]) hq4
    have t4 : Tv d g 1 (upd Hb1 q4 (.tup [.int 1])) q4 := ⟨_, [.int 1], upd_same, Db1.nd hq4, Db1.ng hq4, .cons (.int _) .nil, Nat.le_refl _⟩
    have Db2 := Db1.keep e4
    have eb2 := eb1.trans e4
    generalize upd Hb1 q4 (.tup [.int 1]) = Hb2 at e4 t4 Db2 eb2 ⊢
    refine catV ((tv po21).kp (Kp.of eb2)) t4 (by omega) Db2 fun Hb3 qb3 eb3 tb3 => ?_
    have eb13 := eb2.trans eb3
    have Db3 := Db2.keep eb3
    refine ⟨_, rfl, po, _, rfl, .inr (SqT.of (po21.ext eb13)), fun ql hql => ?_⟩
    have el := Ext.new (o := .lst (Fact.row true (1 + u3) an nm).vals) hql
    have ll : (upd Hb3 ql (.lst (Fact.row true (1 + u3) an nm).vals)) ql = some (.lst (Fact.row true (1 + u3) an nm).vals) := upd_same
    have nld := Db3.nd hql
    have nlg := Db3.ng hql
    have Db4 := Db3.keep el
    generalize upd Hb3 ql (.lst (Fact.row true (1 + u3) an nm).vals) = Hb4 at el ll Db4 ⊢
    refine ⟨Nat.zero_le _, fun qe hqe => ?_⟩
    have ee := Ext.new (o := .tup []) hqe
    have le_ : (upd Hb4 qe (.tup [])) qe = some (.tup []) := upd_same
    have ned := Db4.nd hqe
    have neg := Db4.ng hqe
    have Db5 := Db4.keep ee
    generalize upd Hb4 qe (.tup []) = Hb5 at ee le_ Db5 ⊢
    refine fun qd hqd => ?_
    have ed' := Ext.new (o := .dK []) hqd
    have ld_ : (upd Hb5 qd (.dK [])) qd = some (.dK []) := upd_same
    have ndd := Db5.nd hqd
    have ndg := Db5.ng hqd
    have Db6 := Db5.keep ed'
    generalize upd Hb5 qd (.dK []) = Hb6 at ed' ld_ Db6 ⊢
    refine ⟨by show 10 ≤ sizeLine; decide, fun qL hqL => ?_⟩
    refine ⟨d, g, c, _, Db6.new hqL, by omega, .inl ⟨qL, _, rfl, upd_same, Db6.nd hqL, Db6.ng hqL, by show 0 < 10; decide, by show 10 ≤ 1000000; decide, fun vb H22 hvb D22 k22 => ?_⟩⟩
    have k622 : Kp d g Hb6 H22 := (Kp.new hqL).trans k22
    have k322 : Kp d g Hb3 H22 := (Kp.of ((el.trans ee).trans ed')).trans k622
    have k2122 : Kp d g H21 H22 := (Kp.of eb13).trans k322
    have k1822 := k1821.trans k2122
    have k722 := k721.trans k2122
    obtain ⟨xb, dkb⟩ : ∃ xb, Dk d g H22 vb xb := by
      have f4 : ∀ {Hq : Hp}, DkAll d g Hq (Fact.row true (1 + u3) an nm).vals [.str "spender", .int (1 + u3), .str an, .int nm] := .cons (.str _) (.cons (.int _) (.cons (.str _) (.cons (.int _) .nil)))
      simp only [List.mem_cons, List.not_mem_nil, or_false] at hvb
      rcases hvb with rfl | rfl | rfl | rfl | rfl | rfl | rfl | rfl | rfl | rfl
      · exact ⟨_, dt.kp k1822⟩
      · exact (to21.kp k2122).dk
      · exact (to21.kp k2122).dk
      · exact (tb1.kp ((Kp.of (e4.trans eb3)).trans k322)).dk
      · exact (tb3.kp k322).dk
      · exact ⟨_, .lst (((Kp.of (ee.trans ed')).trans k622) _ _ nld nlg ll) nld nlg f4⟩
      · exact ⟨_, .non⟩
      · exact ⟨_, .tup (((Kp.of ed').trans k622) _ _ ned neg le_) ned neg .nil⟩
      · exact ⟨_, .str _⟩
      · exact ⟨_, .dct (k622 _ _ ndd ndg ld_) ndd ndg⟩
    dsimp only [List.set]
    -- is it a spender's row
    refine ⟨_, rfl, _, rfl, d, g, ln, vb, xb, fNames rs, rfl, k722 _ _ nnd nng n7, dkb, fun H23 k23 => ?_⟩
    obtain ⟨o, ho⟩ : ∃ o : Option Fact, (match o with | none => factB (fNames rs) xb = false | some f => factB (fNames rs) xb = true ∧ xb = f.data ∧ f.ok) := by
      by_cases e : factB (fNames rs) xb = true
      case neg => exact ⟨none, Bool.eq_false_iff.mpr e⟩
      case pos =>
        obtain ⟨p, f, _, _, fg, ex⟩ := fact_of dkb e
        refine ⟨some f, e, ex, ?_⟩
        cases f with
        | row b p n z => exact nmo _ fg.2.2.1
        | dep m n z => exact nmo _ fg.2.2.1
        | _ => trivial
    have ar23 : ArgAt d g H23 (fNames rs) vb o := ⟨xb, dkb.kp (Kp.of k23), ho⟩
    refine (fun (rest : ∀ vv : V, vv = .bl (isSp o) → (?R1 : V → Prop) vv) => ?first) ?second
    case first =>
      by_cases hb : factB (fNames rs) xb = true
      case pos =>
        obtain ⟨pb, f, evb, hpb, fg, ex⟩ := fact_of (dkb.kp (Kp.of k23)) hb
        have eo : isSp o = isSp (some f) := by
          cases o with
          | none =>
            have ho : factB (fNames rs) xb = false := ho
            rw [hb] at ho
            cases ho
          | some f' =>
            obtain ⟨_, ex', _⟩ := ho
            rw [data_inj (ex'.symm.trans ex)]
        refine ⟨_, rfl, iteS2 hb ?_⟩
        refine ⟨_, rfl, pb, _, _, _, evb, rfl, SqT.of hpb, at0 f, rfl, ?_⟩
        show gName 13 (V.bl (decide (V.str (kinds f.tag) = V.str (kinds 0)))) _ _ _
        rw [kind_eq, tag_sp]
        generalize hvv : V.bl (isSp (some f)) = vv
        exact rest vv (by rw [← hvv, eo])
      case neg =>
        have eo : isSp o = false := by
          cases o with
          | none => rfl
          | some f' => exact absurd ho.1 hb
        refine ⟨_, rfl, iteN2 (Bool.eq_false_iff.mpr hb) ?_⟩
        exact rest (V.bl false) (by rw [eo])
    case second =>
      rintro vv rfl
      dsimp only [List.set]
      -- a word
      refine ⟨_, rfl, by show 1 ≤ sizeLine; decide, fun g1 hg1 => ?_⟩
      have D23 := D22.keep k23
      have eg1 := Ext.new (o := .tup [.str "gap"]) hg1
      have lg1 : (upd H23 g1 (.tup [.str "gap"])) g1 = some (.tup [.str "gap"]) := upd_same
      have ng1 := D23.nd hg1
      have ng1' := D23.ng hg1
      have Dg1 := D23.keep eg1
      generalize upd H23 g1 (.tup [.str "gap"]) = Hg1 at eg1 lg1 Dg1 ⊢
      refine ⟨by show 1 ≤ sizeLine; decide, fun g2 hg2 => ?_⟩
      have eg2 := Ext.new (o := .lst [.str "gap"]) hg2
      have lg2 : (upd Hg1 g2 (.lst [.str "gap"])) g2 = some (.lst [.str "gap"]) := upd_same
      have ng2 := Dg1.nd hg2
      have ng2' := Dg1.ng hg2
      have Dg2 := Dg1.keep eg2
      generalize upd Hg1 g2 (.lst [.str "gap"]) = Hg2 at eg2 lg2 Dg2 ⊢
      refine fun g3 hg3 => ?_
      have eg3 := Ext.new (o := .dK []) hg3
      have lg3 : (upd Hg2 g3 (.dK [])) g3 = some (.dK []) := upd_same
      have ng3 := Dg2.nd hg3
      have ng3' := Dg2.ng hg3
      have Dg3 := Dg2.keep eg3
      generalize upd Hg2 g3 (.dK []) = Hg3 at eg3 lg3 Dg3 ⊢
      refine ⟨by show 10 ≤ sizeLine; decide, fun gL hgL => ?_⟩
      refine ⟨d, g, c, _, Dg3.new hgL, by omega, .inl ⟨gL, _, rfl, upd_same, Dg3.nd hgL, Dg3.ng hgL, by show 0 < 10; decide, by show 10 ≤ 1000000; decide, fun vw H24 hvw D24 k24 => ?_⟩⟩
      have kg3 : Kp d g Hg3 H24 := (Kp.new hgL).trans k24
      have k2324 : Kp d g H23 H24 := (Kp.of ((eg1.trans eg2).trans eg3)).trans kg3
      have k724 := (k722.trans (Kp.of k23)).trans k2324
      obtain ⟨yw, dw24, hyw⟩ : ∃ yw, Dk d g H24 vw yw ∧ ruleB yw = false := by
        have nr : ∀ z : Str, z ∉ rulesL → ruleB (.str z) = false := fun z h => decide_eq_false h
        simp only [List.mem_cons, List.not_mem_nil, or_false] at hvw
        rcases hvw with rfl | rfl | rfl | rfl | rfl | rfl | rfl | rfl | rfl | rfl
        · exact ⟨_, .str _, nr _ (by decide +kernel)⟩
        · exact ⟨_, .str _, nr _ (by decide +kernel)⟩
        · exact ⟨_, .non, rfl⟩
        · exact ⟨_, .int _, rfl⟩
        · exact ⟨_, .bl _, rfl⟩
        · exact ⟨_, .tup (((Kp.of (eg2.trans eg3)).trans kg3) _ _ ng1 ng1' lg1) ng1 ng1' (.cons (.str _) .nil), rfl⟩
        · exact ⟨_, .lst (((Kp.of eg3).trans kg3) _ _ ng2 ng2' lg2) ng2 ng2' (.cons (.str _) .nil), rfl⟩
        · exact ⟨_, .dct (kg3 _ _ ng3 ng3' lg3) ng3 ng3', rfl⟩
        · exact ⟨_, .str _, nr _ (by decide +kernel)⟩
        · exact ⟨_, .str _, nr _ (by decide +kernel)⟩
      have f24 := f7.kp G D7 k724
      have ar24 := ar23.kp k2324
      have po24 : FAt H24 po (.row true (1 + u3) an nm) := (((Kp.of (e2021)).trans k2122).trans ((Kp.of k23).trans k2324)) _ _ npd npg po20
      have tb24 := tabs_kp D7 k724 tb7
      have D24 : Dw ns d g c (i * 1000 + 900) H24 := D24.mono (by omega)
      dsimp only [List.set]
      cases hso : isSp o with
      | true =>
        refine ⟨_, rfl, _, rfl, iteT ⟨_, rfl, _, rfl, iteT ⟨by show 3 ≤ sizeLine; decide, fun qD hqD => ?_⟩⟩⟩
        have L0 : Lst C (T0 tt) ns d g c y po qD (i * 1000 + 900) rs vb vw o yw (.row true (1 + u3) an nm) [.non, .str "rule", .str "rule"] (upd H24 qD (.lst [.non, .str "rule", .str "rule"])) := ⟨f24.ext (Ext.new hqD), ar24.kp (Kp.new hqD), dw24.kp (Kp.new hqD), po24.ext (Ext.new hqD), D24.new hqD, tb24.ext (Ext.new hqD), upd_same⟩
        generalize upd H24 qD (.lst [.non, .str "rule", .str "rule"]) = H25 at L0 ⊢
        dsimp only [List.set]
        -- the three
        refine ⟨L0.tb, fun Ha ea ta => ttr_val .non (fun Hb kb => ?_) fun R' hR E' Q' hE hQ => ⟨_, rfl, _, rfl, fun sx3 sd3 hs3 hd3 _ => sp_call hE hQ hR hs3 hd3 (L0.n ea ta).fo (L0.n ea ta).ar (.str "correct") (fun e => (by rw [hso] at e; cases e)) (fun _ e => (by cases e)) (fun _ _ => rfl)⟩⟩
        have L1 := (L0.n ea ta).ext kb
        refine ⟨by show 1 ≤ sizeLine; decide, fun qF hqF => ?_⟩
        have L2 := L1.ext (Ext.new (o := .lst [.non]) hqF)
        have x2 : ExtN Hb (upd Hb qF (.lst [.non])) := ExtN.of (Ext.new hqF)
        have lf2 : (upd Hb qF (.lst [.non])) qF = some (.lst [.non]) := upd_same
        generalize upd Hb qF (.lst [.non]) = H26 at L2 lf2 x2 ⊢
        dsimp only [List.set]
        refine ⟨_, rfl, .inl ⟨rfl, _, SqL.of lf2⟩, L2.tb, fun Ha2 ea2 ta2 => ttr_val (.str "rule") (fun Hb2 kb2 => ?_) fun R' hR E' Q' hE hQ => ⟨_, rfl, _, rfl, _, rfl, rfl, rfl, fun sx3 sd3 hs3 hd3 _ => sp_call (o := some (.row true (1 + u3) an nm)) hE hQ hR hs3 hd3 (L2.n ea2 ta2).fo ⟨_, dk_mk (L2.n ea2 ta2).po npd npg, fgood, rfl, fok⟩ (L2.n ea2 ta2).wo (fun e => by cases e) (fun _ _ => rfl) (fun _ e => by rw [hyw] at e; cases e)⟩⟩
        have L3 := (L2.n ea2 ta2).ext kb2
        have lf3 : Hb2 qF = some (.lst [.non]) := kb2 _ _ (ea2 _ _ lf2 (by intro z q; cases q))
        have qFD : qF ≠ qD := fun e => by
          have h := L3.ld
          rw [← e, lf3] at h
          have h := HO.lst.inj (Option.some.inj h)
          exact absurd (congrArg List.length h) (by show ¬ (1 : Nat) = 3; decide)
        refine ⟨qF, _, _, rfl, rfl, lf3, by show 1 < sizeLine; decide, ?_⟩
        have x3 := x2.trans (ea2.trans (ExtN.of kb2))
        have L4 := L1.n (extN_put (zs := [.non] ++ [.str "rule"]) x3 hqF) (tabs_put L3.tb lf3)
        have x4 := extN_put (zs := [.non] ++ [.str "rule"]) x3 hqF
        have lf4 : (upd Hb2 qF (.lst ([.non] ++ [.str "rule"]))) qF = some (.lst [.non, .str "rule"]) := upd_same
        generalize upd Hb2 qF (.lst ([.non] ++ [.str "rule"])) = H27 at L4 lf4 x4 ⊢
        refine ⟨_, rfl, .inl ⟨rfl, _, SqL.of lf4⟩, L4.tb, fun Ha3 ea3 ta3 => ttr_val (.str "rule") (fun Hb3' kb3 => ?_) fun R' hR E' Q' hE hQ => ⟨_, rfl, _, rfl, _, rfl, rfl, rfl, fun sx3 sd3 hs3 hd3 _ => sp_call hE hQ hR hs3 hd3 (L4.n ea3 ta3).fo (L4.n ea3 ta3).ar (L4.n ea3 ta3).wo (fun e => (by rw [hso] at e; cases e)) (fun _ _ => rfl) (fun _ e => (by rw [hyw] at e; cases e))⟩⟩
        have L5 := (L4.n ea3 ta3).ext kb3
        have lf5 : Hb3' qF = some (.lst [.non, .str "rule"]) := kb3 _ _ (ea3 _ _ lf4 (by intro z q; cases q))
        refine ⟨qF, _, _, rfl, rfl, lf5, by show 2 < sizeLine; decide, ?_⟩
        have x5 := x4.trans (ea3.trans (ExtN.of kb3))
        have L6 := L1.n (extN_put (zs := [.non, .str "rule"] ++ [(.str "rule")]) x5 hqF) (tabs_put L5.tb lf5)
        have lf6 : (upd Hb3' qF (.lst ([.non, .str "rule"] ++ [(.str "rule")]))) qF = some (.lst [.non, .str "rule", (.str "rule")]) := upd_same
        generalize upd Hb3' qF (.lst ([.non, .str "rule"] ++ [(.str "rule")])) = H28 at L6 lf6 ⊢
        have okD : Ok 3 (.list [.none, .str "rule", .str "rule"]) := ok_manyL (n := 1) (fun y hy => by
          simp only [List.mem_cons, List.not_mem_nil, or_false] at hy
          rcases hy with rfl | rfl | rfl
          · exact ⟨rfl, Nat.zero_le _, by decide +kernel⟩
          · exact ok_str (by decide +kernel)
          · exact ok_str (by decide +kernel)) (by show 3 ≤ 8; decide)
        obtain ⟨w1, w2, w3⟩ := Lw.Ok.small okD (by decide)
        refine ⟨_, rfl, _, .list [.none, .str "rule", .str "rule"], rfl, Dr.lst lf6 (.cons (.non) (.cons (.str _) (.cons (.str _) .nil))), w1, w2, w3, ?_⟩
        refine ⟨_, rfl, _, .list [.none, .str "rule", .str "rule"], rfl, Dr.lst L6.ld (.cons (.non) (.cons (.str _) (.cons (.str _) .nil))), w1, w2, w3, rfl, _, rfl, iteNS rfl ?_⟩
        exact ⟨_, _, _, _, _, _, _, _, _, _, _, _, _, _, _, rfl, L6.dw.mono (by omega), L6.tb⟩
      | false =>
        refine ⟨_, rfl, _, rfl, iteF ⟨_, rfl, _, rfl, iteF ⟨by show 3 ≤ sizeLine; decide, fun qD hqD => ?_⟩⟩⟩
        have L0 : Lst C (T0 tt) ns d g c y po qD (i * 1000 + 900) rs vb vw o yw (.row true (1 + u3) an nm) [.int 0, .str "rule", .int 0] (upd H24 qD (.lst [.int 0, .str "rule", .int 0])) := ⟨f24.ext (Ext.new hqD), ar24.kp (Kp.new hqD), dw24.kp (Kp.new hqD), po24.ext (Ext.new hqD), D24.new hqD, tb24.ext (Ext.new hqD), upd_same⟩
        generalize upd H24 qD (.lst [.int 0, .str "rule", .int 0]) = H25 at L0 ⊢
        dsimp only [List.set]
        -- the three
        refine ⟨L0.tb, fun Ha ea ta => ttr_val (.int 0) (fun Hb kb => ?_) fun R' hR E' Q' hE hQ => ⟨_, rfl, _, rfl, fun sx3 sd3 hs3 hd3 _ => sp_call hE hQ hR hs3 hd3 (L0.n ea ta).fo (L0.n ea ta).ar (.str "correct") (fun _ => rfl) (fun e => (by rw [hso] at e; cases e)) (fun e => (by rw [hso] at e; cases e))⟩⟩
        have L1 := (L0.n ea ta).ext kb
        refine ⟨by show 1 ≤ sizeLine; decide, fun qF hqF => ?_⟩
        have L2 := L1.ext (Ext.new (o := .lst [(.int 0)]) hqF)
        have x2 : ExtN Hb (upd Hb qF (.lst [(.int 0)])) := ExtN.of (Ext.new hqF)
        have lf2 : (upd Hb qF (.lst [(.int 0)])) qF = some (.lst [(.int 0)]) := upd_same
        generalize upd Hb qF (.lst [(.int 0)]) = H26 at L2 lf2 x2 ⊢
        dsimp only [List.set]
        refine ⟨_, rfl, .inl ⟨rfl, _, SqL.of lf2⟩, L2.tb, fun Ha2 ea2 ta2 => ttr_val (.str "rule") (fun Hb2 kb2 => ?_) fun R' hR E' Q' hE hQ => ⟨_, rfl, _, rfl, _, rfl, rfl, rfl, fun sx3 sd3 hs3 hd3 _ => sp_call (o := some (.row true (1 + u3) an nm)) hE hQ hR hs3 hd3 (L2.n ea2 ta2).fo ⟨_, dk_mk (L2.n ea2 ta2).po npd npg, fgood, rfl, fok⟩ (L2.n ea2 ta2).wo (fun e => by cases e) (fun _ _ => rfl) (fun _ e => by rw [hyw] at e; cases e)⟩⟩
        have L3 := (L2.n ea2 ta2).ext kb2
        have lf3 : Hb2 qF = some (.lst [(.int 0)]) := kb2 _ _ (ea2 _ _ lf2 (by intro z q; cases q))
        have qFD : qF ≠ qD := fun e => by
          have h := L3.ld
          rw [← e, lf3] at h
          have h := HO.lst.inj (Option.some.inj h)
          exact absurd (congrArg List.length h) (by show ¬ (1 : Nat) = 3; decide)
        refine ⟨qF, _, _, rfl, rfl, lf3, by show 1 < sizeLine; decide, ?_⟩
        have x3 := x2.trans (ea2.trans (ExtN.of kb2))
        have L4 := L1.n (extN_put (zs := [(.int 0)] ++ [.str "rule"]) x3 hqF) (tabs_put L3.tb lf3)
        have x4 := extN_put (zs := [(.int 0)] ++ [.str "rule"]) x3 hqF
        have lf4 : (upd Hb2 qF (.lst ([(.int 0)] ++ [.str "rule"]))) qF = some (.lst [(.int 0), .str "rule"]) := upd_same
        generalize upd Hb2 qF (.lst ([(.int 0)] ++ [.str "rule"])) = H27 at L4 lf4 x4 ⊢
        refine ⟨_, rfl, .inl ⟨rfl, _, SqL.of lf4⟩, L4.tb, fun Ha3 ea3 ta3 => ttr_val (.int 0) (fun Hb3' kb3 => ?_) fun R' hR E' Q' hE hQ => ⟨_, rfl, _, rfl, _, rfl, rfl, rfl, fun sx3 sd3 hs3 hd3 _ => sp_call hE hQ hR hs3 hd3 (L4.n ea3 ta3).fo (L4.n ea3 ta3).ar (L4.n ea3 ta3).wo (fun _ => rfl) (fun e => (by rw [hso] at e; cases e)) (fun e => (by rw [hso] at e; cases e))⟩⟩
        have L5 := (L4.n ea3 ta3).ext kb3
        have lf5 : Hb3' qF = some (.lst [(.int 0), .str "rule"]) := kb3 _ _ (ea3 _ _ lf4 (by intro z q; cases q))
        refine ⟨qF, _, _, rfl, rfl, lf5, by show 2 < sizeLine; decide, ?_⟩
        have x5 := x4.trans (ea3.trans (ExtN.of kb3))
        have L6 := L1.n (extN_put (zs := [(.int 0), .str "rule"] ++ [(.int 0)]) x5 hqF) (tabs_put L5.tb lf5)
        have lf6 : (upd Hb3' qF (.lst ([(.int 0), .str "rule"] ++ [(.int 0)]))) qF = some (.lst [(.int 0), .str "rule", (.int 0)]) := upd_same
        generalize upd Hb3' qF (.lst ([(.int 0), .str "rule"] ++ [(.int 0)])) = H28 at L6 lf6 ⊢
        have okD : Ok 3 (.list [.int 0, .str "rule", .int 0]) := ok_manyL (n := 1) (fun y hy => by
          simp only [List.mem_cons, List.not_mem_nil, or_false] at hy
          rcases hy with rfl | rfl | rfl
          · exact Gk.ok_int (by decide)
          · exact ok_str (by decide +kernel)
          · exact Gk.ok_int (by decide)) (by show 3 ≤ 8; decide)
        obtain ⟨w1, w2, w3⟩ := Lw.Ok.small okD (by decide)
        refine ⟨_, rfl, _, .list [.int 0, .str "rule", .int 0], rfl, Dr.lst lf6 (.cons (.int _) (.cons (.str _) (.cons (.int _) .nil))), w1, w2, w3, ?_⟩
        refine ⟨_, rfl, _, .list [.int 0, .str "rule", .int 0], rfl, Dr.lst L6.ld (.cons (.int _) (.cons (.str _) (.cons (.int _) .nil))), w1, w2, w3, rfl, _, rfl, iteNS rfl ?_⟩
        exact ⟨_, _, _, _, _, _, _, _, _, _, _, _, _, _, _, rfl, L6.dw.mono (by omega), L6.tb⟩
  · rintro σ H2 ⟨v2, v3, v4, v5, v6, v7, v8, v9, v10, v11, v12, v13, v14, v15, v16, rfl, D2, _⟩
    rfl
end
end Lw

set_option Elab.async false
set_option linter.all false
set_option maxRecDepth 100000
set_option maxHeartbeats 8000000
namespace Lw
open L2 hiding Ext
open PySem PySem.Spec PyProof.Rows Gn Gr Gk Go Gt Gf Gu Ge Gx LamX
theorem kit_self {K : PySem.W.Frag} {C : Addr} : PySem.W.kitOne K (.ref C) (.ref C) = some true := by
  unfold PySem.W.kitOne
  rw [if_pos (by simp)]
theorem kit_ref {K : PySem.W.Frag} {A B : Addr} (d : PySem.W.hasDictIn K B = true) (u : PySem.W.typeIn K (.ref B) = some (.type "type")) (n : ((Value.ref A) == (Value.ref B)) = false) (s : PySem.W.subIn K (.ref A) (.ref B) = some false) : PySem.W.kitOne K (.ref A) (.ref B) = some false := by
  obtain ⟨cd, hc, _⟩ := PySem.W.any_some d
  have e2 : ((PySem.W.clsIn K B).isSome && PySem.W.typeIn K (.ref B) == some (.type "type")) = true := by rw [hc, u] <;> rfl
  show (if ((Value.ref A) == (Value.ref B)) = true then some true else (if ((PySem.W.clsIn K B).isSome && PySem.W.typeIn K (.ref B) == some (.type "type")) = true then PySem.W.subIn K (.ref A) (.ref B) else none)) = some false
  rw [n, if_pos e2]
  exact s
theorem kit_typ {K : PySem.W.Frag} {A : Addr} {T : String} (m : PySem.W.kitMeta T = true) (s : PySem.W.subIn K (.ref A) (.type T) = some true) : PySem.W.kitOne K (.ref A) (.type T) = some true := by
  show (if ((Value.ref A) == (Value.type T)) = true then some true else (if PySem.W.kitMeta T = true then PySem.W.subIn K (.ref A) (.type T) else none)) = some true
  rw [if_pos m, s]
  split <;> rfl
theorem parts_mk {K : PySem.W.Frag} {w : World} {mg : Str → Option Value} {dp da : Addr} {nD nA : Nat} {hk0 : Int} {tk_0 : Tok} {ta0 : Addr} {nt0 : Nat} {hk1 : Int} {tk_1 : Tok} {ta1 : Addr} {nt1 : Nat} {hk2 : Int} {tk_2 : Tok} {ta2 : Addr} {nt2 : Nat} {hk3 : Int} {tk_3 : Tok} {ta3 : Addr} {nt3 : Nat} {hk4 : Int} {tk_4 : Tok} {ta4 : Addr} {nt4 : Nat} {hk5 : Int} {tk_5 : Tok} {ta5 : Addr} {nt5 : Nat} {hk6 : Int} {tk_6 : Tok} {ta6 : Addr} {nt6 : Nat} {us0 : Tok} {us1 : Tok} {us2 : Tok} {us3 : Tok} {us4 : Tok} {us5 : Tok} {us6 : Tok} {us7 : Tok} {us8 : Tok} {us9 : Tok} {us10 : Tok} {us11 : Tok} {us12 : Tok} {us13 : Tok} {us14 : Tok} {us15 : Tok} {us16 : Tok} {us17 : Tok}
    (pm : mg "PARTS" = some (.ref dp)) (am : mg "ANSWERS" = some (.ref da))
    (lpa : K.lookup dp = some ⟨.type "dict", none, .dict #[⟨hk0, .str "spender" tk_0, .ref ta0⟩, ⟨hk1, .str "request" tk_1, .ref ta1⟩, ⟨hk2, .str "deposit" tk_2, .ref ta2⟩, ⟨hk3, .str "release" tk_3, .ref ta3⟩, ⟨hk4, .str "consent" tk_4, .ref ta4⟩, ⟨hk5, .str "refuse" tk_5, .ref ta5⟩, ⟨hk6, .str "withdrawn" tk_6, .ref ta6⟩] nD, #[]⟩) (low : (dp == sysModules) = false) (hkl : PySem.W.KeysLit w.params (#[⟨hk0, .str "spender" tk_0, .ref ta0⟩, ⟨hk1, .str "request" tk_1, .ref ta1⟩, ⟨hk2, .str "deposit" tk_2, .ref ta2⟩, ⟨hk3, .str "release" tk_3, .ref ta3⟩, ⟨hk4, .str "consent" tk_4, .ref ta4⟩, ⟨hk5, .str "refuse" tk_5, .ref ta5⟩, ⟨hk6, .str "withdrawn" tk_6, .ref ta6⟩] : Array DictEntry).toList)
    (lt0 : K.lookup ta0 = some ⟨.type "tuple", none, .seq #[.str "place" us0, .str "account" us1, .str "amount" us2] nt0, #[]⟩)
    (lt1 : K.lookup ta1 = some ⟨.type "tuple", none, .seq #[.str "place" us3, .str "account" us4, .str "amount" us5] nt1, #[]⟩)
    (lt2 : K.lookup ta2 = some ⟨.type "tuple", none, .seq #[.str "mark" us6, .str "account" us7, .str "amount" us8] nt2, #[]⟩)
    (lt3 : K.lookup ta3 = some ⟨.type "tuple", none, .seq #[.str "place" us9, .str "amount" us10] nt3, #[]⟩)
    (lt4 : K.lookup ta4 = some ⟨.type "tuple", none, .seq #[.str "place" us11, .str "place" us12] nt4, #[]⟩)
    (lt5 : K.lookup ta5 = some ⟨.type "tuple", none, .seq #[.str "place" us13, .str "place" us14] nt5, #[]⟩)
    (lt6 : K.lookup ta6 = some ⟨.type "tuple", none, .seq #[.str "place" us15] nt6, #[]⟩)
    (lan : K.lookup da = some ⟨.type "tuple", none, .seq #[.str "consent" us16, .str "refuse" us17] nA, #[]⟩) : Parts K w mg dp da #[⟨hk0, .str "spender" tk_0, .ref ta0⟩, ⟨hk1, .str "request" tk_1, .ref ta1⟩, ⟨hk2, .str "deposit" tk_2, .ref ta2⟩, ⟨hk3, .str "release" tk_3, .ref ta3⟩, ⟨hk4, .str "consent" tk_4, .ref ta4⟩, ⟨hk5, .str "refuse" tk_5, .ref ta5⟩, ⟨hk6, .str "withdrawn" tk_6, .ref ta6⟩] nD := by
  have sq : ∀ {a : Addr} {its : Array Value} {n : Nat} {xs : List V}, K.lookup a = some ⟨.type "tuple", none, .seq its n, #[]⟩ → its.size ≤ 1000 → Vals xs its.toList → ∀ H : Hp, SqT K H a xs := fun hl hz hv H => .inr ⟨_, _, _, hl, rfl, rfl, by rw [sizeLine_eq]; omega, hv⟩
  have v1 : ∀ {x : Str} {t : Tok}, RelV (.str x) (.str x t) := ⟨_, rfl⟩
  have n1 : ∀ (x z : Str) (t : Tok), x ≠ z → Value.isStr (.str x t) z = false := fun x z t h => by
    show (x == z) = false
    exact beq_eq_false_iff_ne.mpr h
  have n2 : ∀ (z : Str) (t : Tok), Value.isStr (.str z t) z = true := fun z t => by
    show (z == z) = true
    exact beq_self_eq_true z
  refine ⟨pm, am, ⟨lpa, hkl, low⟩, hkl, fun z hz => ?_, fun z ps hz => ?_, sq lan (by show 2 ≤ 1000; decide) (.cons v1 (.cons v1 .nil))⟩
  · unfold partsOf at hz
    have a0 : ("spender" : Str) ≠ z := fun e => by subst e; cases hz
    have a1 : ("request" : Str) ≠ z := fun e => by subst e; cases hz
    have a2 : ("deposit" : Str) ≠ z := fun e => by subst e; cases hz
    have a3 : ("release" : Str) ≠ z := fun e => by subst e; cases hz
    have a4 : ("consent" : Str) ≠ z := fun e => by subst e; cases hz
    have a5 : ("refuse" : Str) ≠ z := fun e => by subst e; cases hz
    have a6 : ("withdrawn" : Str) ≠ z := fun e => by subst e; cases hz
    unfold PySem.W.nsIn
    rw [lpa]
    simp only [List.find?_cons, List.find?_nil, n1 _ _ _ a0, n1 _ _ _ a1, n1 _ _ _ a2, n1 _ _ _ a3, n1 _ _ _ a4, n1 _ _ _ a5, n1 _ _ _ a6]
    rfl
  · have step : ∀ (a : Addr), (PySem.W.nsIn K dp z = some (some (.ref a))) → True := fun _ _ => trivial
    unfold partsOf at hz
    split at hz
    · rename_i e; cases hz; subst e
      refine ⟨ta0, ?_, sq lt0 (by show 3 ≤ 1000; decide) (.cons v1 (.cons v1 (.cons v1 .nil)))⟩
      unfold PySem.W.nsIn
      rw [lpa]
      simp only [List.find?_cons, n2]
    split at hz
    · rename_i e; cases hz; subst e
      refine ⟨ta1, ?_, sq lt1 (by show 3 ≤ 1000; decide) (.cons v1 (.cons v1 (.cons v1 .nil)))⟩
      unfold PySem.W.nsIn
      rw [lpa]
      simp only [List.find?_cons, n2, n1 "spender" "request" _ (by decide +kernel)]
    split at hz
    · rename_i e; cases hz; subst e
      refine ⟨ta2, ?_, sq lt2 (by show 3 ≤ 1000; decide) (.cons v1 (.cons v1 (.cons v1 .nil)))⟩
      unfold PySem.W.nsIn
      rw [lpa]
      simp only [List.find?_cons, n2, n1 "spender" "deposit" _ (by decide +kernel), n1 "request" "deposit" _ (by decide +kernel)]
    split at hz
    · rename_i e; cases hz; subst e
      refine ⟨ta3, ?_, sq lt3 (by show 2 ≤ 1000; decide) (.cons v1 (.cons v1 .nil))⟩
      unfold PySem.W.nsIn
      rw [lpa]
      simp only [List.find?_cons, n2, n1 "spender" "release" _ (by decide +kernel), n1 "request" "release" _ (by decide +kernel), n1 "deposit" "release" _ (by decide +kernel)]
    split at hz
    · rename_i e; cases hz; subst e
      refine ⟨ta4, ?_, sq lt4 (by show 2 ≤ 1000; decide) (.cons v1 (.cons v1 .nil))⟩
      unfold PySem.W.nsIn
      rw [lpa]
      simp only [List.find?_cons, n2, n1 "spender" "consent" _ (by decide +kernel), n1 "request" "consent" _ (by decide +kernel), n1 "deposit" "consent" _ (by decide +kernel), n1 "release" "consent" _ (by decide +kernel)]
    split at hz
    · rename_i e; cases hz; subst e
      refine ⟨ta5, ?_, sq lt5 (by show 2 ≤ 1000; decide) (.cons v1 (.cons v1 .nil))⟩
      unfold PySem.W.nsIn
      rw [lpa]
      simp only [List.find?_cons, n2, n1 "spender" "refuse" _ (by decide +kernel), n1 "request" "refuse" _ (by decide +kernel), n1 "deposit" "refuse" _ (by decide +kernel), n1 "release" "refuse" _ (by decide +kernel), n1 "consent" "refuse" _ (by decide +kernel)]
    split at hz
    · rename_i e; cases hz; subst e
      refine ⟨ta6, ?_, sq lt6 (by show 1 ≤ 1000; decide) (.cons v1 .nil)⟩
      unfold PySem.W.nsIn
      rw [lpa]
      simp only [List.find?_cons, n2, n1 "spender" "withdrawn" _ (by decide +kernel), n1 "request" "withdrawn" _ (by decide +kernel), n1 "deposit" "withdrawn" _ (by decide +kernel), n1 "release" "withdrawn" _ (by decide +kernel), n1 "consent" "withdrawn" _ (by decide +kernel), n1 "refuse" "withdrawn" _ (by decide +kernel)]
    · cases hz
theorem kb_of {K : PySem.W.Frag} {fd : FuncData} {ps ks : List Str} {n : Nat} {g : List Value → List Value → List Value} {gV : List V → List V → List V} (h : ∃ mv : List Value, KBn K fd ps n ks (fun us ws => g us ws) (fun vs zs => gV vs zs)) : KBn K fd ps n ks g gV := by
  obtain ⟨_, h⟩ := h
  exact h
theorem vals_rev : ∀ {xs : List V} {us : List Value}, Vals xs us → Vals xs.reverse us.reverse
  | _, _, .nil => .nil
  | _, _, .cons a r => by
    rw [List.reverse_cons, List.reverse_cons]
    exact (vals_rev r).append (.cons a .nil)
/-- what the top has left, def by def -/
theorem all_mk {P : Program} {w : World} {K : PySem.W.Frag} {h : Heap} {mg : Str → Option Value} {fa : Addr} (X : K.In h) (G : h.Ns mainGlobals mg) (hfa : mg "law" = some (.ref fa))
    {fq0 : Addr} {odq0 anq0 : Option Addr} {slq0 : Array (Option Value)} {ocq0 kVq0 dcq0 pmq0 cdq0 ctq0 : Value}
    (aq0 : PySem.W.nsIn K mainGlobals "_law_begun" = some (some (.ref fq0))) (lq0 : K.lookup fq0 = some ⟨ocq0, odq0, .func (PySem.W.fnOf "_law_begun" "_law_begun" (defArgs sBegun) (defBody sBegun) (defScope sBegun) .none kVq0 dcq0 pmq0 anq0 cdq0 ctq0), slq0⟩) (cq0 : PySem.W.codeIn K cdq0 "_law_begun" = true) (kq0 : PySem.W.keepIn K (.ref fq0) = true)
    {fq1 : Addr} {odq1 anq1 : Option Addr} {slq1 : Array (Option Value)} {ocq1 kVq1 dcq1 pmq1 cdq1 ctq1 : Value}
    (aq1 : PySem.W.nsIn K mainGlobals "_law_mixed" = some (some (.ref fq1))) (lq1 : K.lookup fq1 = some ⟨ocq1, odq1, .func (PySem.W.fnOf "_law_mixed" "_law_mixed" (defArgs sMixed) (defBody sMixed) (defScope sMixed) .none kVq1 dcq1 pmq1 anq1 cdq1 ctq1), slq1⟩) (cq1 : PySem.W.codeIn K cdq1 "_law_mixed" = true) (kq1 : PySem.W.keepIn K (.ref fq1) = true)
    {fq2 : Addr} {odq2 anq2 : Option Addr} {slq2 : Array (Option Value)} {ocq2 kVq2 dcq2 pmq2 cdq2 ctq2 : Value}
    (aq2 : PySem.W.nsIn K mainGlobals "_law_take" = some (some (.ref fq2))) (lq2 : K.lookup fq2 = some ⟨ocq2, odq2, .func (PySem.W.fnOf "_law_take" "_law_take" (defArgs sTake) (defBody sTake) (defScope sTake) .none kVq2 dcq2 pmq2 anq2 cdq2 ctq2), slq2⟩) (cq2 : PySem.W.codeIn K cdq2 "_law_take" = true) (kq2 : PySem.W.keepIn K (.ref fq2) = true)
    {fq3 : Addr} {odq3 anq3 : Option Addr} {slq3 : Array (Option Value)} {ocq3 kVq3 dcq3 pmq3 cdq3 ctq3 : Value}
    (aq3 : PySem.W.nsIn K mainGlobals "_law_pick" = some (some (.ref fq3))) (lq3 : K.lookup fq3 = some ⟨ocq3, odq3, .func (PySem.W.fnOf "_law_pick" "_law_pick" (defArgs sPick) (defBody sPick) (defScope sPick) .none kVq3 dcq3 pmq3 anq3 cdq3 ctq3), slq3⟩) (cq3 : PySem.W.codeIn K cdq3 "_law_pick" = true) (kq3 : PySem.W.keepIn K (.ref fq3) = true)
    {fq4 : Addr} {odq4 anq4 : Option Addr} {slq4 : Array (Option Value)} {ocq4 kVq4 dcq4 pmq4 cdq4 ctq4 : Value}
    (aq4 : PySem.W.nsIn K mainGlobals "_law_words" = some (some (.ref fq4))) (lq4 : K.lookup fq4 = some ⟨ocq4, odq4, .func (PySem.W.fnOf "_law_words" "_law_words" (defArgs sWords) (defBody sWords) (defScope sWords) .none kVq4 dcq4 pmq4 anq4 cdq4 ctq4), slq4⟩) (cq4 : PySem.W.codeIn K cdq4 "_law_words" = true) (kq4 : PySem.W.keepIn K (.ref fq4) = true)
    {fq5 : Addr} {odq5 anq5 : Option Addr} {slq5 : Array (Option Value)} {ocq5 kVq5 dcq5 pmq5 cdq5 ctq5 : Value}
    (aq5 : PySem.W.nsIn K mainGlobals "_law_forest" = some (some (.ref fq5))) (lq5 : K.lookup fq5 = some ⟨ocq5, odq5, .func (PySem.W.fnOf "_law_forest" "_law_forest" (defArgs sForest) (defBody sForest) (defScope sForest) .none kVq5 dcq5 pmq5 anq5 cdq5 ctq5), slq5⟩) (cq5 : PySem.W.codeIn K cdq5 "_law_forest" = true) (kq5 : PySem.W.keepIn K (.ref fq5) = true)
    {fq6 : Addr} {odq6 anq6 : Option Addr} {slq6 : Array (Option Value)} {ocq6 kVq6 dcq6 pmq6 cdq6 ctq6 : Value}
    (aq6 : PySem.W.nsIn K mainGlobals "is_int" = some (some (.ref fq6))) (lq6 : K.lookup fq6 = some ⟨ocq6, odq6, .func (PySem.W.fnOf "is_int" "is_int" (defArgs sInt) (defBody sInt) (defScope sInt) .none kVq6 dcq6 pmq6 anq6 cdq6 ctq6), slq6⟩) (cq6 : PySem.W.codeIn K cdq6 "is_int" = true) (kq6 : PySem.W.keepIn K (.ref fq6) = true)
    {fq7 : Addr} {odq7 anq7 : Option Addr} {slq7 : Array (Option Value)} {ocq7 kVq7 dcq7 pmq7 cdq7 ctq7 : Value}
    (aq7 : PySem.W.nsIn K mainGlobals "is_name" = some (some (.ref fq7))) (lq7 : K.lookup fq7 = some ⟨ocq7, odq7, .func (PySem.W.fnOf "is_name" "is_name" (defArgs sName) (defBody sName) (defScope sName) .none kVq7 dcq7 pmq7 anq7 cdq7 ctq7), slq7⟩) (cq7 : PySem.W.codeIn K cdq7 "is_name" = true) (kq7 : PySem.W.keepIn K (.ref fq7) = true)
    {fq8 : Addr} {odq8 anq8 : Option Addr} {slq8 : Array (Option Value)} {ocq8 kVq8 dcq8 pmq8 cdq8 ctq8 : Value}
    (aq8 : PySem.W.nsIn K mainGlobals "is_amount" = some (some (.ref fq8))) (lq8 : K.lookup fq8 = some ⟨ocq8, odq8, .func (PySem.W.fnOf "is_amount" "is_amount" (defArgs sAmount) (defBody sAmount) (defScope sAmount) .none kVq8 dcq8 pmq8 anq8 cdq8 ctq8), slq8⟩) (cq8 : PySem.W.codeIn K cdq8 "is_amount" = true) (kq8 : PySem.W.keepIn K (.ref fq8) = true)
    {fq9 : Addr} {odq9 anq9 : Option Addr} {slq9 : Array (Option Value)} {ocq9 kVq9 dcq9 pmq9 cdq9 ctq9 : Value}
    (aq9 : PySem.W.nsIn K mainGlobals "is_row" = some (some (.ref fq9))) (lq9 : K.lookup fq9 = some ⟨ocq9, odq9, .func (PySem.W.fnOf "is_row" "is_row" (defArgs sRow) (defBody sRow) (defScope sRow) .none kVq9 dcq9 pmq9 anq9 cdq9 ctq9), slq9⟩) (cq9 : PySem.W.codeIn K cdq9 "is_row" = true) (kq9 : PySem.W.keepIn K (.ref fq9) = true)
    {fq10 : Addr} {odq10 anq10 : Option Addr} {slq10 : Array (Option Value)} {ocq10 kVq10 dcq10 pmq10 cdq10 ctq10 : Value}
    (aq10 : PySem.W.nsIn K mainGlobals "first_wrong" = some (some (.ref fq10))) (lq10 : K.lookup fq10 = some ⟨ocq10, odq10, .func (PySem.W.fnOf "first_wrong" "first_wrong" (defArgs sWrong) (defBody sWrong) (defScope sWrong) .none kVq10 dcq10 pmq10 anq10 cdq10 ctq10), slq10⟩) (cq10 : PySem.W.codeIn K cdq10 "first_wrong" = true) (kq10 : PySem.W.keepIn K (.ref fq10) = true)
    {fq11 : Addr} {odq11 anq11 : Option Addr} {slq11 : Array (Option Value)} {ocq11 kVq11 dcq11 pmq11 ctq11 : Value} {cc tt : Addr}
    (aq11 : PySem.W.nsIn K mainGlobals "law" = some (some (.ref fq11))) (lq11 : K.lookup fq11 = some ⟨ocq11, odq11, .func (PySem.W.fnOf "law" "law" (defArgs sLaw) (defBody sLaw) (defScope sLaw) .none kVq11 dcq11 pmq11 anq11 (.ref cc) ctq11), slq11⟩) (cq11 : PySem.W.codeIn K (.ref cc) "law" = true) (kq11 : PySem.W.keepIn K (.ref fq11) = true)
    {fq12 : Addr} {odq12 anq12 : Option Addr} {slq12 : Array (Option Value)} {ocq12 kVq12 dcq12 pmq12 cdq12 ctq12 : Value}
    (aq12 : PySem.W.nsIn K mainGlobals "is_place" = some (some (.ref fq12))) (lq12 : K.lookup fq12 = some ⟨ocq12, odq12, .func (PySem.W.fnOf "is_place" "is_place" (defArgs sIsPlace) (defBody sIsPlace) (defScope sIsPlace) .none kVq12 dcq12 pmq12 anq12 cdq12 ctq12), slq12⟩) (cq12 : PySem.W.codeIn K cdq12 "is_place" = true) (kq12 : PySem.W.keepIn K (.ref fq12) = true)
    {fq13 : Addr} {odq13 anq13 : Option Addr} {slq13 : Array (Option Value)} {ocq13 kVq13 dcq13 pmq13 cdq13 ctq13 : Value}
    (aq13 : PySem.W.nsIn K mainGlobals "is_part" = some (some (.ref fq13))) (lq13 : K.lookup fq13 = some ⟨ocq13, odq13, .func (PySem.W.fnOf "is_part" "is_part" (defArgs sIsPart) (defBody sIsPart) (defScope sIsPart) .none kVq13 dcq13 pmq13 anq13 cdq13 ctq13), slq13⟩) (cq13 : PySem.W.codeIn K cdq13 "is_part" = true) (kq13 : PySem.W.keepIn K (.ref fq13) = true)
    {fq14 : Addr} {odq14 anq14 : Option Addr} {slq14 : Array (Option Value)} {ocq14 kVq14 dcq14 pmq14 cdq14 ctq14 : Value}
    (aq14 : PySem.W.nsIn K mainGlobals "is_fact" = some (some (.ref fq14))) (lq14 : K.lookup fq14 = some ⟨ocq14, odq14, .func (PySem.W.fnOf "is_fact" "is_fact" (defArgs sIsFact) (defBody sIsFact) (defScope sIsFact) .none kVq14 dcq14 pmq14 anq14 cdq14 ctq14), slq14⟩) (cq14 : PySem.W.codeIn K cdq14 "is_fact" = true) (kq14 : PySem.W.keepIn K (.ref fq14) = true)
    {fq15 : Addr} {odq15 anq15 : Option Addr} {slq15 : Array (Option Value)} {ocq15 kVq15 dcq15 pmq15 cdq15 ctq15 : Value}
    (aq15 : PySem.W.nsIn K mainGlobals "supposed_rows" = some (some (.ref fq15))) (lq15 : K.lookup fq15 = some ⟨ocq15, odq15, .func (PySem.W.fnOf "supposed_rows" "supposed_rows" (defArgs sSupposedRows) (defBody sSupposedRows) (defScope sSupposedRows) .none kVq15 dcq15 pmq15 anq15 cdq15 ctq15), slq15⟩) (cq15 : PySem.W.codeIn K cdq15 "supposed_rows" = true) (kq15 : PySem.W.keepIn K (.ref fq15) = true)
    {fq16 : Addr} {odq16 anq16 : Option Addr} {slq16 : Array (Option Value)} {ocq16 kVq16 dcq16 pmq16 cdq16 ctq16 : Value}
    (aq16 : PySem.W.nsIn K mainGlobals "contradicts" = some (some (.ref fq16))) (lq16 : K.lookup fq16 = some ⟨ocq16, odq16, .func (PySem.W.fnOf "contradicts" "contradicts" (defArgs sContradicts) (defBody sContradicts) (defScope sContradicts) .none kVq16 dcq16 pmq16 anq16 cdq16 ctq16), slq16⟩) (cq16 : PySem.W.codeIn K cdq16 "contradicts" = true) (kq16 : PySem.W.keepIn K (.ref fq16) = true)
    {fq17 : Addr} {odq17 anq17 : Option Addr} {slq17 : Array (Option Value)} {ocq17 kVq17 dcq17 pmq17 cdq17 ctq17 : Value}
    (aq17 : PySem.W.nsIn K mainGlobals "slot" = some (some (.ref fq17))) (lq17 : K.lookup fq17 = some ⟨ocq17, odq17, .func (PySem.W.fnOf "slot" "slot" (defArgs sSlot) (defBody sSlot) (defScope sSlot) .none kVq17 dcq17 pmq17 anq17 cdq17 ctq17), slq17⟩) (cq17 : PySem.W.codeIn K cdq17 "slot" = true) (kq17 : PySem.W.keepIn K (.ref fq17) = true)
    {fq18 : Addr} {odq18 anq18 : Option Addr} {slq18 : Array (Option Value)} {ocq18 kVq18 dcq18 pmq18 cdq18 ctq18 : Value}
    (aq18 : PySem.W.nsIn K mainGlobals "twin_of" = some (some (.ref fq18))) (lq18 : K.lookup fq18 = some ⟨ocq18, odq18, .func (PySem.W.fnOf "twin_of" "twin_of" (defArgs sTwinOf) (defBody sTwinOf) (defScope sTwinOf) .none kVq18 dcq18 pmq18 anq18 cdq18 ctq18), slq18⟩) (cq18 : PySem.W.codeIn K cdq18 "twin_of" = true) (kq18 : PySem.W.keepIn K (.ref fq18) = true)
    {fq19 : Addr} {odq19 anq19 : Option Addr} {slq19 : Array (Option Value)} {ocq19 kVq19 dcq19 pmq19 cdq19 ctq19 : Value}
    (aq19 : PySem.W.nsIn K mainGlobals "_law_fact" = some (some (.ref fq19))) (lq19 : K.lookup fq19 = some ⟨ocq19, odq19, .func (PySem.W.fnOf "_law_fact" "_law_fact" (defArgs sLFact) (defBody sLFact) (defScope sLFact) .none kVq19 dcq19 pmq19 anq19 cdq19 ctq19), slq19⟩) (cq19 : PySem.W.codeIn K cdq19 "_law_fact" = true) (kq19 : PySem.W.keepIn K (.ref fq19) = true)
    {fq20 : Addr} {odq20 anq20 : Option Addr} {slq20 : Array (Option Value)} {ocq20 kVq20 dcq20 pmq20 cdq20 ctq20 : Value}
    (aq20 : PySem.W.nsIn K mainGlobals "_law_is_number" = some (some (.ref fq20))) (lq20 : K.lookup fq20 = some ⟨ocq20, odq20, .func (PySem.W.fnOf "_law_is_number" "_law_is_number" (defArgs sLIsNumber) (defBody sLIsNumber) (defScope sLIsNumber) .none kVq20 dcq20 pmq20 anq20 cdq20 ctq20), slq20⟩) (cq20 : PySem.W.codeIn K cdq20 "_law_is_number" = true) (kq20 : PySem.W.keepIn K (.ref fq20) = true)
    {fq21 : Addr} {odq21 anq21 : Option Addr} {slq21 : Array (Option Value)} {ocq21 kVq21 dcq21 pmq21 cdq21 ctq21 : Value}
    (aq21 : PySem.W.nsIn K mainGlobals "_law_is_fact" = some (some (.ref fq21))) (lq21 : K.lookup fq21 = some ⟨ocq21, odq21, .func (PySem.W.fnOf "_law_is_fact" "_law_is_fact" (defArgs sLIsFact) (defBody sLIsFact) (defScope sLIsFact) .none kVq21 dcq21 pmq21 anq21 cdq21 ctq21), slq21⟩) (cq21 : PySem.W.codeIn K cdq21 "_law_is_fact" = true) (kq21 : PySem.W.keepIn K (.ref fq21) = true)
    {fq22 : Addr} {odq22 anq22 : Option Addr} {slq22 : Array (Option Value)} {ocq22 kVq22 dcq22 pmq22 cdq22 ctq22 : Value}
    (aq22 : PySem.W.nsIn K mainGlobals "_law_refusal" = some (some (.ref fq22))) (lq22 : K.lookup fq22 = some ⟨ocq22, odq22, .func (PySem.W.fnOf "_law_refusal" "_law_refusal" (defArgs sLRefusal) (defBody sLRefusal) (defScope sLRefusal) .none kVq22 dcq22 pmq22 anq22 cdq22 ctq22), slq22⟩) (cq22 : PySem.W.codeIn K cdq22 "_law_refusal" = true) (kq22 : PySem.W.keepIn K (.ref fq22) = true)
    {fq23 : Addr} {odq23 anq23 : Option Addr} {slq23 : Array (Option Value)} {ocq23 kVq23 dcq23 pmq23 cdq23 ctq23 : Value}
    (aq23 : PySem.W.nsIn K mainGlobals "_law_stands" = some (some (.ref fq23))) (lq23 : K.lookup fq23 = some ⟨ocq23, odq23, .func (PySem.W.fnOf "_law_stands" "_law_stands" (defArgs sLStands) (defBody sLStands) (defScope sLStands) .none kVq23 dcq23 pmq23 anq23 cdq23 ctq23), slq23⟩) (cq23 : PySem.W.codeIn K cdq23 "_law_stands" = true) (kq23 : PySem.W.keepIn K (.ref fq23) = true)
    {C : Addr} (aC : PySem.W.nsIn K mainGlobals "Forest" = some (some (.ref C)))
    {fI : Addr} {odI anI : Option Addr} {slI : Array (Option Value)} {ocI kVI dcI pmI cdI ctI : Value}
    (aI : PySem.W.findIn K (.ref C) "__init__" = some (some (.ref fI))) (iI : PySem.W.isFn K (.ref fI) = true)
    (lI : K.lookup fI = some ⟨ocI, odI, .func (PySem.W.fnOf "__init__" "Forest.__init__" (defArgs sInit) (defBody sInit) (defScope sInit) .none kVI dcI pmI anI cdI ctI), slI⟩) (cI : PySem.W.codeIn K cdI "Forest.__init__" = true) (kI : PySem.W.keepIn K (.ref fI) = true)
    {fS : Addr} {odS anS : Option Addr} {slS : Array (Option Value)} {ocS kVS dcS pmS cdS ctS : Value}
    {pS : Addr} {rrS : List Value} (aS : PySem.W.findIn K (.ref C) "names" = some (some (.ref pS))) (gS : PySem.W.specialIn K (.ref pS) "__get__" = some (some (.builtin "property.__get__"))) (tS : PySem.W.takesIn K (.ref pS) = some true) (rS : PySem.W.recIn K pS "property" = some (.ref fS :: rrS))
    (lS : K.lookup fS = some ⟨ocS, odS, .func (PySem.W.fnOf "names" "Forest.names" (defArgs sNames) (defBody sNames) (defScope sNames) .none kVS dcS pmS anS cdS ctS), slS⟩) (cS : PySem.W.codeIn K cdS "Forest.names" = true) (kS : PySem.W.keepIn K (.ref fS) = true)
    {tM : Tok}
    (pg : PySem.W.plainGet K C Str.empty = true)
    (hd : PySem.W.hasDictIn K C = true)
    (po : PySem.W.plainOver K C = true)
    (sa : PySem.W.findIn K (.ref C) "__setattr__" = some (some (.builtin "object.__setattr__")))
    (mk : PySem.W.makesIn K C = true)
    (kc : PySem.W.keepIn K (.ref C) = true)
    (nP : PySem.W.findIn K (.ref C) "_parents" = some none)
    (rd : PySem.W.readsIn K C (.type "type") = true)
    (ga : PySem.W.specialIn K (.ref C) "__getattribute__" = some (some (.builtin "type.__getattribute__")))
    (mo : PySem.W.findCls K (.ref C) (.type "type") "MOST" = some (.val (.int 8 tM)))
    (ha : PySem.W.findIn K (.ref C) "__class__" = some (some (.builtin "object.__class__")))
    (hn : PySem.W.specialIn K (.builtin "object.__class__") "__get__" = some (some (.builtin "getset_descriptor.__get__")))
    (ht : PySem.W.takesIn K (.builtin "object.__class__") = some true)
    (hm : PySem.W.mroIn K C (.type "object") = some true)
    {tk0 : Tok} (kg0 : PySem.W.nsIn K mainGlobals "LETTERS" = some (some (.str letters tk0)))
    {tk1 : Tok} (kg1 : PySem.W.nsIn K mainGlobals "LONGEST" = some (some (.int 8 tk1)))
    {tk2 : Tok} (kg2 : PySem.W.nsIn K mainGlobals "LARGEST" = some (some (.int 1000000000 tk2)))
    {tk3 : Tok} (kg3 : PySem.W.nsIn K mainGlobals "LAST_PLACE" = some (some (.int 20 tk3)))
    {tk4 : Tok} (kg4 : PySem.W.nsIn K mainGlobals "LAST_MARK" = some (some (.int 999 tk4)))
    {tk5 : Tok} (kg5 : PySem.W.nsIn K mainGlobals "CORRECT" = some (some (.str "correct" tk5)))
    (z0 : PySem.W.nsIn K mainGlobals "isinstance" = some none)
    (z1 : PySem.W.nsIn K mainGlobals "str" = some none)
    (z2 : PySem.W.nsIn K mainGlobals "int" = some none)
    (z3 : PySem.W.nsIn K mainGlobals "bool" = some none)
    (z4 : PySem.W.nsIn K mainGlobals "list" = some none)
    (z5 : PySem.W.nsIn K mainGlobals "tuple" = some none)
    (z6 : PySem.W.nsIn K mainGlobals "dict" = some none)
    (z7 : PySem.W.nsIn K mainGlobals "len" = some none)
    (z8 : PySem.W.nsIn K mainGlobals "all" = some none)
    (z9 : PySem.W.nsIn K mainGlobals "enumerate" = some none)
    (z10 : PySem.W.nsIn K mainGlobals "range" = some none)
    (z11 : PySem.W.nsIn K mainGlobals "min" = some none)
    (z12 : PySem.W.nsIn K mainGlobals "zip" = some none)
    (z13 : PySem.W.nsIn K mainGlobals "repr" = some none)
    (z14 : PySem.W.nsIn K mainGlobals "ValueError" = some none)
    (z15 : PySem.W.nsIn K mainGlobals "any" = some none)
    (z16 : PySem.W.nsIn K mainGlobals "max" = some none)
    (z17 : PySem.W.nsIn K mainGlobals "sorted" = some none)
    {CN CV CS CF CR CP fFI tU tR DK da dp : Addr}
    {fNI : Addr} {odNI anNI : Option Addr} {slNI : Array (Option Value)} {ocNI kVNI dcNI pmNI cdNI ctNI : Value}
    {fNT : Addr} {odNT anNT : Option Addr} {slNT : Array (Option Value)} {ocNT kVNT dcNT pmNT cdNT ctNT : Value}
    {fNR : Addr} {odNR anNR : Option Addr} {slNR : Array (Option Value)} {ocNR kVNR dcNR pmNR cdNR ctNR : Value}
    {fNO : Addr} {odNO anNO : Option Addr} {slNO : Array (Option Value)} {ocNO kVNO dcNO pmNO cdNO ctNO : Value}
    {fNK : Addr} {odNK anNK : Option Addr} {slNK : Array (Option Value)} {ocNK kVNK dcNK pmNK cdNK ctNK : Value}
    {fVI : Addr} {odVI anVI : Option Addr} {slVI : Array (Option Value)} {ocVI kVVI dcVI pmVI cdVI ctVI : Value}
    {fVL : Addr} {odVL anVL : Option Addr} {slVL : Array (Option Value)} {ocVL kVVL dcVL pmVL cdVL ctVL : Value}
    {fVF : Addr} {odVF anVF : Option Addr} {slVF : Array (Option Value)} {ocVF kVVF dcVF pmVF cdVF ctVF : Value}
    {pVF : Addr} {rrVF : List Value}
    {fSI : Addr} {odSI anSI : Option Addr} {slSI : Array (Option Value)} {ocSI dcSI pmSI cdSI ctSI : Value}
    {fSP : Addr} {odSP anSP : Option Addr} {slSP : Array (Option Value)} {ocSP kVSP dcSP pmSP cdSP ctSP : Value}
    {pSP : Addr} {rrSP : List Value}
    {fSS : Addr} {odSS anSS : Option Addr} {slSS : Array (Option Value)} {ocSS kVSS dcSS pmSS cdSS ctSS : Value}
    {pSS : Addr} {rrSS : List Value}
    {fSV : Addr} {odSV anSV : Option Addr} {slSV : Array (Option Value)} {ocSV kVSV dcSV pmSV cdSV ctSV : Value}
    {pSV : Addr} {rrSV : List Value}
    {fSL : Addr} {odSL anSL : Option Addr} {slSL : Array (Option Value)} {ocSL kVSL dcSL pmSL cdSL ctSL : Value}
    {pSL : Addr} {rrSL : List Value}
    {tkR : Tok} {nU nR : Nat} {uU0 : Tok} {uU1 : Tok} {uU2 : Tok} {uU3 : Tok} {uU4 : Tok} {uU5 : Tok} {uU6 : Tok} {uR0 uR1 : Tok}
    {nm q : Str} {N : Addr} {bs bmT : List Value} {sn : List Str} {sub : List Value} {ab : Bool} {col : Option Bool} {dd : Option Addr} {k0 k1 k2 k3 k5 : Option Value} {odFI anFI : Option Addr} {slFI : Array (Option Value)} {ocFI kVFI dcFI pmFI cdFI ctFI : Value}
    {nD nA : Nat} {hk0 : Int} {tk_0 : Tok} {ta0 : Addr} {nt0 : Nat} {hk1 : Int} {tk_1 : Tok} {ta1 : Addr} {nt1 : Nat} {hk2 : Int} {tk_2 : Tok} {ta2 : Addr} {nt2 : Nat} {hk3 : Int} {tk_3 : Tok} {ta3 : Addr} {nt3 : Nat} {hk4 : Int} {tk_4 : Tok} {ta4 : Addr} {nt4 : Nat} {hk5 : Int} {tk_5 : Tok} {ta5 : Addr} {nt5 : Nat} {hk6 : Int} {tk_6 : Tok} {ta6 : Addr} {nt6 : Nat} {us0 : Tok} {us1 : Tok} {us2 : Tok} {us3 : Tok} {us4 : Tok} {us5 : Tok} {us6 : Tok} {us7 : Tok} {us8 : Tok} {us9 : Tok} {us10 : Tok} {us11 : Tok} {us12 : Tok} {us13 : Tok} {us14 : Tok} {us15 : Tok} {us16 : Tok} {us17 : Tok}
    (aCN : PySem.W.nsIn K mainGlobals "Notes" = some (some (.ref CN)))
    (pgCN : PySem.W.plainGet K CN Str.empty = true)
    (hdCN : PySem.W.hasDictIn K CN = true)
    (poCN : PySem.W.plainOver K CN = true)
    (saCN : PySem.W.findIn K (.ref CN) "__setattr__" = some (some (.builtin "object.__setattr__")))
    (mkCN : PySem.W.makesIn K CN = true)
    (kcCN : PySem.W.keepIn K (.ref CN) = true)
    (nCNknown : PySem.W.findIn K (.ref CN) "known" = some none)
    (nCNtaken : PySem.W.findIn K (.ref CN) "taken" = some none)
    (nCNsupposed : PySem.W.findIn K (.ref CN) "supposed" = some none)
    (nCNreleased : PySem.W.findIn K (.ref CN) "released" = some none)
    (nCNdeposited : PySem.W.findIn K (.ref CN) "deposited" = some none)
    (aCV : PySem.W.nsIn K mainGlobals "View" = some (some (.ref CV)))
    (pgCV : PySem.W.plainGet K CV Str.empty = true)
    (hdCV : PySem.W.hasDictIn K CV = true)
    (poCV : PySem.W.plainOver K CV = true)
    (saCV : PySem.W.findIn K (.ref CV) "__setattr__" = some (some (.builtin "object.__setattr__")))
    (mkCV : PySem.W.makesIn K CV = true)
    (kcCV : PySem.W.keepIn K (.ref CV) = true)
    (nCV_forest : PySem.W.findIn K (.ref CV) "_forest" = some none)
    (nCV_notes : PySem.W.findIn K (.ref CV) "_notes" = some none)
    (aCS : PySem.W.nsIn K mainGlobals "Spender" = some (some (.ref CS)))
    (pgCS : PySem.W.plainGet K CS Str.empty = true)
    (hdCS : PySem.W.hasDictIn K CS = true)
    (poCS : PySem.W.plainOver K CS = true)
    (saCS : PySem.W.findIn K (.ref CS) "__setattr__" = some (some (.builtin "object.__setattr__")))
    (mkCS : PySem.W.makesIn K CS = true)
    (kcCS : PySem.W.keepIn K (.ref CS) = true)
    (nCS_forest : PySem.W.findIn K (.ref CS) "_forest" = some none)
    (nCS_row : PySem.W.findIn K (.ref CS) "_row" = some none)
    (nCS_rule : PySem.W.findIn K (.ref CS) "_rule" = some none)
    (nCS_spent : PySem.W.findIn K (.ref CS) "_spent" = some none)
    (nCS_log : PySem.W.findIn K (.ref CS) "_log" = some none)
    (nCS_view : PySem.W.findIn K (.ref CS) "_view" = some none)
    (aNI : PySem.W.findIn K (.ref CN) "__init__" = some (some (.ref fNI)))
    (iNI : PySem.W.isFn K (.ref fNI) = true)
    (lNI : K.lookup fNI = some ⟨ocNI, odNI, .func (PySem.W.fnOf "__init__" "Notes.__init__" (defArgs sNtInit) (defBody sNtInit) (defScope sNtInit) .none kVNI dcNI pmNI anNI cdNI ctNI), slNI⟩)
    (cNI : PySem.W.codeIn K cdNI "Notes.__init__" = true)
    (kNI : PySem.W.keepIn K (.ref fNI) = true)
    (aNT : PySem.W.findIn K (.ref CN) "twin" = some (some (.ref fNT)))
    (iNT : PySem.W.isFn K (.ref fNT) = true)
    (lNT : K.lookup fNT = some ⟨ocNT, odNT, .func (PySem.W.fnOf "twin" "Notes.twin" (defArgs sNtTwin) (defBody sNtTwin) (defScope sNtTwin) .none kVNT dcNT pmNT anNT cdNT ctNT), slNT⟩)
    (cNT : PySem.W.codeIn K cdNT "Notes.twin" = true)
    (kNT : PySem.W.keepIn K (.ref fNT) = true)
    (aNR : PySem.W.findIn K (.ref CN) "row_at" = some (some (.ref fNR)))
    (iNR : PySem.W.isFn K (.ref fNR) = true)
    (lNR : K.lookup fNR = some ⟨ocNR, odNR, .func (PySem.W.fnOf "row_at" "Notes.row_at" (defArgs sNtRowAt) (defBody sNtRowAt) (defScope sNtRowAt) .none kVNR dcNR pmNR anNR cdNR ctNR), slNR⟩)
    (cNR : PySem.W.codeIn K cdNR "Notes.row_at" = true)
    (kNR : PySem.W.keepIn K (.ref fNR) = true)
    (aNO : PySem.W.findIn K (.ref CN) "rules_out" = some (some (.ref fNO)))
    (iNO : PySem.W.isFn K (.ref fNO) = true)
    (lNO : K.lookup fNO = some ⟨ocNO, odNO, .func (PySem.W.fnOf "rules_out" "Notes.rules_out" (defArgs sNtRulesOut) (defBody sNtRulesOut) (defScope sNtRulesOut) .none kVNO dcNO pmNO anNO cdNO ctNO), slNO⟩)
    (cNO : PySem.W.codeIn K cdNO "Notes.rules_out" = true)
    (kNO : PySem.W.keepIn K (.ref fNO) = true)
    (aNK : PySem.W.findIn K (.ref CN) "take" = some (some (.ref fNK)))
    (iNK : PySem.W.isFn K (.ref fNK) = true)
    (lNK : K.lookup fNK = some ⟨ocNK, odNK, .func (PySem.W.fnOf "take" "Notes.take" (defArgs sNtTake) (defBody sNtTake) (defScope sNtTake) .none kVNK dcNK pmNK anNK cdNK ctNK), slNK⟩)
    (cNK : PySem.W.codeIn K cdNK "Notes.take" = true)
    (kNK : PySem.W.keepIn K (.ref fNK) = true)
    (aVI : PySem.W.findIn K (.ref CV) "__init__" = some (some (.ref fVI)))
    (iVI : PySem.W.isFn K (.ref fVI) = true)
    (lVI : K.lookup fVI = some ⟨ocVI, odVI, .func (PySem.W.fnOf "__init__" "View.__init__" (defArgs sVwInit) (defBody sVwInit) (defScope sVwInit) .none kVVI dcVI pmVI anVI cdVI ctVI), slVI⟩)
    (cVI : PySem.W.codeIn K cdVI "View.__init__" = true)
    (kVI : PySem.W.keepIn K (.ref fVI) = true)
    (aVL : PySem.W.findIn K (.ref CV) "learn" = some (some (.ref fVL)))
    (iVL : PySem.W.isFn K (.ref fVL) = true)
    (lVL : K.lookup fVL = some ⟨ocVL, odVL, .func (PySem.W.fnOf "learn" "View.learn" (defArgs sVwLearn) (defBody sVwLearn) (defScope sVwLearn) .none kVVL dcVL pmVL anVL cdVL ctVL), slVL⟩)
    (cVL : PySem.W.codeIn K cdVL "View.learn" = true)
    (kVL : PySem.W.keepIn K (.ref fVL) = true)
    (aVF : PySem.W.findIn K (.ref CV) "facts" = some (some (.ref pVF)))
    (gVF : PySem.W.specialIn K (.ref pVF) "__get__" = some (some (.builtin "property.__get__")))
    (tVF : PySem.W.takesIn K (.ref pVF) = some true)
    (rVF : PySem.W.recIn K pVF "property" = some (.ref fVF :: rrVF))
    (lVF : K.lookup fVF = some ⟨ocVF, odVF, .func (PySem.W.fnOf "facts" "View.facts" (defArgs sVwFacts) (defBody sVwFacts) (defScope sVwFacts) .none kVVF dcVF pmVF anVF cdVF ctVF), slVF⟩)
    (cVF : PySem.W.codeIn K cdVF "View.facts" = true)
    (kVF : PySem.W.keepIn K (.ref fVF) = true)
    (aSI : PySem.W.findIn K (.ref CS) "__init__" = some (some (.ref fSI)))
    (iSI : PySem.W.isFn K (.ref fSI) = true)
    (lSI : K.lookup fSI = some ⟨ocSI, odSI, .func (PySem.W.fnOf "__init__" "Spender.__init__" (defArgs sSpInit) (defBody sSpInit) (defScope sSpInit) .none (.ref DK) dcSI pmSI anSI cdSI ctSI), slSI⟩)
    (cSI : PySem.W.codeIn K cdSI "Spender.__init__" = true)
    (kSI : PySem.W.keepIn K (.ref fSI) = true)
    (aSP : PySem.W.findIn K (.ref CS) "place" = some (some (.ref pSP)))
    (gSP : PySem.W.specialIn K (.ref pSP) "__get__" = some (some (.builtin "property.__get__")))
    (tSP : PySem.W.takesIn K (.ref pSP) = some true)
    (rSP : PySem.W.recIn K pSP "property" = some (.ref fSP :: rrSP))
    (lSP : K.lookup fSP = some ⟨ocSP, odSP, .func (PySem.W.fnOf "place" "Spender.place" (defArgs sSpPlace) (defBody sSpPlace) (defScope sSpPlace) .none kVSP dcSP pmSP anSP cdSP ctSP), slSP⟩)
    (cSP : PySem.W.codeIn K cdSP "Spender.place" = true)
    (kSP : PySem.W.keepIn K (.ref fSP) = true)
    (aSS : PySem.W.findIn K (.ref CS) "spent" = some (some (.ref pSS)))
    (gSS : PySem.W.specialIn K (.ref pSS) "__get__" = some (some (.builtin "property.__get__")))
    (tSS : PySem.W.takesIn K (.ref pSS) = some true)
    (rSS : PySem.W.recIn K pSS "property" = some (.ref fSS :: rrSS))
    (lSS : K.lookup fSS = some ⟨ocSS, odSS, .func (PySem.W.fnOf "spent" "Spender.spent" (defArgs sSpSpent) (defBody sSpSpent) (defScope sSpSpent) .none kVSS dcSS pmSS anSS cdSS ctSS), slSS⟩)
    (cSS : PySem.W.codeIn K cdSS "Spender.spent" = true)
    (kSS : PySem.W.keepIn K (.ref fSS) = true)
    (aSV : PySem.W.findIn K (.ref CS) "view" = some (some (.ref pSV)))
    (gSV : PySem.W.specialIn K (.ref pSV) "__get__" = some (some (.builtin "property.__get__")))
    (tSV : PySem.W.takesIn K (.ref pSV) = some true)
    (rSV : PySem.W.recIn K pSV "property" = some (.ref fSV :: rrSV))
    (lSV : K.lookup fSV = some ⟨ocSV, odSV, .func (PySem.W.fnOf "view" "Spender.view" (defArgs sSpView) (defBody sSpView) (defScope sSpView) .none kVSV dcSV pmSV anSV cdSV ctSV), slSV⟩)
    (cSV : PySem.W.codeIn K cdSV "Spender.view" = true)
    (kSV : PySem.W.keepIn K (.ref fSV) = true)
    (aSL : PySem.W.findIn K (.ref CS) "log" = some (some (.ref pSL)))
    (gSL : PySem.W.specialIn K (.ref pSL) "__get__" = some (some (.builtin "property.__get__")))
    (tSL : PySem.W.takesIn K (.ref pSL) = some true)
    (rSL : PySem.W.recIn K pSL "property" = some (.ref fSL :: rrSL))
    (lSL : K.lookup fSL = some ⟨ocSL, odSL, .func (PySem.W.fnOf "log" "Spender.log" (defArgs sSpLog) (defBody sSpLog) (defScope sSpLog) .none kVSL dcSL pmSL anSL cdSL ctSL), slSL⟩)
    (cSL : PySem.W.codeIn K cdSL "Spender.log" = true)
    (kSL : PySem.W.keepIn K (.ref fSL) = true)
    (kwR : PySem.W.nsIn K DK "rule" = some (some (.str "correct" tkR)))
    (gU_ : PySem.W.nsIn K mainGlobals "RULES" = some (some (.ref tU)))
    (lU_ : K.lookup tU = some ⟨.type "tuple", none, .seq #[.str "correct" uU0, .str "gap" uU1, .str "glad" uU2, .str "free" uU3, .str "late" uU4, .str "poor" uU5, .str "deaf" uU6] nU, #[]⟩)
    (gR_ : PySem.W.nsIn K mainGlobals "ROWS" = some (some (.ref tR)))
    (lR_ : K.lookup tR = some ⟨.type "tuple", none, .seq #[.str "spender" uR0, .str "request" uR1] nR, #[]⟩)
    (CF_a : PySem.W.nsIn K mainGlobals "InvalidFact" = some (some (.ref CF)))
    (CR_a : PySem.W.nsIn K mainGlobals "UnknownRule" = some (some (.ref CR)))
    (CP_a : PySem.W.nsIn K mainGlobals "PurseError" = some (some (.ref CP)))
    (qCF : PySem.W.keepIn K (.ref CF) = true)
    (sCF : PySem.W.subIn K (.ref CF) (.type "BaseException") = some true)
    (gCF : PySem.W.findIn K (.ref CF) "__getattribute__" = some (some (.builtin "BaseException.__getattribute__")))
    (hCF : PySem.W.findIn K (.ref CF) "__getattr__" = some none)
    (xCF : PySem.W.findIn K (.ref CF) "__class__" = some (some (.builtin "object.__class__")))
    (yCF : PySem.W.mroIn K CF (.type "object") = some true)
    (sCFP : PySem.W.subIn K (.ref CF) (.ref CP) = some true)
    (sCFV : PySem.W.subIn K (.ref CF) (.type "ValueError") = some true)
    (dCF : PySem.W.hasDictIn K CF = true)
    (uCF : PySem.W.typeIn K (.ref CF) = some (.type "type"))
    (qCR : PySem.W.keepIn K (.ref CR) = true)
    (sCR : PySem.W.subIn K (.ref CR) (.type "BaseException") = some true)
    (gCR : PySem.W.findIn K (.ref CR) "__getattribute__" = some (some (.builtin "BaseException.__getattribute__")))
    (hCR : PySem.W.findIn K (.ref CR) "__getattr__" = some none)
    (xCR : PySem.W.findIn K (.ref CR) "__class__" = some (some (.builtin "object.__class__")))
    (yCR : PySem.W.mroIn K CR (.type "object") = some true)
    (sCRP : PySem.W.subIn K (.ref CR) (.ref CP) = some true)
    (sCRV : PySem.W.subIn K (.ref CR) (.type "ValueError") = some true)
    (dCR : PySem.W.hasDictIn K CR = true)
    (uCR : PySem.W.typeIn K (.ref CR) = some (.type "type"))
    (nFR : ((Value.ref CF) == (Value.ref CR)) = false)
    (nRF : ((Value.ref CR) == (Value.ref CF)) = false)
    (sFR : PySem.W.subIn K (.ref CF) (.ref CR) = some false)
    (sRF : PySem.W.subIn K (.ref CR) (.ref CF) = some false)
    (eCR : PySem.W.excIn K CR [.type "ValueError", .type "Exception", .type "BaseException", .type "object"] "ValueError.__new__" = true)
    (sP : PySem.W.subIn K (.ref CP) (.type "BaseException") = some true)
    (dP : PySem.W.hasDictIn K CP = true)
    (uP : PySem.W.typeIn K (.ref CP) = some (.type "type"))
    (lCT : K.lookup CF = some (excClassObj nm q CF N bs bmT true sn sub ab col dd k0 k1 k2 k3 k5 "ValueError.__new__"))
    (rbT : PySem.HandSPX.refsVE bmT = true)
    (saT : PySem.W.findIn K (.ref CF) "__setattr__" = some (some (.builtin "object.__setattr__")))
    (nT_ : PySem.W.findIn K (.ref CF) "index" = some none)
    (aTI : PySem.W.findIn K (.ref CF) "__init__" = some (some (.ref fFI)))
    (tTI : PySem.W.typeIn K (.ref fFI) = some (.type "function"))
    (lTI : K.lookup fFI = some ⟨ocFI, odFI, .func (PySem.W.fnOf "__init__" "InvalidFact.__init__" (defArgs sFxInit) (defBody sFxInit) (defScope sFxInit) .none kVFI dcFI pmFI anFI cdFI ctFI), slFI⟩)
    (cTI : PySem.W.codeIn K cdFI "InvalidFact.__init__" = true)
    (kTI : PySem.W.keepIn K (.ref fFI) = true)
    (tabl : PySem.W.tabIn K "law" = some (cc, tt))
    (ntt : K.lookup tt = none)
    (gpa : PySem.W.nsIn K mainGlobals "PARTS" = some (some (.ref dp)))
    (gan : PySem.W.nsIn K mainGlobals "ANSWERS" = some (some (.ref da)))
    (lpa : K.lookup dp = some ⟨.type "dict", none, .dict #[⟨hk0, .str "spender" tk_0, .ref ta0⟩, ⟨hk1, .str "request" tk_1, .ref ta1⟩, ⟨hk2, .str "deposit" tk_2, .ref ta2⟩, ⟨hk3, .str "release" tk_3, .ref ta3⟩, ⟨hk4, .str "consent" tk_4, .ref ta4⟩, ⟨hk5, .str "refuse" tk_5, .ref ta5⟩, ⟨hk6, .str "withdrawn" tk_6, .ref ta6⟩] nD, #[]⟩)
    (low : (dp == sysModules) = false)
    (hkl : PySem.W.KeysLit w.params (#[⟨hk0, .str "spender" tk_0, .ref ta0⟩, ⟨hk1, .str "request" tk_1, .ref ta1⟩, ⟨hk2, .str "deposit" tk_2, .ref ta2⟩, ⟨hk3, .str "release" tk_3, .ref ta3⟩, ⟨hk4, .str "consent" tk_4, .ref ta4⟩, ⟨hk5, .str "refuse" tk_5, .ref ta5⟩, ⟨hk6, .str "withdrawn" tk_6, .ref ta6⟩] : Array DictEntry).toList)
    (lt0 : K.lookup ta0 = some ⟨.type "tuple", none, .seq #[.str "place" us0, .str "account" us1, .str "amount" us2] nt0, #[]⟩)
    (lt1 : K.lookup ta1 = some ⟨.type "tuple", none, .seq #[.str "place" us3, .str "account" us4, .str "amount" us5] nt1, #[]⟩)
    (lt2 : K.lookup ta2 = some ⟨.type "tuple", none, .seq #[.str "mark" us6, .str "account" us7, .str "amount" us8] nt2, #[]⟩)
    (lt3 : K.lookup ta3 = some ⟨.type "tuple", none, .seq #[.str "place" us9, .str "amount" us10] nt3, #[]⟩)
    (lt4 : K.lookup ta4 = some ⟨.type "tuple", none, .seq #[.str "place" us11, .str "place" us12] nt4, #[]⟩)
    (lt5 : K.lookup ta5 = some ⟨.type "tuple", none, .seq #[.str "place" us13, .str "place" us14] nt5, #[]⟩)
    (lt6 : K.lookup ta6 = some ⟨.type "tuple", none, .seq #[.str "place" us15] nt6, #[]⟩)
    (lan : K.lookup da = some ⟨.type "tuple", none, .seq #[.str "consent" us16, .str "refuse" us17] nA, #[]⟩)
    : ∃ (fd : FuncData) (c t : Addr), PySem.W.tabIn K "law" = some (c, t) ∧ K.lookup t = none ∧ Fun K "law" "law" sLaw fa fd ∧ fd.code = .ref c ∧ (∀ (s : Shared) (u : Value), BindsTo s fd ⟨[u], []⟩ [("_law_script", u)]) ∧
      ∀ (base : Heap) (A : Around) (s : Shared) (H : Hp) (a : Addr) (ns : List Int), ns.length ≤ 63 → Bed K mg base A → TabB base mg c t → H t = some (.tbl #[]) → Room 9 (A.deeper (envOfC "law" (defScope sLaw) s.heap.objs.size fa (.ref c))) → SqL K H a (ns.map V.int) →
        ∃ q, PSs (cxOf CX0 P w K mg base nLaw "law" (defScope sLaw) fa (.ref c) A [] s H E0).nox (defBody sLaw) q ∧ q { nx := fun _ _ => False, rt := fun v _ => v = .bl true } (L2.start nLaw [.ref a]) H := by
  have e := hfa.symm.trans (PySem.W.mg_of X G aq11)
  cases e
  have Fq0 := fun_mk (st := sBegun) lq0 cq0 kq0
  have mq0 := PySem.W.mg_of X G aq0
  have bq0 := Fq0.binds (ps := ["_law_script"]) fun _ _ _ _ _ _ us hl => match us, hl with | [_], _ => rfl
  have Fq1 := fun_mk (st := sMixed) lq1 cq1 kq1
  have mq1 := PySem.W.mg_of X G aq1
  have bq1 := Fq1.binds (ps := ["_law_state"]) fun _ _ _ _ _ _ us hl => match us, hl with | [_], _ => rfl
  have Fq2 := fun_mk (st := sTake) lq2 cq2 kq2
  have mq2 := PySem.W.mg_of X G aq2
  have bq2 := Fq2.binds (ps := ["_law_state", "_law_size"]) fun _ _ _ _ _ _ us hl => match us, hl with | [_, _], _ => rfl
  have Fq3 := fun_mk (st := sPick) lq3 cq3 kq3
  have mq3 := PySem.W.mg_of X G aq3
  have bq3 := Fq3.binds (ps := ["_law_state", "_law_some"]) fun _ _ _ _ _ _ us hl => match us, hl with | [_, _], _ => rfl
  have Fq4 := fun_mk (st := sWords) lq4 cq4 kq4
  have mq4 := PySem.W.mg_of X G aq4
  have bq4 := Fq4.binds (ps := ["_law_state", "_law_size"]) fun _ _ _ _ _ _ us hl => match us, hl with | [_, _], _ => rfl
  have Fq5 := fun_mk (st := sForest) lq5 cq5 kq5
  have mq5 := PySem.W.mg_of X G aq5
  have bq5 := Fq5.binds (ps := ["_law_state", "_law_most"]) fun _ _ _ _ _ _ us hl => match us, hl with | [_, _], _ => rfl
  have Fq6 := fun_mk (st := sInt) lq6 cq6 kq6
  have mq6 := PySem.W.mg_of X G aq6
  have bq6 := Fq6.binds (ps := ["value"]) fun _ _ _ _ _ _ us hl => match us, hl with | [_], _ => rfl
  have Fq7 := fun_mk (st := sName) lq7 cq7 kq7
  have mq7 := PySem.W.mg_of X G aq7
  have bq7 := Fq7.binds (ps := ["value"]) fun _ _ _ _ _ _ us hl => match us, hl with | [_], _ => rfl
  have Fq8 := fun_mk (st := sAmount) lq8 cq8 kq8
  have mq8 := PySem.W.mg_of X G aq8
  have bq8 := Fq8.binds (ps := ["value"]) fun _ _ _ _ _ _ us hl => match us, hl with | [_], _ => rfl
  have Fq9 := fun_mk (st := sRow) lq9 cq9 kq9
  have mq9 := PySem.W.mg_of X G aq9
  have bq9 := Fq9.binds (ps := ["value", "earlier"]) fun _ _ _ _ _ _ us hl => match us, hl with | [_, _], _ => rfl
  have Fq10 := fun_mk (st := sWrong) lq10 cq10 kq10
  have mq10 := PySem.W.mg_of X G aq10
  have bq10 := Fq10.binds (ps := ["rows"]) fun _ _ _ _ _ _ us hl => match us, hl with | [_], _ => rfl
  have Fq11 := fun_mk (st := sLaw) lq11 cq11 kq11
  have mq11 := PySem.W.mg_of X G aq11
  have bq11 := Fq11.binds (ps := ["_law_script"]) fun _ _ _ _ _ _ us hl => match us, hl with | [_], _ => rfl
  have Fq12 := fun_mk (st := sIsPlace) lq12 cq12 kq12
  have mq12 := PySem.W.mg_of X G aq12
  have bq12 := Fq12.binds (ps := ["value"]) fun _ _ _ _ _ _ us hl => match us, hl with | [_], _ => rfl
  have Fq13 := fun_mk (st := sIsPart) lq13 cq13 kq13
  have mq13 := PySem.W.mg_of X G aq13
  have bq13 := Fq13.binds (ps := ["part", "value", "forest"]) fun _ _ _ _ _ _ us hl => match us, hl with | [_, _, _], _ => rfl
  have Fq14 := fun_mk (st := sIsFact) lq14 cq14 kq14
  have mq14 := PySem.W.mg_of X G aq14
  have bq14 := Fq14.binds (ps := ["value", "forest"]) fun _ _ _ _ _ _ us hl => match us, hl with | [_, _], _ => rfl
  have Fq15 := fun_mk (st := sSupposedRows) lq15 cq15 kq15
  have mq15 := PySem.W.mg_of X G aq15
  have bq15 := Fq15.binds (ps := ["fact"]) fun _ _ _ _ _ _ us hl => match us, hl with | [_], _ => rfl
  have Fq16 := fun_mk (st := sContradicts) lq16 cq16 kq16
  have mq16 := PySem.W.mg_of X G aq16
  have bq16 := Fq16.binds (ps := ["row", "fact"]) fun _ _ _ _ _ _ us hl => match us, hl with | [_, _], _ => rfl
  have Fq17 := fun_mk (st := sSlot) lq17 cq17 kq17
  have mq17 := PySem.W.mg_of X G aq17
  have bq17 := Fq17.binds (ps := ["fact"]) fun _ _ _ _ _ _ us hl => match us, hl with | [_], _ => rfl
  have Fq18 := fun_mk (st := sTwinOf) lq18 cq18 kq18
  have mq18 := PySem.W.mg_of X G aq18
  have bq18 := Fq18.binds (ps := ["view"]) fun _ _ _ _ _ _ us hl => match us, hl with | [_], _ => rfl
  have Fq19 := fun_mk (st := sLFact) lq19 cq19 kq19
  have mq19 := PySem.W.mg_of X G aq19
  have bq19 := Fq19.binds (ps := ["_law_state", "_law_names", "_law_places", "_law_marks"]) fun _ _ _ _ _ _ us hl => match us, hl with | [_, _, _, _], _ => rfl
  have Fq20 := fun_mk (st := sLIsNumber) lq20 cq20 kq20
  have mq20 := PySem.W.mg_of X G aq20
  have bq20 := Fq20.binds (ps := ["_law_thing", "_law_most"]) fun _ _ _ _ _ _ us hl => match us, hl with | [_, _], _ => rfl
  have Fq21 := fun_mk (st := sLIsFact) lq21 cq21 kq21
  have mq21 := PySem.W.mg_of X G aq21
  have bq21 := Fq21.binds (ps := ["_law_names", "_law_thing"]) fun _ _ _ _ _ _ us hl => match us, hl with | [_, _], _ => rfl
  have Fq22 := fun_mk (st := sLRefusal) lq22 cq22 kq22
  have mq22 := PySem.W.mg_of X G aq22
  have bq22 := Fq22.binds (ps := ["_law_work"]) fun _ _ _ _ _ _ us hl => match us, hl with | [_], _ => rfl
  have Fq23 := fun_mk (st := sLStands) lq23 cq23 kq23
  have mq23 := PySem.W.mg_of X G aq23
  have bq23 := Fq23.binds (ps := ["_law_holder", "_law_own"]) fun _ _ _ _ _ _ us hl => match us, hl with | [_, _], _ => rfl
  have FI := fun_mk (st := sInit) lI cI kI
  have bI := FI.binds (ps := ["self", "rows"]) fun _ _ _ _ _ _ us hl => match us, hl with | [_, _], _ => rfl
  have FS := fun_mk (st := sNames) lS cS kS
  have bS := FS.binds (ps := ["self"]) fun _ _ _ _ _ _ us hl => match us, hl with | [_], _ => rfl
  have Z0 : FC K mg C fI (.type "type") := ⟨⟨pg, hd, po, sa⟩, ⟨mk, aI, iI, kc⟩, nP, ⟨rd, ga⟩, ⟨_, mo, ⟨_, rfl⟩⟩, ha, hn, ht, hm, kit_self, PySem.W.mg_of X G aC⟩
  have T : Names mg := ⟨(PySem.W.mg_none_of X G z0), (PySem.W.mg_none_of X G z1), (PySem.W.mg_none_of X G z2), (PySem.W.mg_none_of X G z3), (PySem.W.mg_none_of X G z4), (PySem.W.mg_none_of X G z5), (PySem.W.mg_none_of X G z6), (PySem.W.mg_none_of X G z7), (PySem.W.mg_none_of X G z8), (PySem.W.mg_none_of X G z9), (PySem.W.mg_none_of X G z10), (PySem.W.mg_none_of X G z11), (PySem.W.mg_none_of X G z12), (PySem.W.mg_none_of X G z13), ⟨_, PySem.W.mg_of X G kg0⟩, ⟨_, PySem.W.mg_of X G kg1⟩, ⟨_, PySem.W.mg_of X G kg2⟩⟩
  refine ⟨_, cc, tt, tabl, ntt, Fq11, rfl, fun s v => .of_eq rfl, fun base A s H a ns hl B TB hTt hr hS => ?_⟩
  have GM : FnOk P w K mg base CX0 1 _ _ ["_law_state"] (spMixed ns) := ok_mixed ns Fq1
  have GT : FnOk P w K mg base CX0 2 _ _ ["_law_state", "_law_size"] (spTake ns) := ok_take ns Fq2 GM bq1 kq1 mq1
  have GP : FnOk P w K mg base CX0 3 _ _ ["_law_state", "_law_some"] (spPick K ns) := ok_pick ns Fq3 GT bq2 kq2 mq2 T.len
  have R : Draw P w K mg base ns fq2 fq3 _ _ := ⟨GT, bq2, kq2, mq2, GP, bq3, kq3, mq3, T.len, T.range⟩
  have GW := ok_words (P := P) (w := w) (base := base) ns Fq4 R
  have GF := ok_forest (P := P) (w := w) (base := base) ns Fq5 R GW bq4 kq4 mq4
  have GN : FnOk P w K mg base CX0 1 _ _ ["value"] spName := ok_name Fq7 T
  have GO := ok_row (P := P) (w := w) (base := base) Fq9 T GN bq7 kq7 mq7
  have GX := ok_wrong (P := P) (w := w) (base := base) Fq10 T GO bq9 kq9 mq9
  have GI := ok_init (P := P) (w := w) (base := base) FI T Z0 GX bq10 kq10 mq10
  have GS := ok_names (P := P) (w := w) (base := base) FS T Z0
  have hS' : PropOf K C "names" pS fS := ⟨aS, gS, tS, ⟨_, rS⟩⟩
  have GJ := ok_int (P := P) (w := w) (base := base) Fq6 T
  have GQ := ok_amount (P := P) (w := w) (base := base) Fq8 T GJ bq6 kq6 mq6
  have FNI := fun_mk (st := sNtInit) lNI cNI kNI
  have bNI := FNI.binds (ps := ["self"]) fun _ _ _ _ _ _ us hl => match us, hl with | [_], _ => rfl
  have FNT := fun_mk (st := sNtTwin) lNT cNT kNT
  have bNT := FNT.binds (ps := ["self"]) fun _ _ _ _ _ _ us hl => match us, hl with | [_], _ => rfl
  have FNR := fun_mk (st := sNtRowAt) lNR cNR kNR
  have bNR := FNR.binds (ps := ["self", "place"]) fun _ _ _ _ _ _ us hl => match us, hl with | [_, _], _ => rfl
  have FNO := fun_mk (st := sNtRulesOut) lNO cNO kNO
  have bNO := FNO.binds (ps := ["self", "fact"]) fun _ _ _ _ _ _ us hl => match us, hl with | [_, _], _ => rfl
  have FNK := fun_mk (st := sNtTake) lNK cNK kNK
  have bNK := FNK.binds (ps := ["self", "fact"]) fun _ _ _ _ _ _ us hl => match us, hl with | [_, _], _ => rfl
  have FVI := fun_mk (st := sVwInit) lVI cVI kVI
  have bVI := FVI.binds (ps := ["self", "forest"]) fun _ _ _ _ _ _ us hl => match us, hl with | [_, _], _ => rfl
  have FVL := fun_mk (st := sVwLearn) lVL cVL kVL
  have FVF := fun_mk (st := sVwFacts) lVF cVF kVF
  have bVF := FVF.binds (ps := ["self"]) fun _ _ _ _ _ _ us hl => match us, hl with | [_], _ => rfl
  have FSP := fun_mk (st := sSpPlace) lSP cSP kSP
  have bSP := FSP.binds (ps := ["self"]) fun _ _ _ _ _ _ us hl => match us, hl with | [_], _ => rfl
  have FSS := fun_mk (st := sSpSpent) lSS cSS kSS
  have bSS := FSS.binds (ps := ["self"]) fun _ _ _ _ _ _ us hl => match us, hl with | [_], _ => rfl
  have FSV := fun_mk (st := sSpView) lSV cSV kSV
  have bSV := FSV.binds (ps := ["self"]) fun _ _ _ _ _ _ us hl => match us, hl with | [_], _ => rfl
  have FSL := fun_mk (st := sSpLog) lSL cSL kSL
  have bSL := FSL.binds (ps := ["self"]) fun _ _ _ _ _ _ us hl => match us, hl with | [_], _ => rfl
  have FTI := fun_mk (st := sFxInit) lTI cTI kTI
  have bTI := FTI.binds (ps := ["self", "index"]) fun _ _ _ _ _ _ us hl => match us, hl with | [_, _], _ => rfl
  have ZCN : NC K CN := ⟨⟨pgCN, hdCN, poCN, saCN⟩, nCNknown, nCNtaken, nCNsupposed, nCNreleased, nCNdeposited⟩
  have ZCV : VC K CV := ⟨⟨pgCV, hdCV, poCV, saCV⟩, nCV_forest, nCV_notes⟩
  have ZCS : SC K CS := ⟨⟨pgCS, hdCS, poCS, saCS⟩, nCS_forest, nCS_row, nCS_rule, nCS_spent, nCS_log, nCS_view⟩
  have YF : XN K mg "InvalidFact" "index" CF fFI := ⟨⟨⟨_, _, _, _, _, _, _, _, _, _, _, _, _, _, _, lCT, rbT⟩, saT, sCF, uCF, qCF⟩, PySem.W.mg_of X G CF_a, aTI, tTI, nT_⟩
  have YR : XE1 K mg "UnknownRule" CR := ⟨eCR, PySem.W.mg_of X G CR_a, qCR, sCR, uCR⟩
  have Y : XRc K mg CP CF CR := ⟨PySem.W.mg_of X G CP_a, PySem.W.mg_of X G CF_a, PySem.W.mg_of X G CR_a, (PySem.W.mg_none_of X G z14), ⟨⟨gCF, hCF, sCF, dCF, xCF, hn, ht, yCF⟩, PySem.W.exm_ref sP dP uP sCFP, kit_self, kit_ref dCR uCR nFR sFR, kit_typ (by decide +kernel) sCFV⟩, ⟨⟨gCR, hCR, sCR, dCR, xCR, hn, ht, yCR⟩, PySem.W.exm_ref sP dP uP sCRP, kit_ref dCF uCF nRF sRF, kit_self, kit_typ (by decide +kernel) sCRV⟩, ⟨gCF, hCF, sCF, dCF⟩, nT_⟩
  have sq : ∀ {a : Addr} {its : Array Value} {n : Nat} {xs : List V}, K.lookup a = some ⟨.type "tuple", none, .seq its n, #[]⟩ → its.size ≤ 1000 → Vals xs its.toList → ∀ H : Hp, SqT K H a xs := fun hl hz hv H => .inr ⟨_, _, _, hl, rfl, rfl, by rw [sizeLine_eq]; omega, hv⟩
  have v1 : ∀ {x : Str} {t : Tok}, RelV (.str x) (.str x t) := ⟨_, rfl⟩
  have sU : ∀ H, SqT K H tU (rulesL.map V.str) := sq lU_ (by show 7 ≤ 1000; decide) (.cons v1 (.cons v1 (.cons v1 (.cons v1 (.cons v1 (.cons v1 (.cons v1 .nil)))))))
  have FNm : FactN K mg := ⟨⟨tR, PySem.W.mg_of X G gR_, sq lR_ (by show 2 ≤ 1000; decide) (.cons v1 (.cons v1 .nil))⟩, ⟨da, PySem.W.mg_of X G gan, sq lan (by show 2 ≤ 1000; decide) (.cons v1 (.cons v1 .nil))⟩, (PySem.W.mg_none_of X G z15), (PySem.W.mg_none_of X G z16)⟩
  have Z3 : Fo3 P w K mg base C fI pS fS (.type "type") _ := ⟨Z0, hS', GS, bS⟩
  have PT : Parts K w mg dp da _ _ := parts_mk (PySem.W.mg_of X G gpa) (PySem.W.mg_of X G gan) lpa low hkl lt0 lt1 lt2 lt3 lt4 lt5 lt6 lan
  have GPl := ok_place (P := P) (w := w) (base := base) Fq12 T ⟨_, PySem.W.mg_of X G kg3⟩ GJ bq6 kq6 mq6
  have GPa := ok_part (P := P) (w := w) (base := base) Fq13 T Z3 ⟨_, PySem.W.mg_of X G kg4⟩ GJ bq6 kq6 mq6 GQ bq8 kq8 mq8 GPl bq12 kq12 mq12
  have GIf := ok_isFact (P := P) (w := w) (base := base) Fq14 T PT GPa bq13 kq13 mq13
  have GLf := ok_lfact (P := P) (w := w) (base := base) ns Fq19 R
  have GNu := ok_lnum (P := P) (w := w) (base := base) Fq20 T
  have GLi := ok_lfa (P := P) (w := w) (base := base) Fq21 T GNu bq20 kq20 mq20
  have GSu := ok_sup (P := P) (w := w) (base := base) Fq15 FNm
  have GCo := ok_contr (P := P) (w := w) (base := base) Fq16 FNm GSu bq15 kq15 mq15
  have GSl := ok_slot (P := P) (w := w) (base := base) Fq17 FNm
  have GNI := ok_ntInit (mg := mg) (P := P) (w := w) (base := base) FNI ZCN
  have MN : NMk P w K mg base CN fNI _ := ⟨ZCN, ⟨mkCN, aNI, iNI, kcCN⟩, PySem.W.mg_of X G aCN, GNI, bNI⟩
  have GNT := ok_ntTwin (P := P) (w := w) (base := base) FNT T MN
  have GNR := ok_ntRowAt (mg := mg) (P := P) (w := w) (base := base) FNR ZCN
  have GNO := ok_ntRules (P := P) (w := w) (base := base) FNO FNm ZCN ⟨aNR, iNR, kNR⟩ GSl bq17 kq17 mq17 GSu bq15 kq15 mq15 GCo bq16 kq16 mq16 GNR bNR
  have GNK := ok_ntTake (P := P) (w := w) (base := base) FNK FNm ZCN GSl bq17 kq17 mq17 GSu bq15 kq15 mq15
  have NM_ : NM P w K mg base CN fNT fNO fNK _ _ _ := ⟨⟨aNT, iNT, kNT⟩, ⟨aNO, iNO, kNO⟩, ⟨aNK, iNK, kNK⟩, GNT, GNO, GNK, bNT, bNO, bNK⟩
  have GVI := ok_vwInit (P := P) (w := w) (base := base) FVI ZCV MN
  have VM : VMk P w K mg base CV CN fVI _ := ⟨ZCV, ⟨mkCV, aVI, iVI, kcCV⟩, PySem.W.mg_of X G aCV, GVI, bVI⟩
  have GFI := ok_fi (P := P) (w := w) (base := base) FTI YF
  have GL0 := learn_R (P := P) (w := w) (base := base) FVL T ZCV MN NM_ YF GFI bTI GIf bq14 kq14 mq14 fun kV doc pm an cdv ct => StX.bind_star1 (B := fun us => bindArgs (PySem.W.fnOf "learn" "View.learn" (defArgs sVwLearn) (defBody sVwLearn) (defScope sVwLearn) .none kV doc pm an cdv ct) ⟨us, []⟩) (fun _ => rfl) (fun _ _ _ => rfl)
  have GLe := learn1_R GL0
  have mLe : Meth K CV "learn" fVL := ⟨aVL, iVL, kVL⟩
  have GVF := ok_vwFacts (P := P) (w := w) (base := base) FVF (PySem.W.mg_none_of X G z17) ZCV ZCN
  have GTw := ok_twinOf (P := P) (w := w) (base := base) Fq18 VM
  have GSP := ok_spPlace (mg := mg) (P := P) (w := w) (base := base) FSP ZCS
  have GSS := ok_spSpent (mg := mg) (P := P) (w := w) (base := base) FSS ZCS
  have GSL := ok_spLog (mg := mg) (P := P) (w := w) (base := base) FSL T ZCS
  have GSV := ok_spView (P := P) (w := w) (base := base) FSV ZCS GTw bq18 kq18 mq18
  have OO : SO P w K mg base CS CV CN pSV fSV pSL fSL pSP fSP pSS fSS pVF fVF _ _ _ _ _ := ⟨⟨aSV, gSV, tSV, ⟨_, rSV⟩⟩, GSV, bSV, ⟨aSL, gSL, tSL, ⟨_, rSL⟩⟩, GSL, bSL, ⟨aSP, gSP, tSP, ⟨_, rSP⟩⟩, GSP, bSP, ⟨aSS, gSS, tSS, ⟨_, rSS⟩⟩, GSS, bSS, ⟨aVF, gVF, tVF, ⟨_, rVF⟩⟩, GVF, bVF⟩
  have FD_ : FunD K "__init__" "Spender.__init__" (defArgs sSpInit) (defBody sSpInit) (defScope sSpInit) [] [("rule", V.str "correct")] fSI _ := ⟨⟨_, _, .none, .ref DK, _, _, _, _, _, _, rfl, lSI, cSI, .inl ⟨rfl, rfl⟩, .inr ⟨DK, rfl, fun q hq => by rw [List.mem_singleton.mp hq]; exact ⟨_, kwR, ⟨_, rfl⟩⟩⟩⟩, kSI⟩
  have GSI : FnOk P w K mg base (L2.CX P w) 6 fSI _ ["self", "forest", "row", "rule"] (spSpInit C CV CN CF CR CS) := FD_.ok scSpInit (fun vs H Q E h => by obtain ⟨x, fo, dx, d0, g0, d1, g1, vr, vz, o, yz, rs, rfl, _⟩ := h; rfl) fun cdv A outer s H vs Q E hr h => body_spInit T VM ZCS YF YR (PySem.W.mg_of X G gU_) sU GFI bTI GIf bq14 kq14 mq14 mLe GLe cdv A outer s H vs Q E hr h
  obtain ⟨ds0, vds, bSI⟩ := FD_.binds0 (ps := ["self", "forest", "row", "rule"]) 3 (by simp) rfl fun D doc pm an cdv ct us ks h1 h2 => match us, ks, h1, h2 with | [_, _, _], [_], _, _ => ⟨_, _, _, _, _, _, rfl, rfl, rfl⟩
  have FK1 : KBn K _ ["self", "forest", "row", "rule"] 3 ["rule"] (fun us ws => us ++ ws) (fun vs zs => vs ++ zs) := kb_of (FD_.kbinds0 (ps := ["self", "forest", "row", "rule"]) 3 ["rule"] [] (fun us _ ws => us ++ ws) (by simp) (fun q hq => by cases hq) (fun a _ b => a.append b) fun D doc pm an cdv ct us mv ws h1 h2 h3 => match us, mv, ws, h1, h2, h3 with | [_, _, _], [], [_], _, _, _ => rfl)
  have FK3 : KBn K _ ["self", "forest", "row", "rule"] 1 ["rule", "row", "forest"] (fun us ws => us ++ ws.reverse) (fun vs zs => vs ++ zs.reverse) := kb_of (FD_.kbinds0 (ps := ["self", "forest", "row", "rule"]) 1 ["rule", "row", "forest"] [] (fun us _ ws => us ++ ws.reverse) (by simp) (fun q hq => by cases hq) (fun a _ b => a.append (vals_rev b)) fun D doc pm an cdv ct us mv ws h1 h2 h3 => match us, mv, ws, h1, h2, h3 with | [_], [], [_, _, _], _, _, _ => rfl)
  have SM : SpM P w K mg base C CV CN CF CR CS fSI _ ds0 := ⟨ZCS, ⟨mkCS, aSI, iSI, kcCS⟩, PySem.W.mg_of X G aCS, GSI, bSI, vds, FK1, FK3⟩
  have GPc := ok_pickC (P := P) (w := w) (base := base) ns Fq3 GT bq2 kq2 mq2 T.len
  exact ok_law hl B hr hS TB hTt Y lq22 cq22 bq22 kq22 mq22 R T Z0 GPc GI bI (ok_begun ns Fq0 T.list) bq0 kq0 mq0 GF bq5 kq5 mq5 GLf bq19 kq19 mq19 GLi bq21 kq21 mq21 SM ZCV OO mLe GLe Fq23 bq23 kq23 mq23 ⟨_, PySem.W.mg_of X G kg5⟩ (PySem.W.mg_of X G gU_) sU
end Lw
open PySem PySem.W PyProof.Rows
set_option maxRecDepth 100000 in
set_option maxHeartbeats 0 in
theorem PySem.Challenge.cw_hearpurse_k27_spenders_made_holds : PySem.Challenge.rw_hearpurse_k27_spenders_made.Holds := by
  w_on; o_law; k_head; (case hw => w_witness2)
  k_fill
  refine Ga.walk_lawT (l := PySem.Challenge.rw_hearpurse_k27_spenders_made) (n := 63) (k := 9) (x := "_law_script") (st := Lw.sLaw) (N := Lw.nLaw) rfl (by decide) rfl rfl ⟨rfl, by decide, by decide⟩ (by decide +kernel) rfl Lw.scLaw (fun w h Y => PySem.W.km_in_of Y) ?F
  case F =>
    intro w mg fa h KX G hmg
    refine' Lw.all_mk KX G hmg ?aq0 ?lq0 ?cq0 ?kq0 ?aq1 ?lq1 ?cq1 ?kq1 ?aq2 ?lq2 ?cq2 ?kq2 ?aq3 ?lq3 ?cq3 ?kq3 ?aq4 ?lq4 ?cq4 ?kq4 ?aq5 ?lq5 ?cq5 ?kq5 ?aq6 ?lq6 ?cq6 ?kq6 ?aq7 ?lq7 ?cq7 ?kq7 ?aq8 ?lq8 ?cq8 ?kq8 ?aq9 ?lq9 ?cq9 ?kq9 ?aq10 ?lq10 ?cq10 ?kq10 ?aq11 ?lq11 ?cq11 ?kq11 ?aq12 ?lq12 ?cq12 ?kq12 ?aq13 ?lq13 ?cq13 ?kq13 ?aq14 ?lq14 ?cq14 ?kq14 ?aq15 ?lq15 ?cq15 ?kq15 ?aq16 ?lq16 ?cq16 ?kq16 ?aq17 ?lq17 ?cq17 ?kq17 ?aq18 ?lq18 ?cq18 ?kq18 ?aq19 ?lq19 ?cq19 ?kq19 ?aq20 ?lq20 ?cq20 ?kq20 ?aq21 ?lq21 ?cq21 ?kq21 ?aq22 ?lq22 ?cq22 ?kq22 ?aq23 ?lq23 ?cq23 ?kq23 ?aC ?aI ?iI ?lI ?cI ?kI ?aS ?gS ?tS ?rS ?lS ?cS ?kS ?pg ?hd ?po ?sa ?mk ?kc ?nP ?rd ?ga ?mo ?ha ?hn ?ht ?hm ?kg0 ?kg1 ?kg2 ?kg3 ?kg4 ?kg5 ?z0 ?z1 ?z2 ?z3 ?z4 ?z5 ?z6 ?z7 ?z8 ?z9 ?z10 ?z11 ?z12 ?z13 ?z14 ?z15 ?z16 ?z17 ?aCN ?pgCN ?hdCN ?poCN ?saCN ?mkCN ?kcCN ?nCNknown ?nCNtaken ?nCNsupposed ?nCNreleased ?nCNdeposited ?aCV ?pgCV ?hdCV ?poCV ?saCV ?mkCV ?kcCV ?nCV_forest ?nCV_notes ?aCS ?pgCS ?hdCS ?poCS ?saCS ?mkCS ?kcCS ?nCS_forest ?nCS_row ?nCS_rule ?nCS_spent ?nCS_log ?nCS_view ?aNI ?iNI ?lNI ?cNI ?kNI ?aNT ?iNT ?lNT ?cNT ?kNT ?aNR ?iNR ?lNR ?cNR ?kNR ?aNO ?iNO ?lNO ?cNO ?kNO ?aNK ?iNK ?lNK ?cNK ?kNK ?aVI ?iVI ?lVI ?cVI ?kVI ?aVL ?iVL ?lVL ?cVL ?kVL ?aVF ?gVF ?tVF ?rVF ?lVF ?cVF ?kVF ?aSI ?iSI ?lSI ?cSI ?kSI ?aSP ?gSP ?tSP ?rSP ?lSP ?cSP ?kSP ?aSS ?gSS ?tSS ?rSS ?lSS ?cSS ?kSS ?aSV ?gSV ?tSV ?rSV ?lSV ?cSV ?kSV ?aSL ?gSL ?tSL ?rSL ?lSL ?cSL ?kSL ?kwR ?gU_ ?lU_ ?gR_ ?lR_ ?CF_a ?CR_a ?CP_a ?qCF ?sCF ?gCF ?hCF ?xCF ?yCF ?sCFP ?sCFV ?dCF ?uCF ?qCR ?sCR ?gCR ?hCR ?xCR ?yCR ?sCRP ?sCRV ?dCR ?uCR ?nFR ?nRF ?sFR ?sRF ?eCR ?sP ?dP ?uP ?lCT ?rbT ?saT ?nT_ ?aTI ?tTI ?lTI ?cTI ?kTI ?tabl ?ntt ?gpa ?gan ?lpa ?low ?hkl ?lt0 ?lt1 ?lt2 ?lt3 ?lt4 ?lt5 ?lt6 ?lan
    (case aq0 => k_is)
    (case lq0 => k_is)
    (case cq0 => k_is)
    (case kq0 => k_is)
    (case aq1 => k_is)
    (case lq1 => k_is)
    (case cq1 => k_is)
    (case kq1 => k_is)
    (case aq2 => k_is)
    (case lq2 => k_is)
    (case cq2 => k_is)
    (case kq2 => k_is)
    (case aq3 => k_is)
    (case lq3 => k_is)
    (case cq3 => k_is)
    (case kq3 => k_is)
    (case aq4 => k_is)
    (case lq4 => k_is)
    (case cq4 => k_is)
    (case kq4 => k_is)
    (case aq5 => k_is)
    (case lq5 => k_is)
    (case cq5 => k_is)
    (case kq5 => k_is)
    (case aq6 => k_is)
    (case lq6 => k_is)
    (case cq6 => k_is)
    (case kq6 => k_is)
    (case aq7 => k_is)
    (case lq7 => k_is)
    (case cq7 => k_is)
    (case kq7 => k_is)
    (case aq8 => k_is)
    (case lq8 => k_is)
    (case cq8 => k_is)
    (case kq8 => k_is)
    (case aq9 => k_is)
    (case lq9 => k_is)
    (case cq9 => k_is)
    (case kq9 => k_is)
    (case aq10 => k_is)
    (case lq10 => k_is)
    (case cq10 => k_is)
    (case kq10 => k_is)
    (case aq11 => k_is)
    (case lq11 => k_is)
    (case cq11 => k_is)
    (case kq11 => k_is)
    (case aq12 => k_is)
    (case lq12 => k_is)
    (case cq12 => k_is)
    (case kq12 => k_is)
    (case aq13 => k_is)
    (case lq13 => k_is)
    (case cq13 => k_is)
    (case kq13 => k_is)
    (case aq14 => k_is)
    (case lq14 => k_is)
    (case cq14 => k_is)
    (case kq14 => k_is)
    (case aq15 => k_is)
    (case lq15 => k_is)
    (case cq15 => k_is)
    (case kq15 => k_is)
    (case aq16 => k_is)
    (case lq16 => k_is)
    (case cq16 => k_is)
    (case kq16 => k_is)
    (case aq17 => k_is)
    (case lq17 => k_is)
    (case cq17 => k_is)
    (case kq17 => k_is)
    (case aq18 => k_is)
    (case lq18 => k_is)
    (case cq18 => k_is)
    (case kq18 => k_is)
    (case aq19 => k_is)
    (case lq19 => k_is)
    (case cq19 => k_is)
    (case kq19 => k_is)
    (case aq20 => k_is)
    (case lq20 => k_is)
    (case cq20 => k_is)
    (case kq20 => k_is)
    (case aq21 => k_is)
    (case lq21 => k_is)
    (case cq21 => k_is)
    (case kq21 => k_is)
    (case aq22 => k_is)
    (case lq22 => k_is)
    (case cq22 => k_is)
    (case kq22 => k_is)
    (case aq23 => k_is)
    (case lq23 => k_is)
    (case cq23 => k_is)
    (case kq23 => k_is)
    (case aC => k_is)
    (case aI => k_is)
    (case iI => k_is)
    (case lI => k_is)
    (case cI => k_is)
    (case kI => k_is)
    (case aS => k_is)
    (case gS => k_is)
    (case tS => k_is)
    (case rS => k_is)
    (case lS => k_is)
    (case cS => k_is)
    (case kS => k_is)
    (case pg => k_is)
    (case hd => k_is)
    (case po => k_is)
    (case sa => k_is)
    (case mk => k_is)
    (case kc => k_is)
    (case nP => k_is)
    (case rd => k_is)
    (case ga => k_is)
    (case mo => k_is)
    (case ha => k_is)
    (case hn => k_is)
    (case ht => k_is)
    (case hm => k_is)
    (case kg0 => k_is)
    (case kg1 => k_is)
    (case kg2 => k_is)
    (case kg3 => k_is)
    (case kg4 => k_is)
    (case kg5 => k_is)
    (case z0 => k_is)
    (case z1 => k_is)
    (case z2 => k_is)
    (case z3 => k_is)
    (case z4 => k_is)
    (case z5 => k_is)
    (case z6 => k_is)
    (case z7 => k_is)
    (case z8 => k_is)
    (case z9 => k_is)
    (case z10 => k_is)
    (case z11 => k_is)
    (case z12 => k_is)
    (case z13 => k_is)
    (case z14 => k_is)
    (case z15 => k_is)
    (case z16 => k_is)
    (case z17 => k_is)
    (case aCN => k_is)
    (case pgCN => k_is)
    (case hdCN => k_is)
    (case poCN => k_is)
    (case saCN => k_is)
    (case mkCN => k_is)
    (case kcCN => k_is)
    (case nCNknown => k_is)
    (case nCNtaken => k_is)
    (case nCNsupposed => k_is)
    (case nCNreleased => k_is)
    (case nCNdeposited => k_is)
    (case aCV => k_is)
    (case pgCV => k_is)
    (case hdCV => k_is)
    (case poCV => k_is)
    (case saCV => k_is)
    (case mkCV => k_is)
    (case kcCV => k_is)
    (case nCV_forest => k_is)
    (case nCV_notes => k_is)
    (case aCS => k_is)
    (case pgCS => k_is)
    (case hdCS => k_is)
    (case poCS => k_is)
    (case saCS => k_is)
    (case mkCS => k_is)
    (case kcCS => k_is)
    (case nCS_forest => k_is)
    (case nCS_row => k_is)
    (case nCS_rule => k_is)
    (case nCS_spent => k_is)
    (case nCS_log => k_is)
    (case nCS_view => k_is)
    (case aNI => k_is)
    (case iNI => k_is)
    (case lNI => k_is)
    (case cNI => k_is)
    (case kNI => k_is)
    (case aNT => k_is)
    (case iNT => k_is)
    (case lNT => k_is)
    (case cNT => k_is)
    (case kNT => k_is)
    (case aNR => k_is)
    (case iNR => k_is)
    (case lNR => k_is)
    (case cNR => k_is)
    (case kNR => k_is)
    (case aNO => k_is)
    (case iNO => k_is)
    (case lNO => k_is)
    (case cNO => k_is)
    (case kNO => k_is)
    (case aNK => k_is)
    (case iNK => k_is)
    (case lNK => k_is)
    (case cNK => k_is)
    (case kNK => k_is)
    (case aVI => k_is)
    (case iVI => k_is)
    (case lVI => k_is)
    (case cVI => k_is)
    (case kVI => k_is)
    (case aVL => k_is)
    (case iVL => k_is)
    (case lVL => k_is)
    (case cVL => k_is)
    (case kVL => k_is)
    (case aVF => k_is)
    (case gVF => k_is)
    (case tVF => k_is)
    (case rVF => k_is)
    (case lVF => k_is)
    (case cVF => k_is)
    (case kVF => k_is)
    (case aSI => k_is)
    (case iSI => k_is)
    (case lSI => k_is)
    (case cSI => k_is)
    (case kSI => k_is)
    (case aSP => k_is)
    (case gSP => k_is)
    (case tSP => k_is)
    (case rSP => k_is)
    (case lSP => k_is)
    (case cSP => k_is)
    (case kSP => k_is)
    (case aSS => k_is)
    (case gSS => k_is)
    (case tSS => k_is)
    (case rSS => k_is)
    (case lSS => k_is)
    (case cSS => k_is)
    (case kSS => k_is)
    (case aSV => k_is)
    (case gSV => k_is)
    (case tSV => k_is)
    (case rSV => k_is)
    (case lSV => k_is)
    (case cSV => k_is)
    (case kSV => k_is)
    (case aSL => k_is)
    (case gSL => k_is)
    (case tSL => k_is)
    (case rSL => k_is)
    (case lSL => k_is)
    (case cSL => k_is)
    (case kSL => k_is)
    (case kwR => k_is)
    (case gU_ => k_is)
    (case lU_ => k_is)
    (case gR_ => k_is)
    (case lR_ => k_is)
    (case CF_a => k_is)
    (case CR_a => k_is)
    (case CP_a => k_is)
    (case qCF => k_is)
    (case sCF => k_is)
    (case gCF => k_is)
    (case hCF => k_is)
    (case xCF => k_is)
    (case yCF => k_is)
    (case sCFP => k_is)
    (case sCFV => k_is)
    (case dCF => k_is)
    (case uCF => k_is)
    (case qCR => k_is)
    (case sCR => k_is)
    (case gCR => k_is)
    (case hCR => k_is)
    (case xCR => k_is)
    (case yCR => k_is)
    (case sCRP => k_is)
    (case sCRV => k_is)
    (case dCR => k_is)
    (case uCR => k_is)
    (case nFR => with_unfolding_all rfl)
    (case nRF => with_unfolding_all rfl)
    (case sFR => k_is)
    (case sRF => k_is)
    (case eCR => k_exc)
    (case sP => k_is)
    (case dP => k_is)
    (case uP => k_is)
    (case lCT => k_is)
    (case rbT => with_unfolding_all rfl)
    (case saT => k_is)
    (case nT_ => k_is)
    (case aTI => k_is)
    (case tTI => k_is)
    (case lTI => k_is)
    (case cTI => k_is)
    (case kTI => k_is)
    (case tabl => first | k_is | rfl | with_unfolding_all rfl)
    (case ntt => first | k_is | rfl | with_unfolding_all rfl)
    (case gpa => k_is)
    (case gan => k_is)
    (case lpa => k_is)
    (case low => first | k_is | rfl | decide)
    (case hkl => exact ⟨⟨_, _, rfl, rfl⟩, ⟨_, _, rfl, rfl⟩, ⟨_, _, rfl, rfl⟩, ⟨_, _, rfl, rfl⟩, ⟨_, _, rfl, rfl⟩, ⟨_, _, rfl, rfl⟩, ⟨_, _, rfl, rfl⟩, trivial⟩)
    (case lt0 => k_is)
    (case lt1 => k_is)
    (case lt2 => k_is)
    (case lt3 => k_is)
    (case lt4 => k_is)
    (case lt5 => k_is)
    (case lt6 => k_is)
    (case lan => k_is)

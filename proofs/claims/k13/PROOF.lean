import PyProof.Rows.All
import Wide.All
import OpenK.AllK
import Wide.FinOn
import HandS.Base
import HandS.Call
import HandS.List
import HandS.Comp
import HandS.Ends
import HandS.Dict
import HandS.Iter
import HandS.Words
import HandS.Wide
import PyProof.ReprRoads
import HandS.ForMost
import HandS.IsInst
import HandS.Walk
import PyProof.ReprLen
import PyProof.StrLawsRepr
import HandS.ClsMeth
import HandS.Property
import HandS.OwnEq
import HandS.DictComp
import HandS.Conv
import HandS.FStr
import PyProof.InstNe
import HandS.Text
import KE.KDictList
import HandS.Flow
import HandS.Zip
import HandS.Sort
import HandS.TupLe
import KE.KSortTupG
import PyProof.FString5
import KE.GoesNew
import KE.GoesEnum
import HandS.Rev
import HandS.Deep
import KE.DataFind
import PyProof.NeKinds
import PySem.Challenge.RW_hearpurse_k13_whole_units_matched
set_option Elab.async false
set_option linter.all false
set_option maxRecDepth 100000
set_option maxHeartbeats 4000000
namespace Gn
open PySem PySem.Spec PyProof.Rows L2

/-! ## heaps -/
theorem new_same {H : Hp} {p : Addr} {o : HO} (h : H p = none) : ∀ b u, H b = some u → upd H p o b = some u := by
  intro b u e
  rw [upd_ne (ne_of_none e h)]
  exact e
/-- the heap less two objects: those of the draws -/
def Rs (d g : Addr) (H : Hp) : Hp := fun a => if a = d ∨ a = g then none else H a
section
variable {d g a p : Addr} {H H' H2 : Hp} {o u : HO}
theorem rs_of (h : Rs d g H a = some o) : H a = some o ∧ a ≠ d ∧ a ≠ g := by
  unfold Rs at h
  by_cases c : a = d ∨ a = g
  · rw [if_pos c] at h; cases h
  · rw [if_neg c] at h
    exact ⟨h, fun e => c (.inl e), fun e => c (.inr e)⟩
theorem rs_to (h : H a = some o) (h1 : a ≠ d) (h2 : a ≠ g) : Rs d g H a = some o := by
  unfold Rs
  rw [if_neg (fun c => c.elim h1 h2)]
  exact h
/-- all that is no draw's stands -/
def Kp (d g : Addr) (H H' : Hp) : Prop := ∀ a o, a ≠ d → a ≠ g → H a = some o → H' a = some o
theorem Kp.refl : Kp d g H H := fun _ _ _ _ e => e
theorem Kp.trans (h : Kp d g H H') (k : Kp d g H' H2) : Kp d g H H2 := fun a o n1 n2 e => k a o n1 n2 (h a o n1 n2 e)
theorem Kp.new (hp : H p = none) : Kp d g H (upd H p o) := fun a u _ _ e => new_same hp a u e
theorem Kp.of (h : ∀ a o, H a = some o → H' a = some o) : Kp d g H H' := fun a o _ _ e => h a o e
theorem Kp.at_d : Kp d g H (upd H d o) := fun a u n1 _ e => by rw [upd_ne n1]; exact e
theorem Kp.at_g : Kp d g H (upd H g o) := fun a u _ n2 e => by rw [upd_ne n2]; exact e
end

/-! ## the draws' state -/
def kG : Key := Sum.inr ("great" : Str)
def kC : Key := Sum.inr ("cells" : Str)
def kL : Key := Sum.inr ("left" : Str)
def kT : Key := Sum.inr ("turn" : Str)
def dk (g c : Addr) (l t : Int) : List (Key × V) := [(kG, .ref g), (kC, .ref c), (kL, .int l), (kT, .int t)]
section
variable {g c : Addr} {l t z : Int} {H : Hp} {d : Addr}
theorem nGC : ¬ kG = kC := by decide +kernel
theorem nGL : ¬ kG = kL := by decide +kernel
theorem nGT : ¬ kG = kT := by decide +kernel
theorem nCL : ¬ kC = kL := by decide +kernel
theorem nCT : ¬ kC = kT := by decide +kernel
theorem nLT : ¬ kL = kT := by decide +kernel
theorem dk_g : valV (dk g c l t) kG = some (.ref g) := valV_pos rfl
theorem dk_c : valV (dk g c l t) kC = some (.ref c) := (valV_neg nGC).trans (valV_pos rfl)
theorem dk_l : valV (dk g c l t) kL = some (.int l) := (valV_neg nGL).trans ((valV_neg nCL).trans (valV_pos rfl))
theorem dk_t : valV (dk g c l t) kT = some (.int t) := (valV_neg nGT).trans ((valV_neg nCT).trans ((valV_neg nLT).trans (valV_pos rfl)))
theorem get_g (h : H d = some (.dK (dk g c l t))) : DGet H d (.str "great") (some (.ref g)) := by
  rw [← dk_g (g := g) (c := c) (l := l) (t := t)]
  exact DGet.k (k := kG) h
theorem get_c (h : H d = some (.dK (dk g c l t))) : DGet H d (.str "cells") (some (.ref c)) := by
  rw [← dk_c (g := g) (c := c) (l := l) (t := t)]
  exact DGet.k (k := kC) h
theorem get_l (h : H d = some (.dK (dk g c l t))) : DGet H d (.str "left") (some (.int l)) := by
  rw [← dk_l (g := g) (c := c) (l := l) (t := t)]
  exact DGet.k (k := kL) h
theorem get_t (h : H d = some (.dK (dk g c l t))) : DGet H d (.str "turn") (some (.int t)) := by
  rw [← dk_t (g := g) (c := c) (l := l) (t := t)]
  exact DGet.k (k := kT) h
theorem put_dk_l : putK (dk g c l t) kL (.int z) = dk g c z t := by
  unfold putK dk
  simp [nGL, nCL, Ne.symm nLT, (show ¬ kT = kL from fun e => nLT e.symm)]
theorem put_dk_t : putK (dk g c l t) kT (.int z) = dk g c l z := by
  unfold putK dk
  simp [nGT, nCT, nLT]
theorem put_l (h : H d = some (.dK (dk g c l t))) : DPut H d (.str "left") (.int z) (upd H d (.dK (dk g c z t))) := by
  rw [← put_dk_l (l := l)]
  exact DPut.k (k := kL) h (by show 4 < sizeLine; decide)
theorem put_t (h : H d = some (.dK (dk g c l t))) : DPut H d (.str "turn") (.int z) (upd H d (.dK (dk g c l z))) := by
  rw [← put_dk_t (t := t)]
  exact DPut.k (k := kT) h (by show 4 < sizeLine; decide)
theorem merge_dk : mergeK [] (dk g c l t) = dk g c l t := by
  have e1 : putK [] kG (.ref g) = [(kG, V.ref g)] := rfl
  have e2 : putK [(kG, V.ref g)] kC (.ref c) = [(kG, V.ref g), (kC, V.ref c)] := by unfold putK; simp [nGC]
  have e3 : putK [(kG, V.ref g), (kC, V.ref c)] kL (.int l) = [(kG, V.ref g), (kC, V.ref c), (kL, V.int l)] := by unfold putK; simp [nGL, nCL]
  have e4 : putK [(kG, V.ref g), (kC, V.ref c), (kL, V.int l)] kT (.int t) = [(kG, V.ref g), (kC, V.ref c), (kL, V.int l), (kT, V.int t)] := by unfold putK; simp [nGT, nCT, nLT]
  unfold mergeK dk
  simp only [List.foldl_cons, List.foldl_nil, e1, e2, e3, e4]
end
/-- the draws' dict at d, its lists at g and c; at most b turns were mixed -/
structure Dw (ns : List Int) (d g c : Addr) (b : Nat) (H : Hp) : Prop where
  st : ∃ (gs : List Int) (l t : Int), H d = some (.dK (dk g c l t)) ∧ H g = some (.lst (gs.map V.int)) ∧ 0 ≤ t ∧ t ≤ b
  cl : H c = some (.lst (ns.map V.int))
  ncd : c ≠ d
  ncg : c ≠ g
section
variable {ns : List Int} {d g c p : Addr} {b b' : Nat} {H H' : Hp} {o : HO}
theorem Dw.mono (h : Dw ns d g c b H) (k : b ≤ b') : Dw ns d g c b' H := by
  obtain ⟨⟨gs, l, t, h1, h2, h3, h4⟩, h5, h6, h7⟩ := h
  exact ⟨⟨gs, l, t, h1, h2, h3, by omega⟩, h5, h6, h7⟩
/-- what is new leaves them -/
theorem Dw.keep (h : Dw ns d g c b H) (k : ∀ a o, H a = some o → H' a = some o) : Dw ns d g c b H' := by
  obtain ⟨⟨gs, l, t, h1, h2, h3, h4⟩, h5, h6, h7⟩ := h
  exact ⟨⟨gs, l, t, k _ _ h1, k _ _ h2, h3, h4⟩, k _ _ h5, h6, h7⟩
theorem Dw.new (h : Dw ns d g c b H) (hp : H p = none) : Dw ns d g c b (upd H p o) := h.keep fun a u e => new_same hp a u e
theorem Dw.nd (h : Dw ns d g c b H) (hp : H p = none) : p ≠ d := by
  obtain ⟨⟨gs, l, t, h1, h2, h3, h4⟩, h5, h6, h7⟩ := h
  exact fun e => ne_of_none h1 hp e.symm
theorem Dw.ng (h : Dw ns d g c b H) (hp : H p = none) : p ≠ g := by
  obtain ⟨⟨gs, l, t, h1, h2, h3, h4⟩, h5, h6, h7⟩ := h
  exact fun e => ne_of_none h2 hp e.symm
theorem Dw.some (h : Dw ns d g c b H) : (∃ o, H d = some o) ∧ ∃ o, H g = some o := by
  obtain ⟨⟨gs, l, t, h1, h2, h3, h4⟩, h5, h6, h7⟩ := h
  exact ⟨⟨_, h1⟩, ⟨_, h2⟩⟩
/-- what is new behind a draw was new ahead of it -/
theorem Dw.free (h : Dw ns d g c b H) (h' : Dw ns d g c b' H') (k : Kp d g H H') (hp : H' p = none) : H p = none := by
  cases e : H p with
  | none => rfl
  | some u =>
    have q := k p u (h'.nd hp) (h'.ng hp) e
    rw [hp] at q
    cases q
theorem Dw.put (h : Dw ns d g c b H) (hp : H p = Option.some u) (n1 : p ≠ d) (n2 : p ≠ g) (n3 : p ≠ c) : Dw ns d g c b (upd H p o) := by
  obtain ⟨⟨gs, l, t, h1, h2, h3, h4⟩, h5, h6, h7⟩ := h
  exact ⟨⟨gs, l, t, by rw [upd_ne n1.symm]; exact h1, by rw [upd_ne n2.symm]; exact h2, h3, h4⟩, by rw [upd_ne n3.symm]; exact h5, h6, h7⟩
end
/-! ## small words of arithmetic -/
theorem fmod_lo {a b : Int} (h : 0 < b) : 0 ≤ a.fmod b := by rw [Int.fmod_eq_emod_of_nonneg a (by omega)]; exact Int.emod_nonneg a (by omega)
theorem fmod_hi {a b : Int} (h : 0 < b) : a.fmod b < b := by rw [Int.fmod_eq_emod_of_nonneg a (by omega)]; exact Int.emod_lt_of_pos a h
theorem at_int {xs : List V} {r : Int} (h0 : 0 ≤ r) (h1 : r < (xs.length : Int)) : ∃ v, atI xs r = some v ∧ v ∈ xs := by
  have k : r.toNat < xs.length := by omega
  have e : r = ((r.toNat : Nat) : Int) := by omega
  have q : atI xs ((r.toNat : Nat) : Int) = some xs[r.toNat] := atI_nat (List.getElem?_eq_getElem k)
  rw [← e] at q
  exact ⟨_, q, List.getElem_mem k⟩
/-! ## lists of flat data, by == -/
section
variable {K : PySem.W.Frag} {H : Hp}
theorem dp_ints : ∀ ns : List Int, DpAll K H (ns.map V.int) (ns.map PyData.int)
  | [] => .nil
  | n :: r => .cons (.int n) (dp_ints r)
theorem dp_bools : ∀ ns : List Bool, DpAll K H (ns.map V.bl) (ns.map PyData.bool)
  | [] => .nil
  | n :: r => .cons (.bl n) (dp_bools r)
theorem dp_strs : ∀ ns : List Str, DpAll K H (ns.map V.str) (ns.map PyData.str)
  | [] => .nil
  | n :: r => .cons (.str n) (dp_strs r)
/-- no list, tuple or dict -/
def flatD : PyData → Bool
  | .none => true
  | .bool _ => true
  | .int _ => true
  | .str x => PyData.strOk x
  | _ => false
theorem lay_flat {x : PyData} (h : flatD x = true) : x.canLay0 = true ∧ x.depth ≤ 1 := by
  cases x with
  | none => constructor <;> simp [PyData.canLay0, PyData.depth]
  | bool _ => constructor <;> simp [PyData.canLay0, PyData.depth]
  | int _ => constructor <;> simp [PyData.canLay0, PyData.depth]
  | str x =>
    have h' : PyData.strOk x = true := h
    constructor <;> simp [PyData.canLay0, PyData.depth, h']
  | list _ => cases h
  | tuple _ => cases h
  | dict _ => cases h
theorem lay_flats : ∀ {ds : List PyData}, (∀ x ∈ ds, flatD x = true) → PyData.canLayAll0 ds = true ∧ PyData.depthAll ds ≤ 1
  | [], _ => by constructor <;> simp [PyData.canLayAll0, PyData.depthAll]
  | x :: r, h => by
    obtain ⟨a1, a2⟩ := lay_flat (h x (List.mem_cons_self ..))
    obtain ⟨b1, b2⟩ := lay_flats (ds := r) fun y hy => h y (List.mem_cons_of_mem _ hy)
    constructor
    · simp [PyData.canLayAll0, a1, b1]
    · simp only [PyData.depthAll]
      omega
theorem shaped_flats {ds : List PyData} (h : ∀ x ∈ ds, flatD x = true) : SeqAt.shaped (.list ds) = true := by
  obtain ⟨b1, b2⟩ := lay_flats h
  have e : PyData.depth (.list ds) = PyData.depthAll ds + 1 := by simp only [PyData.depth]
  unfold SeqAt.shaped
  rw [e]
  simp only [PyData.canLay0, b1, Bool.true_and, decide_eq_true_eq]
  omega
theorem shaped_ints (ns : List Int) : SeqAt.shaped (.list (ns.map PyData.int)) = true := shaped_flats fun x hx => by
  obtain ⟨n, _, rfl⟩ := List.mem_map.mp hx
  rfl
theorem shaped_bools (ns : List Bool) : SeqAt.shaped (.list (ns.map PyData.bool)) = true := shaped_flats fun x hx => by
  obtain ⟨n, _, rfl⟩ := List.mem_map.mp hx
  rfl
theorem shaped_strs {ns : List Str} (h : ∀ x ∈ ns, PyData.strOk x = true) : SeqAt.shaped (.list (ns.map PyData.str)) = true := shaped_flats fun x hx => by
  obtain ⟨n, hn, rfl⟩ := List.mem_map.mp hx
  exact h n hn
theorem shaped_nil : SeqAt.shaped (.list []) = true := shaped_flats fun x hx => by cases hx
theorem eqv_nil {ds : List PyData} : PyData.eqv (.list ds) (.list []) = ds.isEmpty := by
  cases ds <;> simp [PyData.eqv, PyData.eqvAll]
theorem eqv_bools : ∀ xs ys : List Bool, PyData.eqvAll (xs.map PyData.bool) (ys.map PyData.bool) = decide (xs = ys)
  | [], [] => by simp [PyData.eqvAll]
  | [], _ :: _ => by simp [PyData.eqvAll]
  | _ :: _, [] => by simp [PyData.eqvAll]
  | x :: xs, y :: ys => by
    simp only [List.map_cons, PyData.eqvAll, PyData.eqv, eqv_bools xs ys]
    by_cases h : x = y <;> by_cases k : xs = ys <;> simp [h, k]
end
end Gn

set_option Elab.async false
set_option linter.all false
set_option maxRecDepth 100000
set_option maxHeartbeats 4000000
namespace Lw
open PySem PySem.Spec PyProof.Rows L2 Gn
def top (i : Nat) : Stmt := PySem.Challenge.pw_hearpurse_k13_whole_units_matched.main.body.getD i (.Pass ⟨0, 0, 0, 0⟩)
abbrev sWall : Stmt := top 0
abbrev sInt : Stmt := top 12
abbrev sName : Stmt := top 13
abbrev sAmount : Stmt := top 14
abbrev sIsClaim : Stmt := top 18
abbrev sCheckClaims : Stmt := top 19
abbrev sCheckSpent : Stmt := top 20
abbrev sCheckBalances : Stmt := top 21
abbrev sTotalsOf : Stmt := top 22
abbrev sUnspent : Stmt := top 23
abbrev sFirstOverdrawn : Stmt := top 24
abbrev sPay : Stmt := top 26
abbrev sMakePlan : Stmt := top 27
abbrev sFund : Stmt := top 28
abbrev sRow : Stmt := top 30
abbrev sWrong : Stmt := top 31
abbrev sBegun : Stmt := top 34
abbrev sMixed : Stmt := top 35
abbrev sTake : Stmt := top 36
abbrev sPick : Stmt := top 37
abbrev sLOrder : Stmt := top 38
abbrev sWords : Stmt := top 39
abbrev sForest : Stmt := top 40
abbrev sLUp : Stmt := top 41
abbrev sLTurned : Stmt := top 42
abbrev sLIsAugmented : Stmt := top 43
abbrev sLUnits : Stmt := top 44
abbrev sLIsMatched : Stmt := top 45
abbrev sLIsMatching : Stmt := top 46
abbrev sLaw : Stmt := top 47
def cBody : Stmt → List Stmt
  | .ClassDef (body := b) .. => b
  | _ => []
def meth (i : Nat) : Stmt := (cBody (top 32)).getD i (.Pass ⟨0, 0, 0, 0⟩)
abbrev sInit : Stmt := meth 1
abbrev sEq : Stmt := meth 2
abbrev sNames : Stmt := meth 3
abbrev sText : Stmt := meth 4
abbrev sAnc : Stmt := meth 5
abbrev sSub : Stmt := meth 6
abbrev sParse : Stmt := meth 7
section
variable {P : Program} {w : World} {K : PySem.W.Frag} {mg : Str → Option Value} {base : Heap}
/-! ### _law_mixed -/
def spMixed (ns : List Int) : Sp := fun vs H Q _ => ∃ (d g c : Addr) (b : Nat), vs = [.ref d] ∧ Dw ns d g c b H ∧ b ≤ 1000000000 ∧
  ∀ (r : Int) (H' : Hp), Dw ns d g c (b + 1) H' → Kp d g H H' → Q (.int r) H'
theorem scMixed : FnScope ["_law_state", "_law_found", "_law_prime", "_law_blend", "_law_cell"] ["_law_state"] (defScope sMixed) := ⟨rfl, rfl, rfl, by decide +kernel, rfl, by decide +kernel, by decide +kernel⟩
def primes : List Int := [2147483629, 2147483587, 2147483579, 2147483563, 2147483549, 2147483543]
theorem prime_of {p : Int} (h : p ∈ primes) : 2000000000 < p ∧ p < 2147483648 := by
  unfold primes at h
  simp only [List.mem_cons, List.not_mem_nil, or_false] at h
  omega
theorem ok_mixed {f : Addr} {fd : FuncData} (ns : List Int) (F : Fun K "_law_mixed" "_law_mixed" sMixed f fd) : FnOk P w K mg base CX0 1 f fd ["_law_state"] (spMixed ns) := by
  refine F.ok scMixed (fun vs H Q E h => ?_) (fun cdv A outer s H vs Q E hr h => ?_)
  · obtain ⟨d, g, c, b, rfl, _⟩ := h
    rfl
  · obtain ⟨d, g, c, b, rfl, D, hb, k⟩ := h
    have hu := hu_of hr
    have nd := scMixed.nd
    refine ⟨_, pss_cons (ps_dput hu (pv 0) pe_str (pe_op op_add (pe_dget hu (pv 0) pe_str (fun _ _ => rfl)) pe_int) rfl)
      (pss_cons (ps_set (i := 1) nd rfl (.inl rfl) pe_int)
      (pss_cons (ps_for PassesOwn.never rfl (pi_list (pe_lst (pa_cons pe_int (pa_cons pe_int (pa_cons pe_int (pa_cons pe_int (pa_cons pe_int (pa_cons pe_int pa_nil)))))))) (pg_name (i := 2) nd rfl (.inl rfl))
        (pss_cons (ps_set (i := 3) nd rfl (.inl rfl) (pe_op op_add (pe_op op_mul pe_int (pe_dget hu (pv 0) pe_str (fun _ _ => rfl))) (pe_op op_fdivN (pv 2) pe_int)))
        (pss_cons (ps_for PassesOwn.never rfl (pi_list (pe_dget hu (pv 0) pe_str (fun _ _ => rfl))) (pg_name (i := 4) nd rfl (.inl rfl))
          (pss_one (ps_set (i := 3) nd rfl (.inl rfl) (pe_op op_modN (pe_op op_add (pe_op op_mul (pv 3) pe_int) (pv 4)) (pv 2)))))
        (pss_one (ps_set (i := 1) nd rfl (.inl rfl) (pe_op op_add (pe_op op_mul (pv 1) pe_int) (pe_op op_modN (pe_op op_pow (pv 3) pe_int) (pv 2))))))))
      (pss_one (ps_ret (pv 1))))), ?_⟩
    obtain ⟨⟨gs, l, t, hd, hg, t0, tb⟩, hc, ncd, ncg⟩ := id D
    have ndg : g ≠ d := ne_of hg hd (by intro z; cases z)
    refine ⟨_, rfl, d, _, rfl, get_t hd, t, 1, rfl, rfl, _, rfl, d, _, rfl, put_t hd, ?_⟩
    generalize hH1 : upd H d (.dK (dk g c l (t + 1))) = H1
    have hd1 : H1 d = some (.dK (dk g c l (t + 1))) := by rw [← hH1, upd_same]
    have hg1 : H1 g = some (.lst (gs.map V.int)) := by rw [← hH1, upd_ne ndg]; exact hg
    have hc1 : H1 c = some (.lst (ns.map V.int)) := by rw [← hH1, upd_ne ncd]; exact hc
    have k1 : Kp d g H H1 := by rw [← hH1]; exact Kp.at_d
    refine ⟨by show 6 ≤ sizeLine; decide, fun p hp => ?_⟩
    have hd2 := new_same (o := .lst (primes.map V.int)) hp _ _ hd1
    have hg2 := new_same (o := .lst (primes.map V.int)) hp _ _ hg1
    have hc2 := new_same (o := .lst (primes.map V.int)) hp _ _ hc1
    refine ⟨p, rfl, ⟨_, SqL.of upd_same⟩, for_list (K := K) (a := p) (xs := primes.map V.int) (fun i σ H' => H' = upd H1 p (.lst (primes.map V.int)) ∧ ∃ (f : Int) (v2 v3 v4 : Option V), σ = [some (.ref d), some (.int f), v2, v3, v4])
      ⟨rfl, 0, none, none, none, rfl⟩ (fun i σ H' _ ⟨e, _⟩ => by rw [e]; exact SqL.of upd_same) ?_ ?_⟩
    · rintro i x σ H' hx ⟨rfl, f, v2, v3, v4, rfl⟩
      obtain ⟨pr, hpr, rfl⟩ : ∃ z : Int, z ∈ primes ∧ x = V.int z := by
        obtain ⟨z, hz, e⟩ := List.mem_map.mp (List.mem_of_getElem? hx)
        exact ⟨z, hz, e.symm⟩
      obtain ⟨p1, p2⟩ := prime_of hpr
      refine ⟨_, rfl, d, _, rfl, get_t hd2, 69997, t + 1, rfl, rfl, .inl ⟨by decide, by decide⟩, _, rfl, pr, 11, rfl, rfl, ⟨by decide, by decide⟩, _, _, rfl, rfl, ?_⟩
      have q0 : 0 ≤ pr.fdiv 11 ∧ pr.fdiv 11 < 2147483648 := by
        rw [Int.fdiv_eq_ediv_of_nonneg pr (by decide)]
        omega
      refine ⟨_, rfl, d, _, rfl, get_c hd2, c, rfl, ⟨_, SqL.of hc2⟩, for_list (K := K) (a := c) (xs := ns.map V.int) (fun i σ H' => H' = upd H1 p (.lst (primes.map V.int)) ∧ ∃ (y : Int) (v4 : Option V), y.natAbs < 2 ^ 64 ∧ σ = [some (.ref d), some (.int f), some (.int pr), some (.int y), v4])
        ⟨rfl, _, v4, ?_, rfl⟩ (fun i σ H' _ ⟨e, _⟩ => by rw [e]; exact SqL.of hc2) ?_ ?_⟩
      · omega
      · rintro j x σ H' hx ⟨rfl, y, v4, hy, rfl⟩
        obtain ⟨z, rfl⟩ : ∃ z : Int, x = V.int z := by
          obtain ⟨z, hz, e⟩ := List.mem_map.mp (List.mem_of_getElem? hx)
          exact ⟨z, e.symm⟩
        refine ⟨_, rfl, y, 48271, rfl, rfl, .inr ⟨by decide, by decide⟩, _, rfl, _, z, rfl, rfl, _, rfl, _, pr, rfl, rfl, (by omega), ?_⟩
        have r1 := fmod_lo (a := y * 48271 + z) (b := pr) (by omega)
        have r2 := fmod_hi (a := y * 48271 + z) (b := pr) (by omega)
        exact ⟨rfl, _, some (.int z), by omega, rfl⟩
      · rintro σ H' ⟨rfl, y, v4, hy, rfl⟩
        refine ⟨_, rfl, f, 2147483647, rfl, rfl, .inr ⟨by decide, by decide⟩, _, rfl, y, 5, rfl, rfl, ⟨by decide, by decide, hy⟩, _, rfl, _, pr, rfl, rfl, (by omega), _, _, rfl, rfl, ?_⟩
        exact ⟨rfl, _, some (.int pr), some (.int y), v4, rfl⟩
    · rintro σ H' ⟨rfl, f, v2, v3, v4, rfl⟩
      refine ⟨_, rfl, ?_⟩
      refine k f _ ⟨⟨gs, l, t + 1, hd2, hg2, by omega, by omega⟩, hc2, ncd, ncg⟩ (k1.trans (Kp.new hp))
theorem z60 {z : Int} (h : z ≤ 10000000000000) (h0 : 0 < z := by assumption) : z.natAbs < 2 ^ 60 := by
  have : (2 : Nat) ^ 60 = 1152921504606846976 := by decide
  rw [this]
  omega
/-! ### _law_take -/
def spTake (ns : List Int) : Sp := fun vs H Q _ => ∃ (d g c : Addr) (b : Nat) (z : Int), vs = [.ref d, .int z] ∧ Dw ns d g c b H ∧ b ≤ 1000000000 ∧ 0 < z ∧ z ≤ 10000000000000 ∧
  ∀ (r : Int) (H' : Hp), 0 ≤ r → r < z → Dw ns d g c (b + 1) H' → Kp d g H H' → Q (.int r) H'
theorem scTake : FnScope ["_law_state", "_law_size", "_law_found"] ["_law_state", "_law_size"] (defScope sTake) := ⟨rfl, rfl, rfl, by decide +kernel, rfl, by decide +kernel, by decide +kernel⟩
theorem ok_take {f fM : Addr} {fd fdM : FuncData} (ns : List Int) (F : Fun K "_law_take" "_law_take" sTake f fd) (GM : FnOk P w K mg base CX0 1 fM fdM ["_law_state"] (spMixed ns)) (bM : Binds K fdM ["_law_state"] []) (kM : PySem.W.keepIn K (.ref fM) = true) (mM : mg "_law_mixed" = some (.ref fM)) :
    FnOk P w K mg base CX0 2 f fd ["_law_state", "_law_size"] (spTake ns) := by
  refine F.ok scTake (fun vs H Q E h => ?_) (fun cdv A outer s H vs Q E hr h => ?_)
  · obtain ⟨d, g, c, b, z, rfl, _⟩ := h
    rfl
  · obtain ⟨d, g, c, b, z, rfl, D, hb, z0, z1, k⟩ := h
    have hu := hu_of hr
    have nd := scTake.nd
    refine ⟨_, pss_cons (ps_if (pt_cmpR op_eq (pe_dget hu (pv 0) pe_str (fun _ _ => rfl)) pe_int (nomark _))
        (pss_one (ps_dput hu (pv 0) pe_str (pe_ifExp (pt_cmpR (op_neD hr.units) (pe_dget hu (pv 0) pe_str (fun _ _ => rfl)) (pe_lst pa_nil) (nomark _))
          (pe_bm PySem.F.plainAttrs_list PySem.F.slot_list_pop PySem.F.type_list_pop mt_popAt (pe_dget hu (pv 0) pe_str (fun _ _ => rfl)) (pa_cons pe_int pa_nil))
          (pe_call GM hr rfl mM kM bM .nil pass0 (pa_cons (pv 0) pa_nil))) rfl)) pss_nil)
      (pss_cons (ps_set (i := 2) nd rfl (.inl rfl) (pe_op op_modN (pe_dget hu (pv 0) pe_str (fun _ _ => rfl)) (pv 1)))
      (pss_cons (ps_dput hu (pv 0) pe_str (pe_op op_fdivW (pe_dget hu (pv 0) pe_str (fun _ _ => rfl)) (pv 1)) rfl)
      (pss_one (ps_ret (pv 2))))), ?_⟩
    -- behind the if: the state with a number left
    have tail : ∀ (H1 : Hp), Dw ns d g c (b + 1) H1 → Kp d g H H1 → tSeq (tAsg (tOp (rI (fun _ j => j ≠ 0) fun i j => .int (i.fmod j)) (tDGet (tVar 0) (tC (.str "left"))) (tVar 1)) (gName 2))
        (tSeq (sDPut (tVar 0) (tC (.str "left")) (tOp (rI CDivW fun i j => .int (i / j)) (tDGet (tVar 0) (tC (.str "left"))) (tVar 1))) (tRet (tVar 2))) { nx := fun _ H' => Q .non H', rt := Q } [some (.ref d), some (.int z), none] H1 := by
      intro H1 D1 k1
      obtain ⟨⟨gs, l, t, hd, hg, t0, tb⟩, hc, ncd, ncg⟩ := id D1
      have ndg : g ≠ d := ne_of hg hd (by intro z; cases z)
      refine ⟨_, rfl, d, _, rfl, get_l hd, _, rfl, l, z, rfl, rfl, (by omega), ?_⟩
      refine ⟨_, rfl, d, _, rfl, get_l hd, _, rfl, l, z, rfl, rfl, wide_div (b := 60) z0 (z60 z1) (by decide) (by decide), _, rfl, d, _, rfl, put_l hd, _, rfl, ?_⟩
      refine k _ _ (fmod_lo z0) (fmod_hi z0) ⟨⟨gs, _, t, upd_same, by rw [upd_ne ndg]; exact hg, t0, tb⟩, by rw [upd_ne ncd]; exact hc, ncd, ncg⟩ (k1.trans Kp.at_d)
    obtain ⟨⟨gs, l, t, hd, hg, t0, tb⟩, hc, ncd, ncg⟩ := id D
    have ndg : g ≠ d := ne_of hg hd (by intro z; cases z)
    refine ⟨_, rfl, d, _, rfl, get_l hd, rfl, _, rfl, ?_⟩
    refine ite2 (fun e => ?_) (fun e => tail H (D.mono (by omega)) Kp.refl)
    refine ⟨_, rfl, d, _, rfl, get_g hd, by show 0 ≤ sizeLine; decide, fun p hp => ?_⟩
    have hd1 := new_same (o := .lst []) hp _ _ hd
    have hg1 := new_same (o := .lst []) hp _ _ hg
    have hc1 := new_same (o := .lst []) hp _ _ hc
    refine ⟨_, _, .lst (SqL.of hg1) (dp_ints gs), .lst (SqL.of upd_same) .nil, shaped_ints gs, shaped_nil, _, rfl, ?_⟩
    rw [eqv_nil]
    cases gs with
    | nil =>
      refine iteF ?_
      refine ⟨_, rfl, d, g, c, b, rfl, D.new hp, hb, fun r H' D' k' => ?_⟩
      obtain ⟨⟨gs, l, t, hd', hg', t0, tb⟩, hc', ncd, ncg⟩ := id D'
      have ndg : g ≠ d := ne_of hg' hd' (by intro z; cases z)
      refine ⟨_, rfl, d, _, rfl, put_l hd', ?_⟩
      exact tail _ ⟨⟨gs, _, t, upd_same, by rw [upd_ne ndg]; exact hg', t0, tb⟩, by rw [upd_ne ncd]; exact hc', ncd, ncg⟩ (((Kp.new hp).trans k').trans Kp.at_d)
    | cons n r =>
      refine iteT ?_
      refine ⟨_, rfl, d, _, rfl, get_g hd1, .inl ⟨rfl, _, SqL.of hg1⟩, g, _, 0, 0, _, rfl, rfl, hg1, by decide, by decide, (ixN_seq (n := (List.map V.int (n :: r)).length) (i := 0) (j := 0) (by simp [ixN])).1, rfl, ?_⟩
      refine ⟨_, rfl, d, _, rfl, put_l (by rw [upd_ne ndg.symm]; exact hd1), ?_⟩
      refine tail _ ⟨⟨r, _, t, upd_same, by rw [upd_ne ndg, upd_same]; rfl, t0, by omega⟩, by rw [upd_ne ncd, upd_ne ncg]; exact hc1, ncd, ncg⟩ (((Kp.new hp).trans Kp.at_g).trans Kp.at_d)
/-! ### _law_pick, out of a list and out of a text -/
theorem scPick : FnScope ["_law_state", "_law_some"] ["_law_state", "_law_some"] (defScope sPick) := ⟨rfl, rfl, rfl, by decide +kernel, rfl, by decide +kernel, by decide +kernel⟩
/-- one of the items of a list, or one sign of a text -/
def spPick (K : PySem.W.Frag) (ns : List Int) : Sp := fun vs H Q _ => ∃ (d g c : Addr) (b : Nat), Dw ns d g c b H ∧ b ≤ 1000000000 ∧
  ((∃ (a : Addr) (xs : List V), vs = [.ref d, .ref a] ∧ H a = some (.lst xs) ∧ a ≠ d ∧ a ≠ g ∧ 0 < xs.length ∧ xs.length ≤ 1000000 ∧
    ∀ (x : V) (H' : Hp), x ∈ xs → Dw ns d g c (b + 1) H' → Kp d g H H' → Q x H') ∨
   (∃ z : Str, vs = [.ref d, .str z] ∧ 0 < z.length ∧ z.length ≤ 1000000 ∧ ∀ (x : Nat) (H' : Hp), x ∈ z.cps.toList → Dw ns d g c (b + 1) H' → Kp d g H H' → Q (.str ⟨#[x]⟩) H'))
theorem ok_pick {f fT : Addr} {fd fdT : FuncData} (ns : List Int) (F : Fun K "_law_pick" "_law_pick" sPick f fd) (GT : FnOk P w K mg base CX0 2 fT fdT ["_law_state", "_law_size"] (spTake ns)) (bT : Binds K fdT ["_law_state", "_law_size"] []) (kT : PySem.W.keepIn K (.ref fT) = true) (mT : mg "_law_take" = some (.ref fT))
    (ml : mg "len" = none) : FnOk P w K mg base CX0 3 f fd ["_law_state", "_law_some"] (spPick K ns) := by
  refine F.ok scPick (fun vs H Q E h => ?_) (fun cdv A outer s H vs Q E hr h => ?_)
  · obtain ⟨d, g, c, b, D, hb, ⟨a, xs, rfl, _⟩ | ⟨z, rfl, _⟩⟩ := h <;> rfl
  · obtain ⟨d, g, c, b, D, hb, h⟩ := h
    have hu := hu_of hr
    have nd := scPick.nd
    refine ⟨_, pss_one (ps_ret (pe_ix ix_seq (pv 1) (pe_call GT hr rfl mT kT bT .nil pass0 (pa_cons (pv 0) (pa_cons (pe_callB call_len rfl ml PySem.boot_len (pa_cons (pv 1) pa_nil)) pa_nil))) (fun _ _ => rfl))), ?_⟩
    rcases h with ⟨a, xs, rfl, ha, nad, nag, h0, h1, k⟩ | ⟨z, rfl, h0, h1, k⟩
    · refine ⟨_, rfl, _, rfl, _, rfl, _, _, rfl, .inl ⟨_, SqL.of ha, rfl⟩, d, g, c, b, _, rfl, D, hb, by omega, by omega, fun r H' r0 r1 D' k' => ?_⟩
      obtain ⟨v, hv, hm⟩ := at_int r0 r1
      exact .inl ⟨a, xs, r, v, rfl, rfl, SqL.of (k' a _ nad nag ha), hv, k v H' hm D' k'⟩
    · refine ⟨_, rfl, _, rfl, _, rfl, _, _, rfl, ⟨by rw [sizeLine_eq]; omega, rfl⟩, d, g, c, b, _, rfl, D, hb, by omega, by omega, fun r H' r0 r1 D' k' => ?_⟩
      have e : r = ((r.toNat : Nat) : Int) := by omega
      have hl : r.toNat < z.cps.toList.length := by
        have : z.cps.toList.length = z.length := by simp [Str.length]
        omega
      have q : atI z.cps.toList ((r.toNat : Nat) : Int) = some z.cps.toList[r.toNat] := atI_nat (List.getElem?_eq_getElem hl)
      rw [← e] at q
      exact .inr (.inr ⟨z, r, _, rfl, rfl, by rw [sizeLine_eq]; omega, q, k _ H' (List.getElem_mem hl) D' k'⟩)
/-! ### _law_begun -/
def spBegun (K : PySem.W.Frag) (ns : List Int) : Sp := fun vs H Q _ => ∃ (a : Addr), vs = [.ref a] ∧ SqL K H a (ns.map V.int) ∧ ns.length ≤ 63 ∧
  ∀ (d g c : Addr) (H' : Hp), Dw ns d g c 0 H' → (∀ b o, H b = some o → H' b = some o) → H d = none → H g = none → H c = none → Q (.ref d) H'
theorem scBegun : FnScope ["_law_script", "_law_great", "_law_cell"] ["_law_script"] (defScope sBegun) := ⟨rfl, rfl, rfl, by decide +kernel, rfl, by decide +kernel, by decide +kernel⟩
theorem ok_begun {f : Addr} {fd : FuncData} (ns : List Int) (F : Fun K "_law_begun" "_law_begun" sBegun f fd) (mli : mg "list" = none) : FnOk P w K mg base CX0 1 f fd ["_law_script"] (spBegun K ns) := by
  refine F.ok scBegun (fun vs H Q E h => ?_) (fun cdv A outer s H vs Q E hr h => ?_)
  · obtain ⟨a, rfl, _⟩ := h
    rfl
  · obtain ⟨a, rfl, hS, hl, k⟩ := h
    have hu := hu_of hr
    have nd := scBegun.nd
    refine ⟨_, pss_cons (ps_setLc (i := 1) (own := [("_law_cell", 2)]) (g := gName 2) rfl nd rfl rfl (sw_true rfl rfl rfl (by decide +kernel)) (pi_list (pv 0)) (blkOk_by (N := ["_law_script", "_law_great", "_law_cell"]) (sc := defScope sBegun) (by decide +kernel))
        (fun _ _ _ _ _ => pg_name (i := 2) nd rfl (.inl rfl)) (fun _ _ _ _ _ => pts_one (pt_cmpR op_ge (pv 2) (pe_op op_pow pe_int pe_int) (nomark _))) (fun _ _ _ _ _ => pe_op op_sub (pv 2) (pe_op op_pow pe_int pe_int)))
      (pss_one (ps_ret (pe_disp (pps_cons pe_str (pv 1) (pps_cons pe_str (pe_callTy call_list_of rfl mli (by decide +kernel) (pa_cons (pv 0) pa_nil)) (pps_cons pe_str pe_int (pps_cons pe_str pe_int pps_nil)))) (by rfl) (by rfl) (fun z => by cases z) (by decide)))), ?_⟩
    have keep0 : ∀ {H' : Hp} {g : Addr} {o : HO}, (∀ b o, H b = some o → H' b = some o) → H g = none → ∀ b u, H b = some u → upd H' g o b = some u := fun {H' g o} s hg b u e => by
      rw [upd_ne (ne_of_none e hg)]
      exact s b u e
    refine ⟨_, rfl, a, rfl, ⟨_, hS⟩, fun g hg => ?_⟩
    refine lc_list (K := K) (a := a) (xs := ns.map V.int) (fun i H' => (∀ b o, H b = some o → H' b = some o) ∧ ∃ gs : List Int, gs.length ≤ i ∧ H' g = some (.lst (gs.map V.int)))
      ⟨fun b o e => new_same hg b o e, [], Nat.le_refl _, upd_same⟩ (fun i H' _ ⟨s, _⟩ => Same.seq s hS) ?_ ?_
    · rintro i x H' hx ⟨s5, gs, hgl, hg'⟩
      obtain ⟨z, rfl⟩ : ∃ z : Int, x = V.int z := by
        obtain ⟨z, hz, e⟩ := List.mem_map.mp (List.mem_of_getElem? hx)
        exact ⟨z, e.symm⟩
      have hi : i < ns.length := by
        have := (List.getElem?_eq_some_iff.mp hx).1
        rw [List.length_map] at this
        exact this
      refine ⟨rfl, _, rfl, 10, 18, rfl, rfl, ⟨by decide, by decide, by decide⟩, _, _, rfl, rfl, _, rfl, ?_⟩
      refine ite2 (fun _ => ?_) (fun _ => ?_)
      · refine ⟨_, rfl, 10, 18, rfl, rfl, ⟨by decide, by decide, by decide⟩, _, _, rfl, rfl, _, hg', small1000 (by rw [List.length_map]; omega), keep0 s5 hg, gs ++ [z - 10 ^ (18 : Int).toNat], by rw [List.length_append]; show gs.length + 1 ≤ i + 1; omega, ?_⟩
        rw [upd_same, List.map_append]
        rfl
      · exact ⟨s5, gs, by omega, hg'⟩
    · rintro H1 ⟨s1, gs, hgl, hg1⟩ d hd
      refine ⟨_, rfl, _, rfl, a, _, rfl, .inl (Same.seq (new_same hd) (Same.seq s1 hS)), fun c hc => ?_⟩
      have ndc : c ≠ d := fun e => by rw [e, upd_same] at hc; cases hc
      have hd2 : (upd (upd H1 d (.dK [])) c (.lst (ns.map V.int))) d = some (.dK []) := by rw [upd_ne ndc.symm, upd_same]
      refine ⟨hd2, dk g c 0 0, rfl, (by show 4 ≤ 15; decide), ?_⟩
      rw [merge_dk]
      have ngd : g ≠ d := fun e => by rw [← e, hg1] at hd; cases hd
      have hg2 : upd H1 d (.dK []) g = some (.lst (gs.map V.int)) := by rw [upd_ne ngd]; exact hg1
      have ngc : g ≠ c := fun e => by rw [← e, hg2] at hc; cases hc
      have H1d : H d = none := by
        cases e : H d with
        | none => rfl
        | some u => rw [s1 d u e] at hd; cases hd
      have H1c : H c = none := by
        cases e : H c with
        | none => rfl
        | some u => rw [new_same hd c u (s1 c u e)] at hc; cases hc
      refine k d g c _ ⟨⟨gs, 0, 0, upd_same, by rw [upd_ne ngd, upd_ne ngc]; exact hg2, by omega, by omega⟩, by rw [upd_ne ndc, upd_same], ndc, ngc.symm⟩ (fun b o e => ?_) H1d hg H1c
      rw [upd_ne (ne_of_none e H1d), upd_ne (ne_of_none e H1c), upd_ne (ne_of_none e H1d)]
      exact s1 b o e
end
end Lw

set_option Elab.async false
set_option linter.all false
set_option maxRecDepth 100000
set_option maxHeartbeats 4000000
/-! a law's own body, run by the caller that the row names: what is around it is known there -/
namespace Ge
open PySem PySem.Spec PyProof.Rows L2 Gn
/-- what is known where a law's own body runs -/
structure Bed (K : PySem.W.Frag) (mg : Str → Option Value) (base : Heap) (A : Around) : Prop where
  kin : K.In base
  glob : base.Ns mainGlobals mg
  sys : ∃ o, base.get? sysModules = some o
  gd : A.guards = some []
section
variable {P : Program} {w : World} {K : PySem.W.Frag} {mg : Str → Option Value} {base : Heap}
/-- one call of a def of the text, by its body, at one place -/
theorem call_here {x qual : Str} {st : Stmt} {f : Addr} {fd : FuncData} {N ps : List Str} {k : Nat} {A : Around} {outer : List Env} {s : Shared} {H : Hp} {vs : List V} {us : List Value} {Q : VK}
    (F : Fun K x qual st f fd) (S : FnScope N ps (defScope st)) (hr : Room (k + 1) A) (e0 : Env0 P w K mg base A outer s H) (hb : BindsTo s fd ⟨us, []⟩ (ps.zip us)) (hl : vs.length = ps.length) (r : Vals vs us)
    (body : ∀ cdv : Value, Room k (A.deeper (envOfC qual (defScope st) s.heap.objs.size f cdv)) →
      ∃ t, PSs (cxOf CX0 P w K mg base N qual (defScope st) f cdv A outer s H E0).nox (defBody st) t ∧ t { nx := fun _ H' => Q .non H', rt := Q } (start N vs) H) :
    codeAny (model P w) A (.call (.ref f) ⟨us, []⟩) (CR CX0 outer P w H s Q E0) s := by
  obtain ⟨oc, od, kV, doc, pm, an, cdv, ct, osl, rfl, lk, hcd⟩ := F.ex
  have old : ∀ b o, base.get? b = some o → s.heap.get? b = some o := fun b o e => (e0.bs b o e).1
  have KX : K.In s.heap := e0.mod.kin.keeps old
  obtain ⟨t, ht, hq⟩ := body cdv (hr.deeper _)
  refine codeAny_call_function hr.depth (KX _ _ lk) rfl S.co S.gen rfl (PySem.W.codeRec_of KX hcd) (hb _ _ _ _ ?_)
  refine wpAny_newFunctionEnv_cells S.kind (fun ⟨n, v⟩ hy => ?_) (fun env he s1 z => ?_)
  · cases S.par n (List.of_mem_zip hy).1 with
    | inl q => exact .inl q
    | inr q => exact .inr ⟨q, PySem.W.cellsFrom_some _ _ _ (.inl q)⟩
  · subst he
    refine ⟨(e0.mod.nolimit.keeps old).keeps z.toInCall.keep, codeAny_func ?_⟩
    have I : Inv (cxOf CX0 P w K mg base N qual (defScope st) f cdv A outer s H E0) [] (start N vs) H s1 := inv_start S hr.hd e0 hl r z
    refine wpAny_mono (ht.nox.run [] s1 (start N vs) H _ I hq) (fun fl s' hs => ?_) (fun e s' hs => hs)
    match fl, hs with
    | .ret u, ⟨v, σ', H', J, rv, q⟩ => exact ⟨v, H', J.os, J.bare, J.base, J.hok, rv, q⟩
    | .next, ⟨σ', H', J, q⟩ => exact ⟨.non, H', J.os, J.bare, J.base, J.hok, rfl, q⟩
    | .brk, ⟨_, _, _, q⟩ => exact q.elim
    | .cont, ⟨_, _, _, q⟩ => exact q.elim
end
/-- nothing is tracked, or the script's list alone, as a thing that is only read -/
def Hs (a : Addr) (o : Obj) (xs : List V) : Hp := fun b => if b = a then some (.frz o (.lst xs)) else none
theorem hs_at {a : Addr} {o : Obj} {xs : List V} : Hs a o xs a = some (.frz o (.lst xs)) := if_pos rfl
theorem hs_no {a b : Addr} {o : Obj} {xs : List V} (h : b ≠ a) : Hs a o xs b = none := if_neg h
def H0 : Hp := fun _ => none
section
variable {P : Program} {w : World} {K : PySem.W.Frag} {mg mb : Str → Option Value} {s₁ : Shared} {a : Addr} {vs : List Value} {ns : List Int} {st : Stmt} {N : List Str} {x : Str} {k : Nat} {fa : Addr} {fd : FuncData}
/-- the state that the row's call begins with -/
theorem env_of {H : Hp} (KX : K.In s₁.heap) (hns : s₁.heap.Ns mainGlobals mg) (hb : s₁.heap.Ns builtinsNs mb) (hbb : ∀ x : Str, x ≠ "__name__" → mb x = bootBuiltins x) (hlim : s₁.heap.NoLimit) (hsee : ∃ mm, s₁.heap.Ns sysModules mm) (hg : s₁.gens = #[])
    (ha : s₁.heap.get? a = some { cls := .type "list", data := .seq vs.toArray }) (only : ∀ b, H b ≠ none → b = a) (hka : H a ≠ none → K.lookup a = none) (hok : HOk P w H s₁.heap) :
    Env0 P w K mg (hidT s₁.heap H) callerA [] s₁ H ∧ Bed K mg (hidT s₁.heap H) callerA := by
  have free : ∀ {b : Addr}, b ≠ a → H b = none := fun {b} n => by
    cases e : H b with
    | none => rfl
    | some u => exact absurd (only b (by rw [e]; simp)) n
  have keepNs : ∀ {b : Addr} {m : Str → Option Value}, s₁.heap.Ns b m → (hidT s₁.heap H).Ns b m := fun {b m} h => by
    obtain ⟨o, es, ep, e, dd, r⟩ := h
    refine ⟨o, es, ep, hidT_get e (free fun z => ?_), dd, r⟩
    subst z
    rw [ha] at e
    cases e
    cases dd
  have kIn : K.In (hidT s₁.heap H) := fun b o e => hidT_get (KX b o e) (by
    cases q : H b with
    | none => rfl
    | some u =>
      have z := only b (by rw [q]; simp)
      subst z
      rw [hka (by rw [q]; simp)] at e
      cases e)
  obtain ⟨mc, c1, c2⟩ := hlim
  obtain ⟨mm, o, es, ep, e1, e2, e3⟩ := hsee
  have sysf : H sysModules = none := free fun z => by
    subst z
    rw [ha] at e1
    cases e1
    cases e2
  refine ⟨⟨rfl, ⟨kIn, keepNs hns, ⟨mb, keepNs hb, hbb⟩, ⟨mc, keepNs c1, c2⟩⟩, fun b o e => of_hidT e, Nat.le_of_eq (hidT_size _ _), trivial, fun b z => absurd (show b ∈ ([] : List Addr) from z) (by simp), hok, .of_eq hg⟩, kIn, keepNs hns, ⟨o, hidT_get e1 sysf⟩, rfl⟩
/-- the law's call gives True, if its body does wherever it may run -/
theorem law_true (KX : K.In s₁.heap) (hns : s₁.heap.Ns mainGlobals mg) (hb : s₁.heap.Ns builtinsNs mb) (hbb : ∀ x : Str, x ≠ "__name__" → mb x = bootBuiltins x) (hlim : s₁.heap.NoLimit) (hsee : ∃ mm, s₁.heap.Ns sysModules mm) (hg : s₁.gens = #[])
    (ha : s₁.heap.get? a = some { cls := .type "list", data := .seq vs.toArray }) (hi : IntsAre vs ns) (hl : ns.length ≤ sizeLine) (hr : Room (k + 1) callerA)
    (F : Fun K "law" "law" st fa fd) (S : FnScope N [x] (defScope st)) (hbind : ∀ (s : Shared) (u : Value), BindsTo s fd ⟨[u], []⟩ [(x, u)])
    (body : ∀ (base : Heap) (A : Around) (s : Shared) (H : Hp) (cdv : Value), Bed K mg base A → Room k (A.deeper (envOfC "law" (defScope st) s.heap.objs.size fa cdv)) → SqL K H a (ns.map V.int) →
      ∃ t, PSs (cxOf CX0 P w K mg base N "law" (defScope st) fa cdv A [] s H E0).nox (defBody st) t ∧ t { nx := fun _ _ => False, rt := fun v _ => v = .bl true } (start N [.ref a]) H) :
    codeAny (model P w) callerA (.call (.ref fa) ⟨[.ref a], []⟩) (fun r s' => r = .ok (.ret (.bool true)) ∧ OldK s₁.heap s'.heap ∧ s'.os = s₁.os ∧ AllBare s'.gens) s₁ := by
  have rv := vals_ints hi
  have lenV := hi.length
  have go : ∀ H : Hp, (∀ b, H b = none ∨ ∃ o xs, H b = some (.frz o (.lst xs))) → SqL K H a (ns.map V.int) → Env0 P w K mg (hidT s₁.heap H) callerA [] s₁ H ∧ Bed K mg (hidT s₁.heap H) callerA →
      codeAny (model P w) callerA (.call (.ref fa) ⟨[.ref a], []⟩) (fun r s' => r = .ok (.ret (.bool true)) ∧ OldK s₁.heap s'.heap ∧ s'.os = s₁.os ∧ AllBare s'.gens) s₁ := by
    rintro H hO hS ⟨e0, B⟩
    have hok := e0.hok
    refine codeAny_mono (call_here (Q := fun v _ => v = .bl true) (vs := [.ref a]) (us := [.ref a]) F S hr e0 (hbind s₁ (.ref a)) rfl (.cons rfl .nil) fun cdv hr' => ?_) fun r s' h => ?_
    · obtain ⟨t, h1, h2⟩ := body (hidT s₁.heap H) callerA s₁ H cdv B hr' hS
      refine ⟨t, ⟨fun pins s0 σ H1 D I z => ?_⟩, ?_⟩
      · exact h1.run pins s0 σ H1 D I z
      · exact (show t { nx := fun _ _ => V.non = V.bl true, rt := fun v _ => v = V.bl true } (start N [.ref a]) H from by
          have e : (fun (_ : L2.St) (_ : Hp) => V.non = V.bl true) = fun _ _ => False := by funext _ _; simp
          rw [e]; exact h2)
    · match r, h with
      | .error e, h => exact False.elim h
      | .ok .next, h => exact False.elim h
      | .ok .brk, h => exact False.elim h
      | .ok .cont, h => exact False.elim h
      | .ok (.ret u), ⟨v, H', os, bare, un, hok', r', q⟩ =>
        subst q
        obtain rfl : u = Value.bool true := r'
        refine ⟨rfl, OldK.of_keep fun b o e => ?_, os, bare⟩
        rcases hO b with z | ⟨ob, xs, z⟩
        · exact un.keep b o e z (by intro m; exact absurd (show b ∈ ([] : List Addr) from m) (by simp)) (by simp)
        · obtain ⟨e1, _⟩ := hok b _ z
          obtain ⟨e2, _⟩ := hok' b _ (un.frzs b ob _ z)
          rw [e] at e1
          cases e1
          exact e2
  cases hk : K.lookup a with
  | some o =>
    have e := KX a o hk
    rw [ha] at e
    cases e
    refine go H0 (fun _ => .inl rfl) (.inr ⟨_, vs.toArray, _, hk, rfl, rfl, rfl, ?_, ?_⟩) (env_of KX hns hb hbb hlim hsee hg ha (fun b z => absurd rfl z) (fun z => absurd rfl z) fun b u z => nomatch (show (none : Option HO) = some u from z))
    · rw [List.size_toArray, lenV]
      exact hl
    · simpa using rv
  | none =>
    refine go (Hs a { cls := .type "list", data := .seq vs.toArray } (ns.map V.int)) (fun b => ?_) (.inl (.inr ⟨_, hs_at⟩)) (env_of KX hns hb hbb hlim hsee hg ha (fun b z => ?_) (fun _ => hk) fun b u z => ?_)
    · by_cases n : b = a
      · subst n
        exact .inr ⟨_, _, hs_at⟩
      · exact .inl (hs_no n)
    · by_cases n : b = a
      · exact n
      · exact absurd (hs_no n) z
    · by_cases n : b = a
      · subst n
        cases hs_at.symm.trans z
        exact ⟨ha, by rw [List.length_map]; exact hl, vs, _, rv, ha⟩
      · cases (hs_no n).symm.trans z
end
open PySem.W in
/-- the goal that the head leaves -/
theorem walk_law {l : PySem.W.OpenLaw} {n k : Nat} {q : Program} {loose : List Str} {XP : (Str → Option Value) → Heap → Prop} {YP : World → Heap → Prop} {d : DefRec} {K : Params → PySem.W.Frag} {x : Str} {st : Stmt} {N : List Str}
    (hn : l.most = some n) (hn2 : n ≤ sizeLine) (hdf : d.params.defaults = []) (hr : Room (k + 1) callerA) (hi : importsNone q = true) (S : FnScope N [x] (defScope st))
    (hY : ∀ (w : World) (h : Heap), YP w h → (K w.params).In h)
    (F : ∀ (w : World) (mg : Str → Option Value) (fa : Addr) (h : Heap), (K w.params).In h → h.Ns mainGlobals mg → mg d.name = some (.ref fa) →
      ∃ fd : FuncData, Fun (K w.params) "law" "law" st fa fd ∧ (∀ (s : Shared) (u : Value), BindsTo s fd ⟨[u], []⟩ [(x, u)]) ∧
        ∀ (base : Heap) (A : Around) (s : Shared) (H : Hp) (cdv : Value) (a : Addr) (ns : List Int), ns.length ≤ n → Bed (K w.params) mg base A → Room k (A.deeper (envOfC "law" (defScope st) s.heap.objs.size fa cdv)) → SqL (K w.params) H a (ns.map V.int) →
          ∃ t, PSs (cxOf CX0 l.prog w (K w.params) mg base N "law" (defScope st) fa cdv A [] s H E0).nox (defBody st) t ∧ t { nx := fun _ _ => False, rt := fun v _ => v = .bl true } (start N [.ref a]) H) :
    PySem.W.WalkO q loose XP YP l.row.toRowW d [] (fun f vs => PySem.call f vs) := by
  refine Att.attach_call hn hdf fun w s₀ s₁ mg mb fa o pm cd doc a vs ns G Y ho hd hcd hmg hobj hints hlen hg => ?_
  have KX := hY w _ Y
  obtain ⟨fd, F1, F2, F3⟩ := F w mg fa _ KX G.T.g hmg
  obtain ⟨mm, z, _⟩ := (G.T.seer hi).mods
  exact law_true KX G.T.g G.T.b G.T.builtins G.T.nolimit ⟨mm, z⟩ hg hobj hints (Nat.le_trans hlen hn2) hr F1 S F2 fun base A s H cdv B hr' hS => F3 base A s H cdv a ns hlen B hr' hS
end Ge

set_option Elab.async false
set_option linter.all false
set_option maxRecDepth 100000
set_option maxHeartbeats 4000000
/-! data that stand in the heap, dicts too; what repr says of them -/
namespace Gr
open PySem PySem.Spec PyProof.Rows L2 Gn
def keyD : Key → PyData
  | .inl i => .int i
  | .inr x => .str x
mutual
inductive Dr (H : Hp) : V → PyData → Prop
  | non : Dr H .non .none
  | bl (b : Bool) : Dr H (.bl b) (.bool b)
  | int (i : Int) : Dr H (.int i) (.int i)
  | str (x : Str) : Dr H (.str x) (.str x)
  | lst {a : Addr} {xs : List V} {ds : List PyData} : H a = some (.lst xs) → DrAll H xs ds → Dr H (.ref a) (.list ds)
  | tup {a : Addr} {xs : List V} {ds : List PyData} : H a = some (.tup xs) → DrAll H xs ds → Dr H (.ref a) (.tuple ds)
  | dct {a : Addr} {kvs : List (Key × V)} {ds : List (PyData × PyData)} : H a = some (.dK kvs) → DrKv H kvs ds → Dr H (.ref a) (.dict ds)
inductive DrAll (H : Hp) : List V → List PyData → Prop
  | nil : DrAll H [] []
  | cons {v : V} {vs : List V} {d : PyData} {ds : List PyData} : Dr H v d → DrAll H vs ds → DrAll H (v :: vs) (d :: ds)
inductive DrKv (H : Hp) : List (Key × V) → List (PyData × PyData) → Prop
  | nil : DrKv H [] []
  | cons {k : Key} {v : V} {kvs : List (Key × V)} {d : PyData} {ds : List (PyData × PyData)} : Dr H v d → DrKv H kvs ds → DrKv H ((k, v) :: kvs) ((keyD k, d) :: ds)
end
section
variable {H H' : Hp}
mutual
theorem Dr.mono (s : ∀ a o, H a = some o → H' a = some o) : ∀ (d : PyData) (v : V), Dr H v d → Dr H' v d
  | .none, _, h => by cases h; exact .non
  | .bool b, _, h => by cases h; exact .bl b
  | .int i, _, h => by cases h; exact .int i
  | .str x, _, h => by cases h; exact .str x
  | .list ds, _, h => by
    cases h with
    | lst e r => exact .lst (s _ _ e) (DrAll.mono s ds _ r)
  | .tuple ds, _, h => by
    cases h with
    | tup e r => exact .tup (s _ _ e) (DrAll.mono s ds _ r)
  | .dict ds, _, h => by
    cases h with
    | dct e r => exact .dct (s _ _ e) (DrKv.mono s ds _ r)
theorem DrAll.mono (s : ∀ a o, H a = some o → H' a = some o) : ∀ (ds : List PyData) (vs : List V), DrAll H vs ds → DrAll H' vs ds
  | [], _, h => by cases h; exact .nil
  | d :: ds, _, h => by
    cases h with
    | cons e r => exact .cons (Dr.mono s d _ e) (DrAll.mono s ds _ r)
theorem DrKv.mono (s : ∀ a o, H a = some o → H' a = some o) : ∀ (ds : List (PyData × PyData)) (vs : List (Key × V)), DrKv H vs ds → DrKv H' vs ds
  | [], _, h => by cases h; exact .nil
  | (k, d) :: ds, _, h => by
    cases h with
    | cons e r => exact .cons (Dr.mono s d _ e) (DrKv.mono s ds _ r)
end
theorem DrAll.snoc : ∀ {vs : List V} {ds : List PyData} {v : V} {d : PyData}, DrAll H vs ds → Dr H v d → DrAll H (vs ++ [v]) (ds ++ [d])
  | [], _, _, _, .nil, h => .cons h .nil
  | _ :: _, _, _, _, .cons e r, h => .cons e (DrAll.snoc r h)
theorem DrAll.length : ∀ {vs : List V} {ds : List PyData}, DrAll H vs ds → vs.length = ds.length
  | _, _, .nil => rfl
  | _, _, .cons _ r => by rw [List.length_cons, List.length_cons, DrAll.length r]
end
section
variable {X : Cx} {pins : List (Addr × Obj)} {σ : L2.St} {H : Hp} {s : Shared}
theorem rel_key {k : Key} {u : Value} (h : keyIs k u = true) {s : Heap} : Reads s u (keyD k) [] := by
  rcases keyIs_shape h with ⟨i, t, rfl, rfl⟩ | ⟨x, t, rfl, rfl⟩
  · exact .int i t
  · exact .str x t
theorem keys_read {h : Heap} {P : Program} {w : World} : ∀ (ds : List (PyData × PyData)) (kvs : List (Key × V)) (vs : List (Key × Value)) (es : List DictEntry), DrKv H kvs ds → KV kvs vs → Pairs (mixKind P w) es vs →
    ∃ as, ReadsAll h (es.map (·.key)) (ds.map (·.1)) as ∧ sysModules ∉ as
  | [], _, _, _, e, r, p => by
    cases e
    cases r
    cases p
    exact ⟨_, ReadsAll.nil, by simp⟩
  | (k, d) :: ds, _, _, _, e, r, p => by
    cases e with
    | cons h1 h2 =>
      cases r with
      | cons r1 r2 =>
        cases p with
        | cons p1 p2 p3 =>
          obtain ⟨bs, q2, n2⟩ := keys_read (h := h) ds _ _ _ h2 r2 p3
          obtain ⟨r3, _⟩ := r1
          rw [← r3] at p1
          exact ⟨_, ReadsAll.cons (rel_key p1) q2, fun m => n2 m⟩
theorem not_sys (I : Inv X pins σ H s) (hs : ∃ o, X.base.get? sysModules = some o) {a : Addr} {o : HO} (h : H a = some o) : sysModules ≠ a := fun e => by
  obtain ⟨ob, hob⟩ := hs
  have n := (I.bs _ _ hob).2
  rw [e, h] at n
  cases n
mutual
theorem Dr.reads (I : Inv X pins σ H s) (hs : ∃ o, X.base.get? sysModules = some o) : ∀ (d : PyData) (v : V) (u : Value), Dr H v d → RelV v u → ∃ as, Reads s.heap u d as ∧ sysModules ∉ as
  | .none, _, _, h, r => by
    cases h
    cases r
    exact ⟨_, Reads.none, by simp⟩
  | .bool b, _, _, h, r => by
    cases h
    cases r
    exact ⟨_, Reads.bool b, by simp⟩
  | .int i, _, _, h, r => by
    cases h
    obtain ⟨t, rfl⟩ := r
    exact ⟨_, Reads.int i t, by simp⟩
  | .str x, _, _, h, r => by
    cases h
    obtain ⟨t, rfl⟩ := r
    exact ⟨_, Reads.str x t, by simp⟩
  | .list ds, _, _, h, r => by
    cases h with
    | lst e ha =>
      cases r
      obtain ⟨its, rv, ⟨o, n, ho, hc, _, hd⟩, _⟩ := I.list (SqL.of e)
      obtain ⟨as, hr, hn⟩ := DrAll.reads I hs ds _ its ha rv
      exact ⟨_, Reads.list ho hc hd hr, fun m => by
        rcases List.mem_cons.mp m with z | z
        · exact not_sys I hs e z
        · exact hn z⟩
  | .tuple ds, _, _, h, r => by
    cases h with
    | tup e ha =>
      cases r
      obtain ⟨its, rv, ⟨o, ho, hc, n, hd⟩, _⟩ := I.tuple (SqT.of e)
      obtain ⟨as, hr, hn⟩ := DrAll.reads I hs ds _ its ha rv
      exact ⟨_, Reads.tuple ho hc hd hr, hn⟩
  | .dict ds, _, _, h, r => by
    cases h with
    | @dct a kvs _ e ha =>
      cases r
      obtain ⟨_, _, vs, kv, o, es, ep, ho, hx, hdt, _, ps, _⟩ := (show ObjOk X.prog X.w H s.heap a (.dK kvs) from I.hok a _ e)
      obtain ⟨as, hr, hn⟩ := DrKv.reads I hs ds kvs vs es.toList ha kv ps
      obtain ⟨bs, q1, q2⟩ := keys_read (h := s.heap) ds kvs vs es.toList ha kv ps
      exact ⟨_, Reads.dict ho hx.1 hdt q1 hr, fun m => by
        rcases List.mem_append.mp m with z | z
        · rcases List.mem_cons.mp z with z | z
          · exact not_sys I hs e z
          · exact q2 z
        · exact hn z⟩
theorem DrAll.reads (I : Inv X pins σ H s) (hs : ∃ o, X.base.get? sysModules = some o) : ∀ (ds : List PyData) (vs : List V) (us : List Value), DrAll H vs ds → Vals vs us → ∃ as, ReadsAll s.heap us ds as ∧ sysModules ∉ as
  | [], _, _, h, r => by
    cases h
    cases r
    exact ⟨_, ReadsAll.nil, by simp⟩
  | d :: ds, _, _, h, r => by
    cases h with
    | cons h1 h2 =>
      cases r with
      | cons r1 r2 =>
        obtain ⟨as, q1, n1⟩ := Dr.reads I hs d _ _ h1 r1
        obtain ⟨bs, q2, n2⟩ := DrAll.reads I hs ds _ _ h2 r2
        exact ⟨_, ReadsAll.cons q1 q2, fun m => (List.mem_append.mp m).elim n1 n2⟩
theorem DrKv.reads (I : Inv X pins σ H s) (hs : ∃ o, X.base.get? sysModules = some o) : ∀ (ds : List (PyData × PyData)) (kvs : List (Key × V)) (vs : List (Key × Value)) (es : List DictEntry), DrKv H kvs ds → KV kvs vs → Pairs (mixKind X.prog X.w) es vs →
    ∃ as, ReadsAll s.heap (es.map (·.val)) (ds.map (·.2)) as ∧ sysModules ∉ as
  | [], _, _, _, h, r, p => by
    cases h
    cases r
    cases p
    exact ⟨_, ReadsAll.nil, by simp⟩
  | (k, d) :: ds, _, _, _, h, r, p => by
    cases h with
    | cons h1 h2 =>
      cases r with
      | cons r1 r2 =>
        cases p with
        | cons p1 p2 p3 =>
          obtain ⟨as, q1, n1⟩ := Dr.reads I hs d _ _ h1 r1.2
          obtain ⟨bs, q2, n2⟩ := DrKv.reads I hs ds _ _ _ h2 r2 p3
          rw [← p2] at q1
          exact ⟨_, ReadsAll.cons q1 q2, fun m => (List.mem_append.mp m).elim n1 n2⟩
end
end
/-- repr(v), v any data -/
def rRepr : List V → Hp → VK → Prop := fun xs H Q => ∃ v d, xs = [v] ∧ Dr H v d ∧ d.showable = true ∧ d.depth ≤ 60 ∧ d.shown.length ≤ sizeLine ∧ Q (.str d.shown) H
theorem call_repr {X : Cx} (hg : X.A.guards = some []) (hu : X.A.units + 64 < cLine) (hs : ∃ o, X.base.get? sysModules = some o) : CallR X (.builtin "repr") rRepr := by
  intro pins s σ H xs us Q I r h
  obtain ⟨v, d, rfl, hd, sh, dp, sz, q⟩ := h
  obtain ⟨u, rfl, ru⟩ := vals1 r
  have fin : ∀ h' tk uk, (∀ b o, s.heap.get? b = some o → h'.get? b = some o) → EP X pins σ Q (.str d.shown uk) { s with heap := h', toks := tk } := fun h' tk uk k => ⟨.str d.shown, H, I.kept k, ⟨uk, rfl⟩, q⟩
  obtain ⟨as, hr, hn⟩ := Dr.reads I hs d v u hd ru
  cases hr with
  | none => exact PySem.P.repr_of_none (by have e := fin s.heap (s.toks + 1) s.toks (fun _ _ e => e); simpa only [PyData.shown] using e)
  | bool b => exact PySem.P.repr_of_bool (by have e := fin s.heap (s.toks + 1) s.toks (fun _ _ e => e); simpa only [PyData.shown] using e)
  | int i t => exact PySem.P.repr_of_int (by simpa [PyData.showable] using sh) (by have e := fin s.heap (s.toks + 1) s.toks (fun _ _ e => e); simpa only [PyData.shown] using e)
  | str x t => exact PySem.P.repr_of_str (by have e := fin s.heap (s.toks + 1) s.toks (fun _ _ e => e); simpa only [PyData.shown] using e) (by simpa only [PyData.shown] using sz)
  | list h1 h2 h3 h4 => exact repr_of_reads' (Reads.list h1 h2 h3 h4) sh (fun _ => hn) hg (by omega) (fun _ _ e => e) (fun h' u tk k => fin h' tk u k) sz
  | tuple h1 h2 h3 h4 => exact repr_of_reads' (Reads.tuple h1 h2 h3 h4) sh (fun _ => hn) hg (by omega) (fun _ _ e => e) (fun h' u tk k => fin h' tk u k) sz
  | dict h1 h2 h3 h4 h5 => exact repr_of_reads' (Reads.dict h1 h2 h3 h4 h5) sh (fun _ => hn) hg (by omega) (fun _ _ e => e) (fun h' u tk k => fin h' tk u k) sz
end Gr

set_option Elab.async false
set_option linter.all false
set_option maxRecDepth 100000
set_option maxHeartbeats 4000000
/-! more rules and words -/
namespace Gk
open PySem PySem.Spec PyProof.Rows L2 Gn Gr
section
variable {X : Cx} {CX : CXT} {k : Nat} {f : Addr} {fd : FuncData} {ps ks : List Str} {sp : Sp} {E : XK} {x : Str} {p pos : Pos} {kws : List Keyword} {tk : TA} {g : List Value → List Value → List Value} {gV : List V → List V → List V}
/-- f(k = v, ..) -/
theorem pe_kw (F : FnOk X.prog X.w X.K X.mg X.base CX k f fd ps sp) (hr : Room k X.A) (hg : Gl X x) (hm : X.mg x = some (.ref f)) (hk : PySem.W.keepIn X.K (.ref f) = true) (hb : KBinds X.K fd ps ks g gV) (hx : Passes CX X E) (hkw : PK X kws tk)
    (hall : (backToKw pos (keywordEach kws X.env)).all (·.1.isSome) = true := by rfl) (hks : (backToKw pos (keywordEach kws X.env)).filterMap (·.1) = ks := by rfl) (hdb : (x == ("__debug__" : Str)) = false := by decide)
    (hpl : ((backTo pos (starEach [] X.env)).any (·.1) || (backToKw pos (keywordEach kws X.env)).any (·.1.isNone)) = false := by rfl) :
    PE X (.Call (.Name x p) [] kws pos) (tCallK sp gV E tNil tk) := by
  refine ⟨fun pins s σ H Q I h => ?_⟩
  refine wpAny_Call_Name_kw (ld_glob I hg hm ?_ hdb)
  refine PySem.W.callWith_KW0 (h₀ := X.base) I.ok.mod.kin hk hall ?_ hpl
  refine thn (hkw.run pos pins s σ H _ I h) fun ws s2 ⟨zs, H2, I2, rz, q2⟩ => ⟨I2.kIn, ?_⟩
  rw [hks]
  exact run_fnk (us := []) (vs := []) F hr hb hx I2 .nil rz q2
/-- one parameter, given by its name or its place -/
theorem kb_one {K : PySem.W.Frag} {y : Str} (b : ∀ (s : Shared) (w : Value), BindsTo s fd ⟨[], [(y, w)]⟩ [(y, w)]) (b' : ∀ (s : Shared) (w : Value), BindsTo s fd ⟨[w], []⟩ [(y, w)]) : KBinds K fd [y] [y] (fun us ws => us ++ ws) (fun vs zs => vs ++ zs) := by
  refine ⟨fun s us ws _ hl => ?_, fun r q => Vals.append r q⟩
  match us, ws, hl with
  | [], [w], _ => exact b s w
  | [w], [], _ => exact b' s w
  | [], [], hl => exact absurd hl (by simp)
  | [], _ :: _ :: _, hl => exact absurd hl (by simp)
  | [_], _ :: _, hl => exact absurd hl (by simp)
  | _ :: _ :: _, _, hl => exact absurd hl (by simp)
end
/-- no test in a comprehension -/
theorem yes_of {σ : L2.St} {H : Hp} {A B : Hp → Prop} (h : A H) : tYes σ H (fun b H3 => if b = true then A H3 else B H3) := by
  show if true = true then A H else B H
  rw [if_pos rfl]
  exact h
/-! ## texts of signs below 128 -/
def Asc (n : Nat) (x : Str) : Prop := x.length ≤ n ∧ ∀ c ∈ x.cps.toList, c < 128
theorem len_cps (x : Str) : x.cps.toList.length = x.length := by simp [Str.length]
theorem cps_app (x y : Str) : (x ++ y).cps.toList = x.cps.toList ++ y.cps.toList := by
  show (x.cps ++ y.cps).toList = _
  simp
theorem Asc.app {n m : Nat} {x y : Str} (h : Asc n x) (k : Asc m y) : Asc (n + m) (x ++ y) := by
  refine ⟨by rw [strLen_append]; have := h.1; have := k.1; omega, fun c hc => ?_⟩
  rw [cps_app] at hc
  exact (List.mem_append.mp hc).elim (h.2 c) (k.2 c)
theorem Asc.mono {n m : Nat} {x : Str} (h : Asc n x) (k : n ≤ m) : Asc m x := ⟨Nat.le_trans h.1 k, h.2⟩
theorem Asc.one {c : Nat} (h : c < 128) : Asc 1 (⟨#[c]⟩ : Str) := ⟨Nat.le_refl _, fun b hb => by
  have : b = c := by simpa using hb
  omega⟩
theorem Asc.cut {n : Nat} {x : Str} (h : Asc n x) (lo hi : Option Int) : Asc n (cutS x lo hi) := by
  have e : (cutS x lo hi).cps.toList = (x.cps.toList.drop (HT.sIx x.length 0 lo)).take (HT.sIx x.length x.length hi - HT.sIx x.length 0 lo) := by
    unfold cutS
    simp
  refine ⟨?_, fun c hc => ?_⟩
  · rw [← len_cps, e, List.length_take, List.length_drop, len_cps]
    have := h.1
    omega
  · rw [e] at hc
    exact h.2 c (List.mem_of_mem_drop (List.mem_of_mem_take hc))
theorem Asc.ok {n : Nat} {x : Str} (h : Asc n x) : PyData.strOk x = true := by
  unfold PyData.strOk
  rw [Array.all_eq_true']
  intro c hc
  have := h.2 c (by simpa using hc)
  simp only [decide_eq_true_eq]
  omega
theorem Asc.shown {n : Nat} {x : Str} (h : Asc n x) : (reprText x).length ≤ 10 * n + 2 := by
  have := PySem.StrLaws.reprText_len x fun c hc => Nat.lt_of_lt_of_le (h.2 c hc) (by decide)
  have := h.1
  omega
/-! ## what is new since -/
def Nw (H H' : Hp) : Hp := fun a => match H a with | none => H' a | some _ => none
section
variable {H H' H2 : Hp} {a : Addr} {o : HO}
theorem nw_of (h : Nw H H' a = some o) : H a = none ∧ H' a = some o := by
  unfold Nw at h
  cases e : H a with
  | none => rw [e] at h; exact ⟨rfl, h⟩
  | some u => rw [e] at h; cases h
theorem nw_to (h : H a = none) (k : H' a = some o) : Nw H H' a = some o := by
  unfold Nw
  rw [h]
  exact k
theorem nw_sub : ∀ a o, Nw H H' a = some o → H' a = some o := fun a o h => (nw_of h).2
end
/-! ## numbers as texts -/
theorem shown_int {i : Int} (h : i.natAbs < 10 ^ 20) : (PyData.int i).showable = true ∧ (PyData.int i).shown.length ≤ 21 := by
  constructor
  · simp only [PyData.showable, decide_eq_true_eq]
    by_cases z : i.natAbs = 0
    · rw [z]; decide
    · refine (Nat.log2_lt z).mpr (Nat.lt_trans h ?_)
      decide +kernel
  · simp only [PyData.shown]
    show (Str.ofString (toString i)).length ≤ 21
    rw [PySem.ofString_length]
    exact int_text_length_le10 (by decide) h
/-! ## how much a value's text may hold -/
def Ok (n : Nat) (x : PyData) : Prop := x.showable = true ∧ x.depth ≤ n ∧ x.shown.length ≤ 200 * 4 ^ n
theorem pow_pos4 (n : Nat) : 1 ≤ 4 ^ n := Nat.pow_pos (by decide)
theorem pow_le4 {n m : Nat} (h : n ≤ m) : 4 ^ n ≤ 4 ^ m := Nat.pow_le_pow_right (by decide) h
theorem pow_s4 (n : Nat) : 4 ^ (n + 1) = 4 * 4 ^ n := by rw [Nat.pow_succ, Nat.mul_comm]
theorem Ok.mono {n m : Nat} {x : PyData} (h : Ok n x) (k : n ≤ m) : Ok m x :=
  ⟨h.1, Nat.le_trans h.2.1 k, Nat.le_trans h.2.2 (Nat.mul_le_mul_left _ (pow_le4 k))⟩
theorem Ok.flat {n : Nat} {x : PyData} (h1 : x.showable = true) (h2 : x.depth = 0) (h3 : x.shown.length ≤ 200) : Ok n x := by
  have := pow_pos4 n
  exact ⟨h1, by omega, by omega⟩
theorem ok_str {n : Nat} {x : Str} (h : Asc 19 x) : Ok n (.str x) := by
  have := h.shown
  refine Ok.flat (by simp only [PyData.showable]) (by simp only [PyData.depth]) ?_
  simp only [PyData.shown]
  omega
theorem ok_int {n : Nat} {i : Int} (h : i.natAbs < 10 ^ 20) : Ok n (.int i) := by
  obtain ⟨a, b⟩ := shown_int h
  exact Ok.flat a (by simp only [PyData.depth]) (by omega)
theorem ok_all {n : Nat} : ∀ {ds : List PyData}, (∀ x ∈ ds, Ok n x) → PyData.showableAll ds = true ∧ PyData.depthAll ds ≤ n ∧ (PyData.shownAll ds).length = ds.length ∧ ((PyData.shownAll ds).map (·.length)).sum ≤ ds.length * (200 * 4 ^ n)
  | [], _ => by
    refine ⟨by simp only [PyData.showableAll], by simp only [PyData.depthAll]; omega, by simp only [PyData.shownAll]; rfl, by simp only [PyData.shownAll]; simp⟩
  | x :: r, h => by
    obtain ⟨a1, a2, a3⟩ := h x (List.mem_cons_self ..)
    obtain ⟨b1, b2, b3, b4⟩ := ok_all (ds := r) fun y hy => h y (List.mem_cons_of_mem _ hy)
    refine ⟨?_, ?_, ?_, ?_⟩
    · simp only [PyData.showableAll, a1, b1, Bool.and_self]
    · simp only [PyData.depthAll]
      omega
    · simp only [PyData.shownAll, List.length_cons, b3]
    · simp only [PyData.shownAll, List.map_cons, List.sum_cons, List.length_cons]
      rw [Nat.succ_mul]
      omega
theorem two_mul {k n : Nat} (h : k ≤ 2) : k * (200 * 4 ^ n) ≤ 2 * (200 * 4 ^ n) := Nat.mul_le_mul_right _ h
theorem ok_list {n : Nat} {ds : List PyData} (h : ∀ x ∈ ds, Ok n x) (h2 : ds.length ≤ 2) : Ok (n + 1) (.list ds) := by
  obtain ⟨b1, b2, b3, b4⟩ := ok_all h
  have := listText_len_le (PyData.shownAll ds)
  have := two_mul (n := n) h2
  have := pow_pos4 n
  refine ⟨by simp only [PyData.showable, b1], by simp only [PyData.depth]; omega, ?_⟩
  simp only [PyData.shown]
  rw [pow_s4]
  omega
theorem ok_tuple {n : Nat} {ds : List PyData} (h : ∀ x ∈ ds, Ok n x) (h2 : ds.length ≤ 2) : Ok (n + 1) (.tuple ds) := by
  obtain ⟨b1, b2, b3, b4⟩ := ok_all h
  have := tupleText_len_le (PyData.shownAll ds)
  have := two_mul (n := n) h2
  have := pow_pos4 n
  refine ⟨by simp only [PyData.showable, b1], by simp only [PyData.depth]; omega, ?_⟩
  simp only [PyData.shown]
  rw [pow_s4]
  omega
theorem ok_kvs {n : Nat} : ∀ {ds : List (PyData × PyData)}, (∀ p ∈ ds, (∃ x, p.1 = .str x ∧ Asc 19 x) ∧ Ok n p.2) → PyData.showableKv ds = true ∧ PyData.depthKv ds ≤ n ∧ (PyData.shownKv ds).length = ds.length ∧ ((PyData.shownKv ds).map (·.length)).sum ≤ ds.length * (194 + 200 * 4 ^ n)
  | [], _ => by
    refine ⟨by simp only [PyData.showableKv], by simp only [PyData.depthKv]; omega, by simp only [PyData.shownKv]; rfl, by simp only [PyData.shownKv]; simp⟩
  | (kx, x) :: r, h => by
    obtain ⟨⟨y, e, hy⟩, a1, a2, a3⟩ := h (kx, x) (List.mem_cons_self ..)
    obtain ⟨b1, b2, b3, b4⟩ := ok_kvs (ds := r) fun y hy => h y (List.mem_cons_of_mem _ hy)
    have e : kx = .str y := e
    subst e
    have a1 : x.showable = true := a1
    have a2 : x.depth ≤ n := a2
    have a3 : x.shown.length ≤ 200 * 4 ^ n := a3
    have hy' := hy.shown
    refine ⟨?_, ?_, ?_, ?_⟩
    · simp only [PyData.showableKv, PyData.showable, a1, b1, Bool.and_self]
    · simp only [PyData.depthKv, PyData.depth]
      omega
    · simp only [PyData.shownKv, List.length_cons, b3]
    · simp only [PyData.shownKv, List.map_cons, List.sum_cons, List.length_cons, PyData.shown]
      rw [strLen_append, strLen_append, Nat.succ_mul]
      have e2 : ((": " : String) : Str).length = 2 := rfl
      omega
theorem ok_dict {n : Nat} {ds : List (PyData × PyData)} (h : ∀ p ∈ ds, (∃ x, p.1 = .str x ∧ Asc 19 x) ∧ Ok n p.2) (h2 : ds.length ≤ 2) : Ok (n + 1) (.dict ds) := by
  obtain ⟨b1, b2, b3, b4⟩ := ok_kvs h
  have := dictText_len_le (PyData.shownKv ds)
  have : ds.length * (194 + 200 * 4 ^ n) ≤ 2 * (194 + 200 * 4 ^ n) := Nat.mul_le_mul_right _ h2
  have := pow_pos4 n
  refine ⟨by simp only [PyData.showable, b1], by simp only [PyData.depth]; omega, ?_⟩
  simp only [PyData.shown]
  rw [pow_s4]
  omega
/-! ## keys '0', '1', .. -/
def tagS (n : Nat) : Str := ((toString (n : Int) : String) : Str)
def tags : Nat → List V → List (Key × V)
  | _, [] => []
  | n, v :: r => ((Sum.inr (tagS n) : Key), v) :: tags (n + 1) r
def tagD : Nat → List PyData → List (PyData × PyData)
  | _, [] => []
  | n, d :: r => (.str (tagS n), d) :: tagD (n + 1) r
theorem tags_snoc : ∀ (vs : List V) (n : Nat) (v : V), tags n (vs ++ [v]) = tags n vs ++ [((Sum.inr (tagS (n + vs.length)) : Key), v)]
  | [], n, v => rfl
  | w :: r, n, v => by
    have e : n + 1 + r.length = n + (w :: r).length := by rw [List.length_cons]; omega
    show (_, w) :: tags (n + 1) (r ++ [v]) = (_, w) :: (tags (n + 1) r ++ _)
    rw [tags_snoc r (n + 1) v, e]
theorem tags_dr {H : Hp} : ∀ {vs : List V} {ds : List PyData} (n : Nat), DrAll H vs ds → DrKv H (tags n vs) (tagD n ds)
  | _, _, _, .nil => .nil
  | _, _, n, .cons e r => .cons e (tags_dr (n + 1) r)
theorem tagD_len : ∀ (ds : List PyData) (n : Nat), (tagD n ds).length = ds.length
  | [], _ => rfl
  | _ :: r, n => by show (tagD (n + 1) r).length + 1 = r.length + 1; rw [tagD_len r]
theorem tag_asc {n : Nat} (h : n < 10) : Asc 19 (tagS n) := by
  have : n = 0 ∨ n = 1 ∨ n = 2 ∨ n = 3 ∨ n = 4 ∨ n = 5 ∨ n = 6 ∨ n = 7 ∨ n = 8 ∨ n = 9 := by omega
  rcases this with rfl | rfl | rfl | rfl | rfl | rfl | rfl | rfl | rfl | rfl <;> exact ⟨by decide +kernel, by decide +kernel⟩
theorem tagD_ok {m : Nat} : ∀ {ds : List PyData} (n : Nat), n + ds.length ≤ 9 → (∀ x ∈ ds, Ok m x) → ∀ p ∈ tagD n ds, (∃ x, p.1 = .str x ∧ Asc 19 x) ∧ Ok m p.2
  | [], _, _, _, p, hp => by cases hp
  | d :: r, n, hn, h, p, hp => by
    rw [List.length_cons] at hn
    rcases List.mem_cons.mp hp with e | hp
    · subst e
      exact ⟨⟨_, rfl, tag_asc (by omega)⟩, h d (List.mem_cons_self ..)⟩
    · exact tagD_ok (n + 1) (by omega) (fun x hx => h x (List.mem_cons_of_mem _ hx)) p hp
theorem tags_merge {vs : List V} (h : vs.length ≤ 2) : mergeK [] (tags 0 vs) = tags 0 vs := by
  match vs, h with
  | [], _ => rfl
  | [a], _ => rfl
  | [a, b], _ =>
    have n01 : ¬ (Sum.inr (tagS 0) : Key) = Sum.inr (tagS 1) := by decide +kernel
    show putK (putK [] (Sum.inr (tagS 0) : Key) a) (Sum.inr (tagS 1) : Key) b = [((Sum.inr (tagS 0) : Key), a), ((Sum.inr (tagS 1) : Key), b)]
    have e1 : putK [] (Sum.inr (tagS 0) : Key) a = [((Sum.inr (tagS 0) : Key), a)] := rfl
    rw [e1]
    exact putK_new b ((valV_neg n01).trans valV_nil)
/-- .. and a text is made of signs below 128 -/
def OkT (n : Nat) (x : PyData) : Prop := Ok n x ∧ ∀ s, x = .str s → Asc 19 s
theorem okT_of {n : Nat} {x : PyData} (h : Ok n x) (k : ∀ s, x ≠ .str s) : OkT n x := ⟨h, fun s e => absurd e (k s)⟩
theorem okT_str {n : Nat} {x : Str} (h : Asc 19 x) : OkT n (.str x) := ⟨ok_str h, fun s e => by cases e; exact h⟩
/-! ## the type of a value -/
def Ext (H H' : Hp) : Prop := ∀ a o, H a = some o → H' a = some o
theorem Ext.refl {H : Hp} : Ext H H := fun _ _ e => e
theorem Ext.trans {H H' H2 : Hp} (h : Ext H H') (k : Ext H' H2) : Ext H H2 := fun a o e => k a o (h a o e)
theorem Ext.new {H : Hp} {p : Addr} {o : HO} (h : H p = none) : Ext H (upd H p o) := fun a u e => new_same h a u e
inductive TyT (H : Hp) : V → String → Prop
  | non : TyT H .non "NoneType"
  | bl (b : Bool) : TyT H (.bl b) "bool"
  | int (i : Int) : TyT H (.int i) "int"
  | str (x : Str) : TyT H (.str x) "str"
  | lst {a : Addr} {xs : List V} : H a = some (.lst xs) → TyT H (.ref a) "list"
  | tup {a : Addr} {xs : List V} : H a = some (.tup xs) → TyT H (.ref a) "tuple"
  | dct {a : Addr} {kvs : List (Key × V)} : H a = some (.dK kvs) → TyT H (.ref a) "dict"
theorem TyT.x {K : PySem.W.Frag} {H : Hp} {v : V} {T : String} (h : TyT H v T) : TyX K H v (.type T) := by
  cases h with
  | non => exact .base .non
  | bl b => exact .base (.bl b)
  | int i => exact .base (.int i)
  | str x => exact .base (.str x)
  | lst e => exact .base (.lst e)
  | tup e => exact .base (.tup e)
  | dct e => exact .base (.dK e)
theorem TyT.ext {H H' : Hp} {v : V} {T : String} (h : TyT H v T) (k : Ext H H') : TyT H' v T := by
  cases h with
  | non => exact .non
  | bl b => exact .bl b
  | int i => exact .int i
  | str x => exact .str x
  | lst e => exact .lst (k _ _ e)
  | tup e => exact .tup (k _ _ e)
  | dct e => exact .dct (k _ _ e)
theorem dr_ty {H : Hp} {v : V} {x : PyData} (h : Dr H v x) : (∃ s, v = .str s ∧ x = .str s) ∨ (∃ i, v = .int i) ∨ (TyT H v "NoneType" ∨ TyT H v "bool" ∨ TyT H v "list" ∨ TyT H v "tuple" ∨ TyT H v "dict") := by
  cases h with
  | non => exact .inr (.inr (.inl .non))
  | bl b => exact .inr (.inr (.inr (.inl (.bl b))))
  | int i => exact .inr (.inl ⟨i, rfl⟩)
  | str x => exact .inl ⟨x, rfl, rfl⟩
  | lst e _ => exact .inr (.inr (.inr (.inr (.inl (.lst e)))))
  | tup e _ => exact .inr (.inr (.inr (.inr (.inr (.inl (.tup e))))))
  | dct e _ => exact .inr (.inr (.inr (.inr (.inr (.inr (.dct e))))))
/-- isinstance of a value whose type is told -/
theorem isi_ty {K : PySem.W.Frag} {H : Hp} {v : V} {T U : String} {r : Bool} {Q : VK} (h : TyT H v T) (k : kitB T U = some r) (q : Q (.bl r) H) : rIsi K [v, .ty U] H Q :=
  ⟨v, .ty U, .type T, .type U, r, rfl, .ty U, h.x, kit_ty k, q⟩
/-! ## what a name is, what an amount is -/
def letters : Str := "abcdefghijklmnopqrstuvwxyz"
def isL (c : Nat) : Bool := decide (c ∈ letters.cps.toList)
def nameOk (x : Str) : Bool := decide (1 ≤ x.length) && (decide (x.length ≤ 8) && x.cps.toList.all isL)
def amtOk (i : Int) : Bool := decide (1 ≤ i) && decide (i ≤ 1000000000)
def NameV (H : Hp) (v : V) (r : Bool) : Prop := (∃ x, v = .str x ∧ Asc 19 x ∧ r = nameOk x) ∨ (r = false ∧ (TyT H v "NoneType" ∨ TyT H v "bool" ∨ TyT H v "int" ∨ TyT H v "list" ∨ TyT H v "tuple" ∨ TyT H v "dict"))
def AmtV (H : Hp) (v : V) (r : Bool) : Prop := (∃ i, v = .int i ∧ r = amtOk i) ∨ (r = false ∧ (TyT H v "NoneType" ∨ TyT H v "bool" ∨ TyT H v "str" ∨ TyT H v "list" ∨ TyT H v "tuple" ∨ TyT H v "dict"))
def spName : Sp := fun vs H Q _ => ∃ v r, vs = [v] ∧ NameV H v r ∧ ∀ H', Ext H H' → Q (.bl r) H'
def spAmt : Sp := fun vs H Q _ => ∃ v r, vs = [v] ∧ AmtV H v r ∧ ∀ H', Ext H H' → Q (.bl r) H'
theorem NameV.ext {H H' : Hp} {v : V} {r : Bool} (h : NameV H v r) (k : Ext H H') : NameV H' v r := by
  rcases h with h | ⟨e, h⟩
  · exact .inl h
  · refine .inr ⟨e, ?_⟩
    rcases h with h | h | h | h | h | h
    · exact .inl (h.ext k)
    · exact .inr (.inl (h.ext k))
    · exact .inr (.inr (.inl (h.ext k)))
    · exact .inr (.inr (.inr (.inl (h.ext k))))
    · exact .inr (.inr (.inr (.inr (.inl (h.ext k)))))
    · exact .inr (.inr (.inr (.inr (.inr (h.ext k)))))
theorem AmtV.ext {H H' : Hp} {v : V} {r : Bool} (h : AmtV H v r) (k : Ext H H') : AmtV H' v r := by
  rcases h with h | ⟨e, h⟩
  · exact .inl h
  · refine .inr ⟨e, ?_⟩
    rcases h with h | h | h | h | h | h
    · exact .inl (h.ext k)
    · exact .inr (.inl (h.ext k))
    · exact .inr (.inr (.inl (h.ext k)))
    · exact .inr (.inr (.inr (.inl (h.ext k))))
    · exact .inr (.inr (.inr (.inr (.inl (h.ext k)))))
    · exact .inr (.inr (.inr (.inr (.inr (h.ext k)))))
theorem dr_judged {H : Hp} {v : V} {x : PyData} {n : Nat} (h : Dr H v x) (k : OkT n x) : (∃ r, NameV H v r) ∧ ∃ r, AmtV H v r := by
  rcases dr_ty h with ⟨s, rfl, rfl⟩ | ⟨i, rfl⟩ | h | h | h | h | h
  · exact ⟨⟨_, .inl ⟨s, rfl, k.2 s rfl, rfl⟩⟩, ⟨false, .inr ⟨rfl, .inr (.inr (.inl (.str s)))⟩⟩⟩
  · exact ⟨⟨false, .inr ⟨rfl, .inr (.inr (.inl (.int i)))⟩⟩, ⟨_, .inl ⟨i, rfl, rfl⟩⟩⟩
  · exact ⟨⟨false, .inr ⟨rfl, .inl h⟩⟩, ⟨false, .inr ⟨rfl, .inl h⟩⟩⟩
  · exact ⟨⟨false, .inr ⟨rfl, .inr (.inl h)⟩⟩, ⟨false, .inr ⟨rfl, .inr (.inl h)⟩⟩⟩
  · exact ⟨⟨false, .inr ⟨rfl, .inr (.inr (.inr (.inl h)))⟩⟩, ⟨false, .inr ⟨rfl, .inr (.inr (.inr (.inl h)))⟩⟩⟩
  · exact ⟨⟨false, .inr ⟨rfl, .inr (.inr (.inr (.inr (.inl h))))⟩⟩, ⟨false, .inr ⟨rfl, .inr (.inr (.inr (.inr (.inl h))))⟩⟩⟩
  · exact ⟨⟨false, .inr ⟨rfl, .inr (.inr (.inr (.inr (.inr h))))⟩⟩, ⟨false, .inr ⟨rfl, .inr (.inr (.inr (.inr (.inr h))))⟩⟩⟩
end Gk

set_option Elab.async false
set_option linter.all false
set_option maxRecDepth 100000
set_option maxHeartbeats 4000000
/-! rules for objects: static methods, keywords of a method, == and != by an own __eq__, tuple(dict) -/
namespace Go
open PySem PySem.Spec PyProof.Rows L2 Gn Gr Gk
section
variable {X : Cx} {CX : CXT} {k n : Nat} {C f g p : Addr} {mc : Value} {fd : FuncData} {ps ks : List Str} {sp : Sp} {E : XK} {o e : Expr} {es : List Expr} {kws : List Keyword} {m : Str} {pos apos : Pos} {ta : TE} {t tk : TA} {pl : Sem Bool} {gg : List Value → List Value → List Value} {gV : List V → List V → List V}
/-! ### a static method, through its class -/
structure SMet (K : PySem.W.Frag) (C : Addr) (mc : Value) (m : Str) (p g : Addr) : Prop where
  at_ : PySem.W.findCls K (.ref C) mc m = some (.get (.builtin "staticmethod.__get__") (.ref p) .none (.ref C))
  rc : ∃ rest, PySem.W.recIn K p "staticmethod" = some (.ref g :: rest)
theorem getsm_ok {pins : List (Addr × Obj)} {σ : L2.St} {H : Hp} {s : Shared} {A : Around} {E : Value → Shared → Prop} {Q : Value × List Value → Shared → Prop} (I : Inv X pins σ H s) (r : ClX.CRead X.K C mc) (c : SMet X.K C mc m p g)
    (h : ∀ s', Inv X pins σ H s' → Q (.ref g, []) s') : wpAny (model X.prog X.w) A (getMethod (.ref C) m pl) Q E s := by
  obtain ⟨rest, hp⟩ := c.rc
  refine PySem.W.method_cls I.kIn r.ga (PySem.W.cls_bind I.kIn r.rd c.at_ (wpAny_call (PySem.W.sm_get (s := { s with toks := s.toks + 1 }) I.kIn hp (PySem.W.handed_on rfl ?_))))
  exact h _ (I.tok _)
def tSMeth (C : Addr) (sp : Sp) (E : XK) (ta : TE) (t : TA) : TE := fun σ H Q => ta σ H fun x H1 => x = .ref C ∧ t σ H1 fun vs H2 => sp vs H2 Q E
theorem pe_smeth (he : PE X o ta) (r : ClX.CRead X.K C mc) (c : SMet X.K C mc m p g) (hk : PySem.W.keepIn X.K (.ref g) = true) (F : FnOk X.prog X.w X.K X.mg X.base CX k g fd ps sp) (hr : Room k X.A) (hb : Binds X.K fd ps []) (hx : Passes CX X E) (ha : PA X (e :: es) t)
    (hst : starEach (e :: es) X.env = (false, eval e X.env) :: starEach es X.env := by rfl) (hpl : (backTo pos (starEach es X.env)).any (·.1) = false := by rfl)
    (ht : eval (.Call (.Attribute o m apos) (e :: es) [] pos) X.env = (do
      let ov ← eval o X.env
      standAt apos.atName
      let (f, first) ← holding [ov] (getMethod ov m pl)
      callWith pos f first (backTo pos (starEach (e :: es) X.env)) (backToKw pos (keywordEach [] X.env))) := by rfl) :
    PE X (.Call (.Attribute o m apos) (e :: es) [] pos) (tSMeth C sp E ta t) := by
  refine ⟨fun pins s σ H Q I h => ?_⟩
  refine PySem.W.methodCall_KW (pl := pl) (thn (he.run pins s σ H _ I h) fun u s1 ⟨x, H1, I1, rx, ex, q⟩ => ?_) ht
  subst ex
  obtain rfl : u = Value.ref C := rx
  refine getsm_ok I1 r c fun s2 I2 => ?_
  refine PySem.W.callWith_K (first := []) (h₀ := X.base) I2.ok.mod.kin hk (thn (ha.run pos pins s2 σ H1 _ I2 q) fun us s3 ⟨vs, H2, I3, rv, q2⟩ => ⟨I3.kIn, ?_⟩) hst hpl
  exact run_fn (us := us) (vs := vs) (dvs := []) F hr hb .nil hx I3 rv (by rw [List.append_nil]; exact q2)
def tSMethK (C : Addr) (sp : Sp) (gV : List V → List V → List V) (E : XK) (ta : TE) (tk : TA) : TE := fun σ H Q => ta σ H fun x H1 => x = .ref C ∧ tk σ H1 fun zs H2 => sp (gV [] zs) H2 Q E
theorem pe_smethK (he : PE X o ta) (r : ClX.CRead X.K C mc) (c : SMet X.K C mc m p g) (hk : PySem.W.keepIn X.K (.ref g) = true) (F : FnOk X.prog X.w X.K X.mg X.base CX k g fd ps sp) (hr : Room k X.A) (hb : KBinds X.K fd ps ks gg gV) (hx : Passes CX X E) (hkw : PK X kws tk)
    (hall : (backToKw pos (keywordEach kws X.env)).all (·.1.isSome) = true := by rfl) (hks : (backToKw pos (keywordEach kws X.env)).filterMap (·.1) = ks := by rfl)
    (hpl : ((backTo pos (starEach [] X.env)).any (·.1) || (backToKw pos (keywordEach kws X.env)).any (·.1.isNone)) = false := by rfl)
    (ht : eval (.Call (.Attribute o m apos) [] kws pos) X.env = (do
      let ov ← eval o X.env
      standAt apos.atName
      let (f, first) ← holding [ov] (getMethod ov m pl)
      callWith pos f first (backTo pos (starEach [] X.env)) (backToKw pos (keywordEach kws X.env))) := by rfl) :
    PE X (.Call (.Attribute o m apos) [] kws pos) (tSMethK C sp gV E ta tk) := by
  refine ⟨fun pins s σ H Q I h => ?_⟩
  refine PySem.W.methodCall_KW (pl := pl) (thn (he.run pins s σ H _ I h) fun u s1 ⟨x, H1, I1, rx, ex, q⟩ => ?_) ht
  subst ex
  obtain rfl : u = Value.ref C := rx
  refine getsm_ok I1 r c fun s2 I2 => ?_
  refine PySem.W.callWith_KW0 (first := []) (h₀ := X.base) I2.ok.mod.kin hk hall ?_ hpl
  refine thn (hkw.run pos pins s2 σ H1 _ I2 q) fun ws s3 ⟨zs, H2, I3, rz, q2⟩ => ⟨I3.kIn, ?_⟩
  rw [hks]
  exact run_fnk (us := []) (vs := []) F hr hb hx I3 .nil rz q2
/-! ### o.m(k = v) -/
def tMethK (C : Addr) (m : Str) (sp : Sp) (gV : List V → List V → List V) (E : XK) (ta : TE) (tk : TA) : TE := fun σ H Q => ta σ H fun x H1 => ∃ a dx fs, x = .ref a ∧ H1 a = some (.ins C dx fs) ∧ fs.lookup m = none ∧ tk σ H1 fun zs H2 => sp (gV [x] zs) H2 Q E
theorem pe_methK (he : PE X o ta) (c : Cls X.K C) (hm : Meth X.K C m f) (F : FnOk X.prog X.w X.K X.mg X.base CX k f fd ps sp) (hr : Room k X.A) (hb : KBinds X.K fd ps ks gg gV) (hx : Passes CX X E) (hkw : PK X kws tk)
    (hall : (backToKw pos (keywordEach kws X.env)).all (·.1.isSome) = true := by rfl) (hks : (backToKw pos (keywordEach kws X.env)).filterMap (·.1) = ks := by rfl)
    (hpl : ((backTo pos (starEach [] X.env)).any (·.1) || (backToKw pos (keywordEach kws X.env)).any (·.1.isNone)) = false := by rfl)
    (ht : eval (.Call (.Attribute o m apos) [] kws pos) X.env = (do
      let ov ← eval o X.env
      standAt apos.atName
      let (f, first) ← holding [ov] (getMethod ov m pl)
      callWith pos f first (backTo pos (starEach [] X.env)) (backToKw pos (keywordEach kws X.env))) := by rfl) :
    PE X (.Call (.Attribute o m apos) [] kws pos) (tMethK C m sp gV E ta tk) := by
  refine ⟨fun pins s σ H Q I h => ?_⟩
  refine PySem.W.methodCall_KW (pl := pl) (thn (he.run pins s σ H _ I h) fun u s1 ⟨x, H1, I1, rx, a, dx, fs, ex, ea, l, q⟩ => ?_) ht
  subst ex
  obtain rfl : u = Value.ref a := rx
  refine getmeth_ok I1 ea c hm l ?_
  refine PySem.W.callWith_KW0 (first := [.ref a]) (h₀ := X.base) I1.ok.mod.kin hm.kp hall ?_ hpl
  refine thn (hkw.run pos pins s1 σ H1 _ I1 q) fun ws s3 ⟨zs, H2, I3, rz, q2⟩ => ⟨I3.kIn, ?_⟩
  rw [hks]
  exact run_fnk (us := [.ref a]) (vs := [.ref a]) F hr hb hx I3 (.cons rfl .nil) rz q2
/-! ### == and != by an own __eq__ -/
/-- the own __eq__ at f of the class at C; no __ne__ besides object's -/
structure OwnE (K : PySem.W.Frag) (C f : Addr) : Prop where
  eq : PySem.W.findIn K (.ref C) "__eq__" = some (some (.ref f))
  fn : PySem.W.isFn K (.ref f) = true
  cls : ∃ nm q N bs hdct sn sub ab col dd k0 k1 k2 k3 k5 newId, K.lookup C = some (excClassObj nm q C N bs [.type "object"] hdct sn sub ab col dd k0 k1 k2 k3 k5 newId) ∧ PySem.W.nsOkIn K N = true ∧ PySem.W.nsIn K N "__eq__" = some (some (.ref f)) ∧ PySem.W.nsIn K N "__ne__" = some none
  ob : ∃ of : Obj, K.lookup f = some of ∧ of.cls = .type "function"
/-- two instances of the class; the own == is asked -/
def rOwn (C : Addr) (sp : Sp) (E : XK) (neg : Bool) : R2 := fun x y H Q => ∃ a b dx dy fs gs, x = .ref a ∧ y = .ref b ∧ H a = some (.ins C dx fs) ∧ H b = some (.ins C dy gs) ∧ sp [.ref a, .ref b] H (fun v H' => ∃ r, v = .bl r ∧ Q (.bl (if neg then !r else r)) H') E
theorem op_eqO (F : FnOk X.prog X.w X.K X.mg X.base CX n f fd ps sp) (hr : Room n X.A) (w : OwnE X.K C f) (hb : Binds X.K fd ps []) (hx : Passes CX X E) : OpR X (compareOp .Eq) (rOwn C sp E false) := by
  intro pins s σ H x y v u Q I rx ry h
  obtain ⟨a, b, dx, dy, fs, gs, rfl, rfl, ha, hb', hs⟩ := h
  cases rx
  cases ry
  obtain ⟨mA, O1, _⟩ := ins_get I.hok ha
  obtain ⟨mB, O2, _⟩ := ins_get I.hok hb'
  obtain ⟨od, J, _⟩ := O1.look
  obtain ⟨od', J', _⟩ := O2.look
  obtain ⟨m, hF⟩ := I.fr
  show wpAny (model X.prog X.w) X.A (richCompare .Eq (.ref a) (.ref b)) (EP X pins σ Q) X.xe s
  refine PySem.W.cmp_K (op := .Eq) (tb := .ref C) hr.units0 hF I.ok.mod.kin J J'.type (by simp [PySem.W.notFirst]) w.eq w.fn ?_
  refine thn (run_fn (us := [.ref a, .ref b]) (vs := [.ref a, .ref b]) (dvs := []) F hr hb .nil hx I (.cons rfl (.cons rfl .nil)) (by rw [List.append_nil]; exact hs)) fun r s' hq => ?_
  obtain ⟨z, H', I', rz, c, rfl, q⟩ := hq
  cases rz
  exact ⟨.bl c, H', I', rfl, q⟩
theorem ns_has {K : PySem.W.Frag} {h : Heap} {N : Addr} {m : Str → Option Value} {x : Str} {v : Value} (X : K.In h) (G : h.Ns N m) (e : PySem.W.nsIn K N x = some (some v)) : m x = some v := by
  obtain ⟨o, es, ep, ho, hd, _, hf⟩ := G
  rw [← hf]
  unfold PySem.W.nsIn at e
  cases q : K.lookup N with
  | none => rw [q] at e; cases e
  | some ob =>
    have z := X _ _ q
    rw [ho] at z
    cases z
    rw [q] at e
    obtain ⟨c, dd, dt, sl⟩ := o
    have hd : dt = .dict es ep := hd
    subst hd
    simp only at e
    unfold nsFind findBy
    rw [← Array.find?_toList]
    split at e
    · rename_i en he
      rw [he]
      cases e
      rfl
    · split at e <;> cases e
theorem eq_obj : ∃ y : Option Value, typeLookup (.type "object") "__eq__" = pure y := ⟨_, PySem.F.slot_object_eq.lookup⟩
theorem op_neO (F : FnOk X.prog X.w X.K X.mg X.base CX n f fd ps sp) (hr : Room (n + 1) X.A) (w : OwnE X.K C f) (hb : Binds X.K fd ps []) (hx : ∀ (pins : List (Addr × Obj)) (σ : L2.St) (H : Hp) (s : Shared) (e : Value) (s' : Shared), Inv X pins σ H s → CX X.stack H s E e s' → X.xe e s') : OpR X (compareOp .NotEq) (rOwn C sp E true) := by
  intro pins s σ H x y v u Q I rx ry h
  obtain ⟨a, b, dx, dy, fs, gs, rfl, rfl, ha, hb', hs⟩ := h
  cases rx
  cases ry
  obtain ⟨mA, O1, _⟩ := ins_get I.hok ha
  obtain ⟨mB, O2, _⟩ := ins_get I.hok hb'
  obtain ⟨nm, q, N, bs, hdct, sn, sub, ab, col, dd, k0, k1, k2, k3, k5, newId, hC, hN, he, hn⟩ := w.cls
  obtain ⟨of, ho, hoc⟩ := w.ob
  obtain ⟨yv, hy⟩ := eq_obj
  have G : s.heap.Ns N (s.heap.nsMap N) := .of_isNs (PySem.W.isNs_of_in I.kIn hN)
  have hl : ([Value.ref a, Value.ref b] ++ []).length = ps.length := by
    have := F.len _ _ _ _ hs
    simpa using this
  obtain ⟨_, _, _, ea, _⟩ := (show ObjOk X.prog X.w H s.heap a (.ins C dx fs) from I.hok a _ ha)
  obtain ⟨_, _, _, eb, _⟩ := (show ObjOk X.prog X.w H s.heap b (.ins C dy gs) from I.hok b _ hb')
  have W : s.heap.OwnEqNoNe a C f "object" [.type "object"] :=
    ⟨_, of, nm, q, N, bs, hdct, sn, sub, ab, col, dd, k0, k1, k2, k3, k5, newId, s.heap.nsMap N, yv, ea, rfl, I.kIn _ _ hC, G, ns_has I.kIn G he, I.kIn _ _ ho, hoc, PySem.F.cmp_object.mro, hy, PySem.W.ns_none_of I.kIn G hn⟩
  have hbind : BindsTo s fd ⟨[.ref a, .ref b], []⟩ (ps.zip [.ref a, .ref b]) := hb s [.ref a, .ref b] I.kIn hl
  have run := F.run X.A.in1 X.stack s H ⟨[.ref a, .ref b], []⟩ [.ref a, .ref b] [.ref a, .ref b] _ E (hr.in1) I.env0.in1 hbind (.cons rfl (.cons rfl .nil)) hs
  obtain ⟨hp, g, d, tk, os⟩ := s
  refine compareOp_ne_ownEq PySem.F.cmp_object W eb rfl (by have := hr.units; omega) (wpAny_call (codeAny_mono run fun r s' hq => ?_))
  cases r with
  | error e => exact hx pins σ H _ e s' I hq
  | ok fl =>
    cases fl with
    | ret u =>
      obtain ⟨z, H', I', rz, c, rfl, q⟩ := I.after hq
      cases rz
      exact ⟨c, rfl, .bl (!c), H', I', rfl, q⟩
    | next => exact False.elim hq
    | brk => exact False.elim hq
    | cont => exact False.elim hq
end
end Go

set_option Elab.async false
set_option linter.all false
set_option maxRecDepth 100000
set_option maxHeartbeats 4000000
/-! forests as data: rows, their text, what is a forest -/
namespace Gf
open PySem PySem.Spec PyProof.Rows L2 TL Gn Gr Gk
abbrev FRow := Str × Option Str
def parV : Option Str → V
  | none => .non
  | some m => .str m
def kvOf (r : FRow) : Key × V := (Sum.inr r.1, parV r.2)
def wordsOf : FRow → List Str
  | (n, none) => ["account", n]
  | (n, some m) => ["account", n, "in", m]
def lineOf (r : FRow) : Str := Txt.join " " (wordsOf r)
def textOf (rs : List FRow) : Str := Txt.join "\n" (rs.map lineOf ++ [Str.empty])
def fNames (rs : List FRow) : List Str := rs.map (·.1)
/-- the row may stand behind these names -/
def RowOk (E : List Str) (r : FRow) : Prop := nameOk r.1 = true ∧ r.1 ∉ E ∧ ∀ m, r.2 = some m → m ∈ E
def GoodF : List Str → List FRow → Prop
  | _, [] => True
  | E, r :: rs => RowOk E r ∧ GoodF (E ++ [r.1]) rs
theorem good_at : ∀ {rs : List FRow} {E : List Str} {i : Nat} {r : FRow}, GoodF E rs → rs[i]? = some r → RowOk (E ++ fNames (rs.take i)) r
  | [], _, _, _, _, h => by simp at h
  | x :: rs, E, 0, r, g, h => by
    simp only [List.getElem?_cons_zero, Option.some.injEq] at h
    subst h
    simpa [fNames] using g.1
  | x :: rs, E, i + 1, r, g, h => by
    have q := good_at g.2 (show rs[i]? = some r by simpa using h)
    simpa [fNames, List.append_assoc] using q
theorem good_snoc : ∀ {rs : List FRow} {E : List Str} {r : FRow}, GoodF E rs → RowOk (E ++ fNames rs) r → GoodF E (rs ++ [r])
  | [], E, r, g, h => ⟨by simpa [fNames] using h, trivial⟩
  | x :: rs, E, r, g, h => ⟨g.1, good_snoc g.2 (by simpa [fNames, List.append_assoc] using h)⟩
theorem names_take (rs : List FRow) (i : Nat) : fNames (rs.take i) = (fNames rs).take i := by unfold fNames; rw [List.map_take]
theorem good_mem {rs : List FRow} (g : GoodF [] rs) {r : FRow} (h : r ∈ rs) : nameOk r.1 = true ∧ ∀ m, r.2 = some m → m ∈ fNames rs ∧ nameOk m = true := by
  obtain ⟨i, hi⟩ := List.mem_iff_getElem?.mp h
  have q := good_at g hi
  rw [List.nil_append] at q
  have nm : ∀ m, m ∈ fNames rs → nameOk m = true := by
    intro m hm
    obtain ⟨z, hz, rfl⟩ := List.mem_map.mp hm
    obtain ⟨j, hj⟩ := List.mem_iff_getElem?.mp hz
    exact (good_at g hj).1
  refine ⟨q.1, fun m hm => ?_⟩
  have z := q.2.2 m hm
  rw [names_take] at z
  have z2 := List.mem_of_mem_take z
  exact ⟨z2, nm m z2⟩
theorem good_nodup : ∀ {rs : List FRow} {E : List Str}, GoodF E rs → (fNames rs).Nodup ∧ ∀ n ∈ fNames rs, n ∉ E
  | [], _, _ => by simp [fNames]
  | x :: rs, E, g => by
    obtain ⟨a, b⟩ := good_nodup g.2
    constructor
    · show (x.1 :: fNames rs).Nodup
      refine List.nodup_cons.mpr ⟨fun h => ?_, a⟩
      exact b _ h (by simp)
    · intro n hn
      rcases List.mem_cons.mp (show n ∈ x.1 :: fNames rs from hn) with rfl | h
      · exact g.1.2.1
      · exact fun z => b n h (by simp [z])
/-! names -/
theorem name_len {x : Str} (h : nameOk x = true) : 1 ≤ x.length ∧ x.length ≤ 8 := by
  unfold nameOk at h
  simp only [Bool.and_eq_true, decide_eq_true_eq] at h
  exact ⟨h.1, h.2.1⟩
theorem letters_lo : ∀ c ∈ letters.cps.toList, 96 < c ∧ c < 123 := by decide +kernel
theorem name_cps {x : Str} (h : nameOk x = true) : ∀ c ∈ x.cps.toList, 96 < c ∧ c < 123 := by
  unfold nameOk at h
  simp only [Bool.and_eq_true, decide_eq_true_eq] at h
  intro c hc
  have := List.all_eq_true.mp h.2.2 c hc
  exact letters_lo c (by simpa [isL] using this)
theorem name_asc {x : Str} (h : nameOk x = true) : Asc 8 x := ⟨(name_len h).2, fun c hc => by have := name_cps h c hc; omega⟩
theorem name_asc19 {x : Str} (h : nameOk x = true) : Asc 19 x := (name_asc h).mono (by decide)
/-! lines and texts -/
theorem tl_def (x : Str) : tl x = x.cps.toList := rfl
theorem sp_tl : tl (" " : Str) = [32] := by decide +kernel
theorem nl_tl : tl ("\n" : Str) = [10] := by decide +kernel
theorem e_tl : tl Str.empty = [] := rfl
theorem e_eq : (("" : String) : Str) = Str.empty := ext_tl (by decide +kernel)
theorem acc_tl : tl ("account" : Str) = [97, 99, 99, 111, 117, 110, 116] := by decide +kernel
theorem in_tl : tl ("in" : Str) = [105, 110] := by decide +kernel
theorem accs_tl : tl ("account " : Str) = [97, 99, 99, 111, 117, 110, 116, 32] := by decide +kernel
theorem ins_tl : tl (" in " : Str) = [32, 105, 110, 32] := by decide +kernel
def lineL : FRow → List Nat
  | (n, none) => tl ("account " : Str) ++ tl n
  | (n, some m) => tl ("account " : Str) ++ (tl n ++ (tl (" in " : Str) ++ tl m))
theorem tl_line (r : FRow) : tl (lineOf r) = lineL r := by
  obtain ⟨n, q⟩ := r
  unfold lineOf
  rw [join_eq, tl_join, sp_tl]
  cases q with
  | none =>
    show tl ("account" : Str) ++ ([32] ++ tl n) = tl ("account " : Str) ++ tl n
    rw [acc_tl, accs_tl]
    rfl
  | some m =>
    show tl ("account" : Str) ++ ([32] ++ (tl n ++ ([32] ++ (tl ("in" : Str) ++ ([32] ++ tl m))))) = tl ("account " : Str) ++ (tl n ++ (tl (" in " : Str) ++ tl m))
    rw [acc_tl, accs_tl, in_tl, ins_tl]
    rfl
theorem joinL_end (S : List Nat) : ∀ ls : List (List Nat), joinL S (ls ++ [[]]) = (ls.map (· ++ S)).flatten
  | [] => rfl
  | [p] => by
    show p ++ (S ++ []) = _
    simp
  | p :: q :: r => by
    have e := joinL_end S (q :: r)
    show p ++ (S ++ joinL S (q :: r ++ [[]])) = _
    rw [e]
    simp
theorem tl_text (rs : List FRow) : tl (textOf rs) = (rs.map fun r => lineL r ++ [10]).flatten := by
  unfold textOf
  rw [join_eq, tl_join, nl_tl, List.map_append, List.map_map]
  show joinL [10] (List.map (tl ∘ lineOf) rs ++ [[]]) = _
  rw [joinL_end, List.map_map]
  congr 1
  refine List.map_congr_left fun r _ => ?_
  show tl (lineOf r) ++ [10] = _
  rw [tl_line]
theorem text_nil : textOf [] = Str.empty := ext_tl (by rw [tl_text]; rfl)
theorem text_snoc (rs : List FRow) (r : FRow) : textOf (rs ++ [r]) = textOf rs ++ (⟨(lineL r ++ [10]).toArray⟩ : Str) := by
  refine ext_tl ?_
  rw [tl_append, tl_text, tl_text, tl_mk]
  simp
theorem word_ns {r : FRow} (h1 : nameOk r.1 = true) (h2 : ∀ m, r.2 = some m → nameOk m = true) : ∀ p ∈ wordsOf r, 32 ∉ tl p ∧ 10 ∉ tl p := by
  obtain ⟨n, q⟩ := r
  have nn : ∀ {x : Str}, nameOk x = true → 32 ∉ tl x ∧ 10 ∉ tl x := fun {x} h => ⟨fun z => by have := name_cps h _ z; omega, fun z => by have := name_cps h _ z; omega⟩
  have ha : 32 ∉ tl ("account" : Str) ∧ 10 ∉ tl ("account" : Str) := by rw [acc_tl]; decide
  have hi : 32 ∉ tl ("in" : Str) ∧ 10 ∉ tl ("in" : Str) := by rw [in_tl]; decide
  cases q with
  | none =>
    intro p hp
    simp only [wordsOf, List.mem_cons, List.not_mem_nil, or_false] at hp
    rcases hp with rfl | rfl
    · exact ha
    · exact nn h1
  | some m =>
    intro p hp
    simp only [wordsOf, List.mem_cons, List.not_mem_nil, or_false] at hp
    rcases hp with rfl | rfl | rfl | rfl
    · exact ha
    · exact nn h1
    · exact hi
    · exact nn (h2 _ rfl)
theorem wordsOf_ne (r : FRow) : wordsOf r ≠ [] := by
  obtain ⟨n, q⟩ := r
  cases q <;> simp [wordsOf]
theorem split_line {r : FRow} (h1 : nameOk r.1 = true) (h2 : ∀ m, r.2 = some m → nameOk m = true) : Txt.split (lineOf r) " " = wordsOf r :=
  split_join sp_tl (by decide +kernel) (wordsOf_ne r) fun p hp => (word_ns h1 h2 p hp).1
theorem line_nn {r : FRow} (h1 : nameOk r.1 = true) (h2 : ∀ m, r.2 = some m → nameOk m = true) : 10 ∉ tl (lineOf r) := by
  obtain ⟨n, q⟩ := r
  rw [tl_line]
  have w := word_ns h1 h2
  have a1 : 10 ∉ tl ("account " : Str) := by rw [accs_tl]; decide
  have a2 : 10 ∉ tl (" in " : Str) := by rw [ins_tl]; decide
  cases q with
  | none =>
    have wn := (w n (by simp [wordsOf])).2
    intro z
    rcases List.mem_append.mp (show 10 ∈ tl ("account " : Str) ++ tl n from z) with z | z
    · exact a1 z
    · exact wn z
  | some m =>
    have wn := (w n (by simp [wordsOf])).2
    have wm := (w m (by simp [wordsOf])).2
    intro z
    rcases List.mem_append.mp (show 10 ∈ tl ("account " : Str) ++ (tl n ++ (tl (" in " : Str) ++ tl m)) from z) with z | z
    · exact a1 z
    rcases List.mem_append.mp z with z | z
    · exact wn z
    rcases List.mem_append.mp z with z | z
    · exact a2 z
    · exact wm z
theorem split_text {rs : List FRow} (g : GoodF [] rs) : Txt.split (textOf rs) "\n" = rs.map lineOf ++ [Str.empty] := by
  refine split_join nl_tl (by decide +kernel) (by simp) fun p hp => ?_
  rcases List.mem_append.mp hp with h | h
  · obtain ⟨r, hr, rfl⟩ := List.mem_map.mp h
    obtain ⟨a, b⟩ := good_mem g hr
    exact line_nn a fun m hm => (b m hm).2
  · rw [List.mem_singleton.mp h]
    exact List.not_mem_nil
theorem line_len {r : FRow} (h1 : nameOk r.1 = true) (h2 : ∀ m, r.2 = some m → nameOk m = true) : (lineOf r).length ≤ 30 := by
  obtain ⟨n, q⟩ := r
  have l1 := (name_len h1).2
  have e : (lineOf (n, q)).length = (lineL (n, q)).length := by rw [← tl_line, tl_def, len_cps]
  rw [e]
  have ln : (tl n).length = n.length := len_cps n
  have la : (tl ("account " : Str)).length = 8 := by rw [accs_tl]; rfl
  have li : (tl (" in " : Str)).length = 4 := by rw [ins_tl]; rfl
  have l1 : n.length ≤ 8 := l1
  cases q with
  | none =>
    show (tl ("account " : Str) ++ tl n).length ≤ 30
    rw [List.length_append]
    omega
  | some m =>
    have l2 := (name_len (h2 m rfl)).2
    have lm : (tl m).length = m.length := len_cps m
    show (tl ("account " : Str) ++ (tl n ++ (tl (" in " : Str) ++ tl m))).length ≤ 30
    simp only [List.length_append]
    omega
/-- what a line of these words says -/
def readRow : List Str → Option FRow
  | [a, n] => if a = ("account" : Str) then some (n, none) else none
  | [a, n, i, m] => if a = ("account" : Str) ∧ i = ("in" : Str) then some (n, some m) else none
  | _ => none
theorem read_words (r : FRow) : readRow (wordsOf r) = some r := by
  obtain ⟨n, q⟩ := r
  cases q <;> simp [wordsOf, readRow]
/-- one text, one list of rows -/
theorem text_inj {rs rs' : List FRow} (g : GoodF [] rs) (g' : GoodF [] rs') (h : textOf rs = textOf rs') : rs = rs' := by
  have e := split_text g
  rw [h, split_text g'] at e
  have e2 : rs'.map lineOf = rs.map lineOf := List.append_cancel_right e
  have key : ∀ {rs : List FRow}, (∀ r ∈ rs, nameOk r.1 = true ∧ ∀ m, r.2 = some m → nameOk m = true) → (rs.map lineOf).map (fun l => readRow (Txt.split l " ")) = rs.map some := by
    intro rs hg
    rw [List.map_map]
    refine List.map_congr_left fun r hr => ?_
    obtain ⟨a, b⟩ := hg r hr
    show readRow (Txt.split (lineOf r) " ") = some r
    rw [split_line a b, read_words]
  have gg : ∀ {rs : List FRow}, GoodF [] rs → ∀ r ∈ rs, nameOk r.1 = true ∧ ∀ m, r.2 = some m → nameOk m = true := fun g r hr => ⟨(good_mem g hr).1, fun m hm => ((good_mem g hr).2 m hm).2⟩
  have k1 := key (gg g)
  have k2 := key (gg g')
  rw [e2, k1] at k2
  exact List.map_inj_right (fun _ _ e => Option.some.inj e) |>.mp k2
end Gf

set_option Elab.async false
set_option linter.all false
set_option maxRecDepth 100000
set_option maxHeartbeats 4000000
/-! tuple(dict), .. -/
namespace Gt
open PySem PySem.Spec PyProof.Rows L2 Gn Gr Gk Go
section
variable {prog : Program} {w : World} {A : Around} {E : Value → Shared → Prop} {s : Shared} {T : String} {r d : Addr} {n : Nat} {P : Nat → Value → Prop} {OK : Heap → Prop}
theorem collect_kdl {Q : List Value → Shared → Prop} (K : PySem.W.KdlSrc prog w T r d n P OK) (hh : A.handled = none) (hok : OK s.heap) (hn : n ≤ sizeLine)
    (hQ : ∀ (h' : Heap) (tk : Nat) (acc : Array Value), (∀ b o, s.heap.get? b = some o → h'.get? b = some o) → ItemsOf P acc n → Q acc.toList { s with heap := h', toks := tk }) :
    wpAny (model prog w) A (collect (.ref r)) Q E s := by
  unfold collect
  refine wpAny_bind (wpAny_runValue (codeAny_builtin F.entry_proto_collect ?_))
  rw [Around.under_plainId F.plain_proto_collect _]
  show wpAny _ A.in1 (newList [] >>= fun l => again (.builtin "list.__iadd__" ⟨[l, .ref r], []⟩)) _ _ s
  refine wpAny_bind (wpAny_newObj_type ?_)
  refine wpAny_pure ⟨plainId_quiet F.plain_list_iadd _, codeAny_builtin F.entry_list_iadd ?_⟩
  rw [Around.under_plainId F.plain_list_iadd _]
  show wpAny _ A.in1 (Builtin.List.listExtendWith (.ref s.heap.objs.size) (.ref r) (.ref s.heap.objs.size)) _ _ _
  have hS : (s.heap.push { cls := .type "list", data := .seq ([] : List Value).toArray }).get? s.heap.objs.size = some { cls := .type "list", data := .seq #[] 0 } := Heap.get?_push_size _ rfl
  have hlt := K.there _ hok
  refine wpAny_mono (PySem.W.kdl_extend (A := A) (R := fun rr s' => rr = .ok (.ret (.ref s.heap.objs.size)) ∧ ∃ (h' : Heap) (tk : Nat) (acc : Array Value) (c' : Nat), s' = { s with heap := h', toks := tk } ∧
      (∀ b o, s.heap.get? b = some o → h'.get? b = some o) ∧ h'.get? s.heap.objs.size = some { cls := .type "list", dict := none, data := .seq acc c', slots := #[] } ∧ ItemsOf P acc n)
    (s := { s with heap := s.heap.push { cls := .type "list", data := .seq ([] : List Value).toArray } }) K hh (K.keep _ _ hok fun b _ o e => Heap.get?_push_of_some _ e) s.heap.objs.size (Nat.ne_of_gt hlt.1) (Nat.ne_of_gt hlt.2) _ 0 hS
    (fun h' tk acc c' hk e hi => ⟨rfl, h', tk, acc, c', rfl, fun b o q => hk b o (Nat.ne_of_lt (Heap.lt_size q)) (Heap.get?_push_of_some _ q), e, hi⟩) hn) (fun fin s' h => ?_) (fun e s' h => ?_)
  · cases fin with
    | done f =>
      obtain ⟨e, h', tk, acc, c', rfl, hk, hS', hi⟩ := h
      cases e
      show wpAny _ A (load s.heap.objs.size >>= _) _ _ _
      exact wpAny_bind (wpAny_load hS' (wpAny_pure (hQ h' tk acc hk hi)))
    | again c' =>
      refine ⟨h.1, codeAny_mono h.2 fun rr s'' hr' => ?_⟩
      obtain ⟨rfl, h', tk, acc, c', rfl, hk, hS', hi⟩ := hr'
      show wpAny _ A (load s.heap.objs.size >>= _) _ _ _
      exact wpAny_bind (wpAny_load hS' (wpAny_pure (hQ h' tk acc hk hi)))
  · exact absurd h.1 (by simp)
theorem code_tuple_new_dict {Q₁ : Value → Shared → Prop} (K : PySem.W.KdlSrc prog w "dict" r d n P OK) (hh : A.handled = none) (hok : OK s.heap) (hn : n ≤ sizeLine)
    (h : ∀ (h' : Heap) (tk : Nat) (acc : Array Value), (∀ b o, s.heap.get? b = some o → h'.get? b = some o) → ItemsOf P acc n →
      Q₁ (.ref h'.objs.size) { s with heap := h'.push { cls := .type "tuple", data := .seq acc }, toks := tk }) :
    codeAny (model prog w) A (.call (.builtin "tuple.__new__") ⟨[.type "tuple", .ref r], []⟩) (wants Q₁ E) s := by
  refine codeAny_of_tree ?_
  show wpAny _ A.in1 (do checkBuiltinCall "tuple.__new__" ⟨[.type "tuple", .ref r], []⟩; again (.builtin "tuple.__new__" ⟨[.type "tuple", .ref r], []⟩)) _ _ s
  refine wpAny_bind (wpAny_of_eq (F.newCall_tuple_1 _) (wpAny_pure ⟨plainId_quiet F.plain_tuple_new _, codeAny_builtin F.entry_tuple_new ?_⟩))
  rw [Around.under_plainId F.plain_tuple_new _]
  have hsub := sub_tuple_self
  have hinit := init_tuple_lookup
  have hmh := madeHere_tuple
  have hTI : s.TypeIs (.ref r) "dict" := K.type _ hok
  have hh1 : A.in1.handled = none := hh
  wp_walk using wpAny_typeOf hTI, collect_kdl (A := A.in1) K hh1 hok hn
  intro h' tk acc hk hacc
  show wpAny _ _ (Builtin.Tuple.tupleExact acc.toList.toArray >>= fun v => ret v) _ _ _
  unfold Builtin.Tuple.tupleExact
  refine wpAny_bind (wpAny_newObj_type ?_ (by show acc.toList.toArray.size ≤ sizeLine; simp only [Array.toArray_toList]; rw [hacc.1]; exact hn))
  refine wpAny_pure ?_
  have e : acc.toList.toArray = acc := by simp
  rw [e]
  exact h h' tk acc hk hacc
theorem call_tuple_dict {Q : Value → Shared → Prop} (K : PySem.W.KdlSrc prog w "dict" r d n P OK) (hh : A.handled = none) (hok : OK s.heap) (hn : n ≤ sizeLine)
    (hQ : ∀ (h' : Heap) (tk : Nat) (acc : Array Value), (∀ b o, s.heap.get? b = some o → h'.get? b = some o) → ItemsOf P acc n →
      Q (.ref h'.objs.size) { s with heap := h'.push { cls := .type "tuple", data := .seq acc }, toks := tk }) :
    wpAny (model prog w) A (call (.type "tuple") [.ref r]) Q E s := by
  refine callType_codes (Q₁ := fun obj s₁ => s₁.TypeIs obj "tuple" ∧ Q obj s₁) F.called_tuple (F.typeCall_tuple_1 _) F.entry_object_init
    (code_tuple_new_dict (A := A.in1) K hh hok hn fun h' tk acc hk hacc => ⟨⟨_, Heap.get?_push_size _ rfl, rfl⟩, hQ h' tk acc hk hacc⟩) fun obj s₁ h₁ => ?_
  exact ⟨h₁.1, F.args_object_init_2 obj _, object_init_meets F.called_tuple.init.lookup F.called_tuple.made (by decide) prog w A.in1 _ s₁ ⟨h₁.1, rfl, h₁.2⟩⟩
end
/-- tuple(dict): a new tuple of its keys -/
def rTupD : List V → Hp → VK → Prop := fun xs H Q => ∃ p kvs, xs = [.ref p] ∧ H p = some (.dK kvs) ∧ ∀ q, H q = none → Q (.ref q) (upd H q (.tup (kvs.map fun kv => kV kv.1)))
theorem call_tuple_dK {X : Cx} (hc : X.calm = true) : CallR X (.type "tuple") rTupD := by
  intro pins s σ H xs us Q I r h
  obtain ⟨p, kvs, e, hk, q⟩ := h
  subst e
  obtain ⟨u, eu, rx⟩ := vals1 r
  subst eu
  obtain rfl : u = Value.ref p := rx
  obtain ⟨z, lo, vs, rk, hd⟩ := (show ObjOk X.prog X.w H s.heap p (.dK kvs) from I.hok p _ hk)
  obtain ⟨ep, hat⟩ := hd.dictAt
  have hl : kvs.length = vs.length := Paired.length rk
  refine call_tuple_dict (PySem.W.kdl_dict (knd := mixKind X.prog X.w) (kvs := vs) (ep := ep) lo) (I.ok.hd hc) hat (by rw [← hl]; exact z) fun h' tk acc hkeep hacc => ?_
  have I1 : Inv X pins σ H { s with heap := h' } := I.kept (t' := s.toks) hkeep
  have rr : Vals (kvs.map fun kv => kV kv.1) acc.toList := by
    have el : acc.toList.length = acc.size := by simp
    refine vals_of_at (by rw [List.length_map, el, hacc.1, hl]) fun j x w h1 h2 => ?_
    obtain ⟨k, y, hky, hi⟩ := hacc.2 j w (by rw [← Array.getElem?_toList]; exact h2)
    have e1 : (kvs.map (·.1))[j]? = some k := by
      rw [KV.keys rk, List.getElem?_map, hky] <;> rfl
    have e2 : (kvs.map fun kv => kV kv.1)[j]? = some (kV k) := by
      have e3 : (kvs.map fun kv => kV kv.1) = (kvs.map (·.1)).map kV := by rw [List.map_map] <;> rfl
      rw [e3, List.getElem?_map, e1] <;> rfl
    rw [e2] at h1
    cases h1
    exact keyIs_rel hi
  have I2 : Inv X pins σ (upd H h'.objs.size (.tup (kvs.map fun kv => kV kv.1))) { s with heap := h'.push { cls := .type "tuple", data := .seq acc }, toks := tk } :=
    I1.laid (t' := tk) (fun b o e => Heap.get?_push_of_some _ e) (Nat.le_refl _) (show ObjOk X.prog X.w _ _ _ (.tup (kvs.map fun kv => kV kv.1)) from ⟨by rw [List.length_map]; exact z, acc.toList, rr, by
      have := IsTup.new h' acc
      simpa using this⟩)
  exact ⟨.ref h'.objs.size, _, I2, rfl, q _ (I1.hok.fresh (Nat.le_refl _))⟩
/-- {k: v for ..} over a walk -/
theorem dc_it {J : It} {n : Nat} {G : Hp → Prop} {Y : Nat → Hp → V → Hp → Prop} (w : Walk J n G Y) {g : TG} {tt : TT} {tk tv : TE} {vs : List Nat} {σ : L2.St} {H1 : Hp} {D : Addr} {Qd : Hp → Prop} (Pv : Nat → Hp → Prop) (h0 : Pv 0 (upd H1 D (.dK []))) (hG : ∀ i H, i ≤ n → Pv i H → G H)
    (hs : ∀ i x H H', i < n → Pv i H → Y i H x H' → g x (wipe σ vs) H' fun σ2 H2 => wipe σ2 vs = wipe σ vs ∧ tt σ2 H2 fun b H3 =>
      if b = true then tk σ2 H3 fun y H4 => tv σ2 H4 fun z H5 => ∃ kvs k, y = kV k ∧ H5 D = some (.dK kvs) ∧ kvs.length < sizeLine ∧ Pv (i + 1) (upd H5 D (.dK (putK kvs k z))) else Pv (i + 1) H3) (hd : ∀ H, Pv n H → Qd H) :
    ∃ W : Nat → Nat → Hp → Prop, (∃ m, W 0 m (upd H1 D (.dK []))) ∧ ∀ i m H, W i m H →
      (J.stop i H ∧ Qd H) ∨ (J.go i H ∧ ∃ Nx : Hp → Prop, (∀ H', Nx H' → ∃ m', m' < m ∧ W (i + 1) m' H') ∧ ∀ x H', J.yld i H x H' → g x (wipe σ vs) H' fun σ2 H2 => wipe σ2 vs = wipe σ vs ∧ tt σ2 H2 fun b H3 =>
        if b = true then tk σ2 H3 fun y H4 => tv σ2 H4 fun z H5 => ∃ kvs k, y = kV k ∧ H5 D = some (.dK kvs) ∧ kvs.length < sizeLine ∧ Nx (upd H5 D (.dK (putK kvs k z))) else Nx H3) := by
  refine ⟨fun i m H => m = n - i ∧ i ≤ n ∧ Pv i H, ⟨n, by simp, Nat.zero_le _, h0⟩, ?_⟩
  rintro i m H ⟨rfl, hi, p⟩
  have q := hG i H hi p
  by_cases hlt : i < n
  · exact .inr ⟨w.goes i H hlt q, Pv (i + 1), fun H' p' => ⟨n - (i + 1), by omega, rfl, hlt, p'⟩, fun x H' y => hs i x H H' hlt p (w.yields i H x H' hlt q y)⟩
  · have e : i = n := by omega
    subst e
    exact .inl ⟨w.stops H q, hd H p⟩
end Gt

set_option Elab.async false
set_option linter.all false
set_option maxRecDepth 100000
set_option maxHeartbeats 4000000
/-! names and words, for any law -/
namespace Lw
open L2 hiding Ext
open PySem PySem.Spec PyProof.Rows Gn Gr Gk Go Gt Gf
theorem iteS {c A B : Prop} [Decidable c] (hc : c) (h : A) : if decide c = true then A else B := by
  rw [if_pos (decide_eq_true hc)]
  exact h
theorem iteN {c A B : Prop} [Decidable c] (hc : ¬ c) (h : B) : if decide c = true then A else B := by
  rw [if_neg (by rw [decide_eq_false hc]; exact Bool.false_ne_true)]
  exact h
theorem take_succ_map {α β : Type} {l : List α} {i : Nat} {c : α} (f : α → β) (h : l[i]? = some c) : (l.take (i + 1)).map f = (l.take i).map f ++ [f c] := by
  rw [List.take_add_one, h, List.map_append]
  rfl
theorem cps_at {z : Str} {i : Nat} {c : Nat} (h : z.cps[i]? = some c) : z.cps.toList[i]? = some c := by simpa using h
theorem cps_len (z : Str) : z.cps.toList.length = z.cps.size := by simp
theorem strs_flat (E : List Str) : (E.map V.str).all flatV = true := by
  rw [List.all_map]
  exact List.all_eq_true.mpr fun _ _ => rfl
theorem inV_strs (x : Str) (E : List Str) : inV (.str x) (E.map V.str) = decide (x ∈ E) := by
  unfold inV
  rw [List.any_map]
  induction E with
  | nil => simp
  | cons y r ih =>
    rw [List.any_cons, ih]
    show ((y == x) || _) = _
    by_cases e : y = x
    · subst e; simp
    · have e' : ¬ x = y := fun z => e z.symm
      simp [e, e']
theorem strlen (a b : Str) : (a ++ b).length = a.length + b.length := strLen_append a b
theorem sum_le {α : Type} (f : α → Nat) {b : Nat} : ∀ l : List α, (∀ x ∈ l, f x ≤ b) → (l.map f).sum ≤ l.length * b
  | [], _ => by simp
  | x :: r, h => by
    have h1 := h x (List.mem_cons_self ..)
    have h2 := sum_le f r fun y hy => h y (List.mem_cons_of_mem _ hy)
    rw [List.map_cons, List.sum_cons, List.length_cons, Nat.succ_mul]
    omega
/-! ### names -/
def lettersOnly (x : Str) : Prop := ∀ c ∈ x.cps.toList, c ∈ letters.cps.toList
theorem nameOk_of {x : Str} (h1 : 1 ≤ x.length) (h2 : x.length ≤ 8) (h : lettersOnly x) : nameOk x = true := by
  unfold nameOk
  rw [decide_eq_true h1, decide_eq_true h2, Bool.true_and, Bool.true_and]
  exact List.all_eq_true.mpr fun c hc => by simpa [isL] using h c hc
theorem lo_of {x : Str} (h : nameOk x = true) : lettersOnly x := by
  unfold nameOk at h
  simp only [Bool.and_eq_true, decide_eq_true_eq] at h
  intro c hc
  simpa [isL] using List.all_eq_true.mp h.2.2 c hc
theorem lo_app {x y : Str} (h : lettersOnly x) (k : lettersOnly y) : lettersOnly (x ++ y) := by
  intro c hc
  rw [cps_app] at hc
  exact (List.mem_append.mp hc).elim (h c) (k c)
theorem lo_cut {x : Str} (h : lettersOnly x) (lo hi : Option Int) : lettersOnly (cutS x lo hi) := by
  intro c hc
  unfold cutS at hc
  exact h c (List.mem_of_mem_drop (List.mem_of_mem_take (by simpa using hc)))
theorem cut6 (x : Str) : (cutS x none (some 6)).length ≤ 6 := by
  rw [← len_cps]
  unfold cutS
  show (List.take _ _).toArray.toList.length ≤ 6
  rw [List.toList_toArray, List.length_take]
  have : HT.sIx x.length x.length (some ((6 : Nat) : Int)) = min 6 x.length := HT.sIx_nat _ _ _
  have this : HT.sIx x.length x.length (some 6) = min 6 x.length := this
  rw [this]
  omega
theorem z_len : ("z" : Str).length = 1 := by decide +kernel
theorem z_lo : lettersOnly ("z" : Str) := by unfold lettersOnly; decide +kernel
def cand (x : Str) (c : Nat) : Str := cutS x none (some 6) ++ "z" ++ oneS' c
  where oneS' (c : Nat) : Str := ⟨#[c]⟩
theorem one_len (c : Nat) : (cand.oneS' c).length = 1 := rfl
theorem one_lo {c : Nat} (h : c ∈ letters.cps.toList) : lettersOnly (cand.oneS' c) := by
  intro b hb
  have : b = c := by simpa [cand.oneS'] using hb
  rw [this]
  exact h
theorem cand_ok {x : Str} (h : lettersOnly x) {c : Nat} (hc : c ∈ letters.cps.toList) : nameOk (cand x c) = true := by
  have h6 := cut6 x
  refine nameOk_of ?_ ?_ (lo_app (lo_app (lo_cut h _ _) z_lo) (one_lo hc))
  · unfold cand
    rw [strlen, strlen, z_len, one_len]
    omega
  · unfold cand
    rw [strlen, strlen, z_len, one_len]
    omega
theorem cand_inj {x : Str} {c c' : Nat} (h : cand x c = cand x c') : c = c' := by
  have e : (cand x c).cps.toList = (cand x c').cps.toList := by rw [h]
  unfold cand at e
  rw [cps_app, cps_app, cps_app, cps_app] at e
  have e2 := List.append_cancel_left e
  simpa [cand.oneS'] using e2
def cands (x : Str) : List Str := letters.cps.toList.map (cand x)
theorem nodup_map {α β : Type} {f : α → β} (hf : ∀ a b, f a = f b → a = b) : ∀ {l : List α}, l.Nodup → (l.map f).Nodup
  | [], _ => by simp
  | a :: r, h => by
    obtain ⟨h1, h2⟩ := List.nodup_cons.mp h
    refine List.nodup_cons.mpr ⟨fun z => ?_, nodup_map hf h2⟩
    obtain ⟨b, hb, e⟩ := List.mem_map.mp z
    exact h1 (hf _ _ e ▸ hb)
theorem cands_nodup (x : Str) : (cands x).Nodup := nodup_map (fun _ _ h => cand_inj h) (by decide +kernel)
theorem cands_len (x : Str) : (cands x).length = 26 := by
  unfold cands
  rw [List.length_map]
  decide +kernel
theorem pigeon : ∀ {ws fs : List Str}, ws.Nodup → (∀ x ∈ ws, x ∈ fs) → ws.length ≤ fs.length
  | [], _, _, _ => Nat.zero_le _
  | x :: ws, fs, hn, hs => by
    obtain ⟨n1, n2⟩ := List.nodup_cons.mp hn
    have hx := hs x (List.mem_cons_self ..)
    have q := pigeon (fs := fs.erase x) n2 fun y hy => (List.mem_erase_of_ne (fun e => n1 (by rw [← e]; exact hy))).mpr (hs y (List.mem_cons_of_mem _ hy))
    have := List.length_erase_of_mem hx
    have := List.length_pos_of_mem hx
    rw [List.length_cons]
    omega
theorem fresh_cand (x : Str) {fs : List Str} (h : fs.length ≤ 8) : ∃ w r, (cands x).filter (fun y => !decide (y ∈ fs)) = w :: r ∧ w ∈ cands x ∧ w ∉ fs := by
  cases e : (cands x).filter (fun y => !decide (y ∈ fs)) with
  | nil =>
    exfalso
    have := pigeon (cands_nodup x) (fs := fs) fun y hy => by
      by_cases m : y ∈ fs
      · exact m
      · have : y ∈ (cands x).filter (fun y => !decide (y ∈ fs)) := List.mem_filter.mpr ⟨hy, by simp [m]⟩
        rw [e] at this
        cases this
    rw [cands_len] at this
    omega
  | cons w r =>
    have hw : w ∈ (cands x).filter (fun y => !decide (y ∈ fs)) := by rw [e]; exact List.mem_cons_self ..
    obtain ⟨a, b⟩ := List.mem_filter.mp hw
    exact ⟨w, r, rfl, a, by simpa using b⟩
theorem join_len (ys : List Str) : (Txt.join Str.empty ys).cps.toList = (ys.map fun y => y.cps.toList).flatten := by
  show TL.tl _ = _
  rw [TL.join_eq, TL.tl_join, e_tl]
  have : ∀ ls : List (List Nat), TL.joinL [] ls = ls.flatten := by
    intro ls
    induction ls with
    | nil => rfl
    | cons p r ih =>
      cases r with
      | nil => show p = _; simp
      | cons q r =>
        show p ++ ([] ++ TL.joinL [] (q :: r)) = _
        rw [ih]
        simp
  rw [this]
theorem join_signs (cs : List Nat) : (Txt.join Str.empty (cs.map cand.oneS')).cps.toList = cs := by
  rw [join_len, List.map_map]
  induction cs with
  | nil => rfl
  | cons c r ih =>
    rw [List.map_cons, List.flatten_cons, ih]
    rfl
def ownText : Str := "account in join ask deposit release send lose copy withdraw arrive spent ideal total over"
def owns : List Str := Txt.split ownText " "
theorem owns_ok : ∀ w ∈ owns, nameOk w = true := by decide +kernel
theorem owns_len : owns.length = 15 := by decide +kernel
theorem filter_take {α : Type} {l : List α} {i : Nat} {c : α} (p : α → Bool) (h : l[i]? = some c) : (l.take (i + 1)).filter p = (l.take i).filter p ++ (if p c = true then [c] else []) := by
  rw [List.take_add_one, h, List.filter_append]
  show _ ++ List.filter p [c] = _
  cases e : p c <;> simp [e]
theorem sizes1128 : ∀ x ∈ ([.int 1, .int 1, .int 2, .int 8] : List V), ∃ j : Int, x = .int j ∧ 1 ≤ j ∧ j ≤ 8 := by
  intro x hx
  simp only [List.mem_cons, List.not_mem_nil, or_false] at hx
  rcases hx with rfl | rfl | rfl | rfl <;> exact ⟨_, rfl, by decide, by decide⟩
end Lw

set_option Elab.async false
set_option linter.all false
set_option maxRecDepth 100000
set_option maxHeartbeats 4000000
namespace Lw
open L2 hiding Ext
open PySem PySem.Spec PyProof.Rows Gn Gr Gk Go Gt Gf
section
variable {P : Program} {w : World} {K : PySem.W.Frag} {mg : Str → Option Value} {base : Heap}
/-- the built-in names, and the module's numbers and letters -/
structure Names (mg : Str → Option Value) : Prop where
  isi : mg "isinstance" = none
  str : mg "str" = none
  int : mg "int" = none
  bool : mg "bool" = none
  list : mg "list" = none
  tuple : mg "tuple" = none
  dict : mg "dict" = none
  len : mg "len" = none
  all : mg "all" = none
  enum : mg "enumerate" = none
  range : mg "range" = none
  min : mg "min" = none
  zip : mg "zip" = none
  repr : mg "repr" = none
  letters : ∃ t, mg "LETTERS" = some (.str letters t)
  longest : ∃ t, mg "LONGEST" = some (.int 8 t)
  largest : ∃ t, mg "LARGEST" = some (.int 1000000000 t)
theorem scName : FnScope ["value", "letter"] ["value"] (defScope sName) := ⟨rfl, rfl, rfl, by decide +kernel, rfl, by decide +kernel, by decide +kernel⟩
theorem ok_name {f : Addr} {fd : FuncData} (F : Fun K "is_name" "is_name" sName f fd) (T : Names mg) : FnOk P w K mg base CX0 1 f fd ["value"] spName := by
  refine F.ok scName (fun vs H Q E h => ?_) (fun cdv A outer s H vs Q E hr h => ?_)
  · obtain ⟨v, r, rfl, _⟩ := h
    rfl
  · obtain ⟨v, r, rfl, hv, k⟩ := h
    have hu := hu_of hr
    have nd := scName.nd
    obtain ⟨t1, hL⟩ := T.letters
    obtain ⟨t2, hM⟩ := T.longest
    refine ⟨_, pss_cons (ps_if (pt_not (pt_val (pe_callB call_isi rfl T.isi (by decide +kernel) (pa_cons (pv 0) (pa_cons (pe_bltn (v := .ty "str") rfl T.str (by decide +kernel) rfl) pa_nil))))) (pss_one (ps_ret pe_bl)) pss_nil)
      (pss_cons (ps_if (PW.pt (pw_or (pt_cmpR op_lt (pe_callB call_len_str rfl T.len PySem.boot_len (pa_cons (pv 0) pa_nil)) pe_int (nomark _)) (pw_or1 (pt_cmpR op_gt (pe_callB call_len_str rfl T.len PySem.boot_len (pa_cons (pv 0) pa_nil)) (pe_glob (v := .int 8) rfl hM ⟨_, rfl⟩) (nomark _))))) (pss_one (ps_ret pe_bl)) pss_nil)
      (pss_one (ps_ret (pe_callB (cr_all rfl) rfl T.all (by decide +kernel) (pa_cons (pe_lc (own := [("letter", 1)]) (g := gName 1) (tt := tYes) rfl nd (pi_str (pv 0)) (blkOk_by (N := ["value", "letter"]) (sc := defScope sName) (by decide +kernel))
        (fun _ _ _ _ _ => pg_name (i := 1) nd rfl (.inl rfl)) (fun _ _ _ _ _ => pts_nil) (fun _ _ _ _ _ => pe_cmpR op_in_sign (pv 1) (pe_glob (v := .str letters) rfl hL ⟨_, rfl⟩) rfl)) pa_nil))))), ?_⟩
    rcases hv with ⟨x, rfl, hx, rfl⟩ | ⟨rfl, hv⟩
    · refine ⟨_, rfl, _, _, _, _, true, rfl, .ty _, (TyT.str x).x, kit_ty (by decide +kernel), true, rfl, iteF ?_⟩
      have hx1 := hx.1
      refine ⟨_, rfl, x, rfl, by rw [sizeLine_eq]; omega, _, _, rfl, rfl, _, rfl, ?_⟩
      unfold nameOk at k
      refine ite2 (fun e => ?_) (fun n1 => ?_)
      · refine iteT ?_
        have e : (x.length : Int) < 1 := of_decide_eq_true e
        rw [show decide (1 ≤ x.length) = false from decide_eq_false (by omega), Bool.false_and] at k
        exact k H Ext.refl
      · have n1 : ¬ (x.length : Int) < 1 := of_decide_eq_false (Bool.eq_false_iff.mpr n1)
        rw [show decide (1 ≤ x.length) = true from decide_eq_true (by omega), Bool.true_and] at k
        refine ⟨_, rfl, x, rfl, by rw [sizeLine_eq]; omega, _, _, rfl, rfl, _, rfl, ?_⟩
        refine ite2 (fun e => ?_) (fun n2 => ?_)
        · have e : (8 : Int) < x.length := of_decide_eq_true e
          rw [show decide (x.length ≤ 8) = false from decide_eq_false (by omega), Bool.false_and] at k
          exact k H Ext.refl
        · have n2 : ¬ (8 : Int) < x.length := of_decide_eq_false (Bool.eq_false_iff.mpr n2)
          rw [show decide (x.length ≤ 8) = true from decide_eq_true (by omega), Bool.true_and] at k
          refine ⟨_, rfl, x, rfl, fun D hD => ?_⟩
          refine lc_it walk_str (fun i H' => H' D = some (.lst (((x.cps.toList.take i).map isL).map V.bl)) ∧ Ext H H') ⟨upd_same, Ext.new hD⟩ (fun _ _ _ _ => trivial) ?_ ?_
          · rintro i y H1 H2 hi ⟨hd, he⟩ ⟨rfl, c, hc, rfl⟩
            refine ⟨rfl, yes_of ?_⟩
            refine ⟨_, rfl, c, _, rfl, rfl, _, hd, ?_, ?_, fun a o e => ?_⟩
            · have := len_cps x
              rw [List.length_map, List.length_map, List.length_take]
              exact small1000 (by omega)
            · rw [upd_same, take_succ_map isL (cps_at hc), List.map_append]
              rfl
            · rw [upd_ne (ne_of_none e hD)]
              exact he a o e
          · rintro H1 ⟨hd, he⟩
            refine ⟨D, _, rfl, SqL.of hd, ?_⟩
            rw [← cps_len, List.take_length, List.all_map]
            exact k H1 he
    · rcases hv with h | h | h | h | h | h <;> exact ⟨_, rfl, _, _, _, _, false, rfl, .ty _, h.x, kit_ty (by decide +kernel), false, rfl, iteT (k H Ext.refl)⟩
theorem scInt : FnScope ["value"] ["value"] (defScope sInt) := ⟨rfl, rfl, rfl, by decide +kernel, rfl, by decide +kernel, by decide +kernel⟩
theorem scAmount : FnScope ["value"] ["value"] (defScope sAmount) := ⟨rfl, rfl, rfl, by decide +kernel, rfl, by decide +kernel, by decide +kernel⟩
/-- what is_int tells of a value -/
def IntV (H : Hp) (v : V) (r : Bool) : Prop := (∃ i, v = .int i ∧ r = true) ∨ (r = false ∧ (TyT H v "NoneType" ∨ TyT H v "bool" ∨ TyT H v "str" ∨ TyT H v "list" ∨ TyT H v "tuple" ∨ TyT H v "dict"))
def spInt : Sp := fun vs H Q _ => ∃ v r, vs = [v] ∧ IntV H v r ∧ Q (.bl r) H
theorem ok_int {f : Addr} {fd : FuncData} (F : Fun K "is_int" "is_int" sInt f fd) (T : Names mg) : FnOk P w K mg base CX0 1 f fd ["value"] spInt := by
  refine F.ok scInt (fun vs H Q E h => ?_) (fun cdv A outer s H vs Q E hr h => ?_)
  · obtain ⟨v, r, rfl, _⟩ := h
    rfl
  · obtain ⟨v, r, rfl, hv, k⟩ := h
    refine ⟨_, pss_one (ps_ret (pe_and (pe_callB call_isi rfl T.isi (by decide +kernel) (pa_cons (pv 0) (pa_cons (pe_bltn (v := .ty "int") rfl T.int (by decide +kernel) rfl) pa_nil))) (pe_one (pe_not (pe_callB call_isi rfl T.isi (by decide +kernel) (pa_cons (pv 0) (pa_cons (pe_bltn (v := .ty "bool") rfl T.bool (by decide +kernel) rfl) pa_nil))))))), ?_⟩
    rcases hv with ⟨i, rfl, rfl⟩ | ⟨rfl, hv⟩
    · refine ⟨_, rfl, _, _, _, _, true, rfl, .ty _, (TyT.int i).x, kit_ty (by decide +kernel), true, rfl, iteT ?_⟩
      exact ⟨_, rfl, _, _, _, _, false, rfl, .ty _, (TyT.int i).x, kit_ty (by decide +kernel), _, rfl, k⟩
    · rcases hv with h | h | h | h | h | h
      all_goals first
        | exact ⟨_, rfl, _, _, _, _, true, rfl, .ty _, h.x, kit_ty (by decide +kernel), true, rfl, iteT ⟨_, rfl, _, _, _, _, true, rfl, .ty _, h.x, kit_ty (by decide +kernel), _, rfl, k⟩⟩
        | exact ⟨_, rfl, _, _, _, _, false, rfl, .ty _, h.x, kit_ty (by decide +kernel), false, rfl, iteF k⟩
theorem ok_amount {f fI : Addr} {fd fdI : FuncData} (F : Fun K "is_amount" "is_amount" sAmount f fd) (T : Names mg) (GI : FnOk P w K mg base CX0 1 fI fdI ["value"] spInt) (bI : Binds K fdI ["value"] []) (kI : PySem.W.keepIn K (.ref fI) = true) (mI : mg "is_int" = some (.ref fI)) :
    FnOk P w K mg base CX0 2 f fd ["value"] spAmt := by
  refine F.ok scAmount (fun vs H Q E h => ?_) (fun cdv A outer s H vs Q E hr h => ?_)
  · obtain ⟨v, r, rfl, _⟩ := h
    rfl
  · obtain ⟨v, r, rfl, hv, k⟩ := h
    obtain ⟨t3, hG⟩ := T.largest
    refine ⟨_, pss_one (ps_ret (pe_and (pe_call GI hr rfl mI kI bI .nil pass0 (pa_cons (pv 0) pa_nil)) (pe_one (pe_chain op_le op_le pe_int (pv 0) (pe_glob (v := .int 1000000000) rfl hG ⟨_, rfl⟩))))), ?_⟩
    rcases hv with ⟨i, rfl, rfl⟩ | ⟨rfl, hv⟩
    · refine ⟨_, rfl, _, _, rfl, .inl ⟨i, rfl, rfl⟩, true, rfl, iteT ?_⟩
      refine ⟨_, rfl, _, _, rfl, rfl, _, rfl, ?_⟩
      unfold amtOk at k
      refine ite2 (fun e => ?_) (fun e => ?_)
      · refine ⟨_, _, rfl, rfl, ?_⟩
        rw [e, Bool.true_and] at k
        exact k H Ext.refl
      · rw [Bool.eq_false_iff.mpr e, Bool.false_and] at k
        exact k H Ext.refl
    · exact ⟨_, rfl, _, _, rfl, .inr ⟨rfl, hv⟩, false, rfl, iteF (k H Ext.refl)⟩
/-! ### is_row, of a row that may stand there -/
def RowAt (H : Hp) (v : V) (r : FRow) : Prop := ∃ p, v = V.ref p ∧ H p = some (.tup [.str r.1, parV r.2])
def RowsAt (H : Hp) (vs : List V) (rs : List FRow) : Prop := vs.length = rs.length ∧ ∀ (i : Nat) (r : FRow), rs[i]? = some r → ∃ p, vs[i]? = some (V.ref p) ∧ H p = some (.tup [.str r.1, parV r.2])
theorem RowsAt.ext {H H' : Hp} {vs : List V} {rs : List FRow} (h : RowsAt H vs rs) (k : Ext H H') : RowsAt H' vs rs :=
  ⟨h.1, fun i r hr => by obtain ⟨p, a, b⟩ := h.2 i r hr; exact ⟨p, a, k _ _ b⟩⟩
def spRow : Sp := fun vs H Q _ => ∃ (v : V) (e : Addr) (r : FRow) (E : List Str), vs = [v, .ref e] ∧ RowAt H v r ∧ H e = some (.lst (E.map V.str)) ∧ RowOk E r ∧ ∀ H', Ext H H' → Q (.bl true) H'
theorem scRow : FnScope ["value", "earlier", "name", "parent"] ["value", "earlier"] (defScope sRow) := ⟨rfl, rfl, rfl, by decide +kernel, rfl, by decide +kernel, by decide +kernel⟩
theorem ok_row {f fN : Addr} {fd fdN : FuncData} (F : Fun K "is_row" "is_row" sRow f fd) (T : Names mg) (GN : FnOk P w K mg base CX0 1 fN fdN ["value"] spName) (bN : Binds K fdN ["value"] []) (kN : PySem.W.keepIn K (.ref fN) = true) (mN : mg "is_name" = some (.ref fN)) :
    FnOk P w K mg base CX0 2 f fd ["value", "earlier"] spRow := by
  refine F.ok scRow (fun vs H Q E h => ?_) (fun cdv A outer s H vs Q E hr h => ?_)
  · obtain ⟨v, e, r, E, rfl, _⟩ := h
    rfl
  · obtain ⟨v, e, r, E, rfl, ⟨p, rfl, hp⟩, he, ⟨r1, r2, r3⟩, k⟩ := h
    have hu := hu_of hr
    have nd := scRow.nd
    refine ⟨_, pss_cons (ps_if (PW.pt (pw_or (pt_not (pt_val (pe_callB call_isi rfl T.isi (by decide +kernel) (pa_cons (pv 0) (pa_cons (pe_bltn (v := .ty "tuple") rfl T.tuple (by decide +kernel) rfl) pa_nil))))) (pw_or1 (pt_cmpR op_ne (pe_callB call_len_seq rfl T.len PySem.boot_len (pa_cons (pv 0) pa_nil)) pe_int (nomark _))))) (pss_one (ps_ret pe_bl)) pss_nil)
      (pss_cons (ps_asg (pv 0) (by exact (pg_tup rfl (pgs_cons (pg_name (i := 2) nd rfl (.inl rfl)) (pgs_cons (pg_name (i := 3) nd rfl (.inl rfl)) pgs_nil)))))
      (pss_cons (ps_if (PW.pt (pw_or (pt_not (pt_val (pe_call GN hr rfl mN kN bN .nil pass0 (pa_cons (pv 2) pa_nil)))) (pw_or1 (pt_cmpR op_in_seq (pv 2) (pv 1) rfl)))) (pss_one (ps_ret pe_bl)) pss_nil)
      (pss_one (ps_ret (pe_or (pe_cmpR op_isN (pv 3) pe_non (nomark _)) (pe_one (pe_cmpR op_in_seq (pv 3) (pv 1) rfl))))))), ?_⟩
    refine ⟨_, rfl, _, _, _, _, true, rfl, .ty _, (TyT.tup hp).x, kit_ty (by decide +kernel), true, rfl, iteF ?_⟩
    refine ⟨_, rfl, p, _, rfl, .inr (SqT.of hp), rfl, _, rfl, iteNS rfl ?_⟩
    refine ⟨_, rfl, p, _, rfl, SqT.of hp, rfl, _, _, rfl, _, _, rfl, rfl, ?_⟩
    refine ⟨_, rfl, _, _, rfl, .inl ⟨r.1, rfl, name_asc19 r1, rfl⟩, fun H1 k1 => ?_⟩
    rw [r1]
    refine ⟨true, rfl, iteF ?_⟩
    refine ⟨_, rfl, _, rfl, e, _, rfl, .inl (SqL.of (k1 _ _ he)), rfl, strs_flat E, _, rfl, ?_⟩
    rw [inV_strs, decide_eq_false r2]
    refine iteF ?_
    refine ⟨_, rfl, rfl, ?_⟩
    cases e2 : r.2 with
    | none =>
      refine ⟨true, rfl, iteT ?_⟩
      exact k _ k1
    | some m =>
      refine ⟨false, rfl, iteF ?_⟩
      refine ⟨_, rfl, _, rfl, e, _, rfl, .inl (SqL.of (k1 _ _ he)), rfl, strs_flat E, ?_⟩
      show Q (.bl (inV (.str m) (E.map V.str))) H1
      rw [inV_strs, decide_eq_true (r3 m e2)]
      exact k _ k1
/-! ### first_wrong, of rows of a forest -/
def spWrong (K : PySem.W.Frag) : Sp := fun vs H Q _ => ∃ (l : Addr) (xs : List V) (rs : List FRow), vs = [.ref l] ∧ SqL K H l xs ∧ (∀ H', Ext H H' → SqL K H' l xs) ∧ RowsAt H xs rs ∧ GoodF [] rs ∧ rs.length ≤ 1000 ∧ ∀ H', Ext H H' → Q (.int rs.length) H'
theorem scWrong : FnScope ["rows", "earlier", "at", "row"] ["rows"] (defScope sWrong) := ⟨rfl, rfl, rfl, by decide +kernel, rfl, by decide +kernel, by decide +kernel⟩
theorem ok_wrong {f fR : Addr} {fd fdR : FuncData} (F : Fun K "first_wrong" "first_wrong" sWrong f fd) (T : Names mg) (GR : FnOk P w K mg base CX0 2 fR fdR ["value", "earlier"] spRow) (bR : Binds K fdR ["value", "earlier"] []) (kR : PySem.W.keepIn K (.ref fR) = true) (mR : mg "is_row" = some (.ref fR)) :
    FnOk P w K mg base CX0 3 f fd ["rows"] (spWrong K) := by
  refine F.ok scWrong (fun vs H Q E h => ?_) (fun cdv A outer s H vs Q E hr h => ?_)
  · obtain ⟨l, xs, rs, rfl, _⟩ := h
    rfl
  · obtain ⟨l, xs, rs, rfl, hl, hlk, hR, hg, hn, k⟩ := h
    have hu := hu_of hr
    have nd := scWrong.nd
    refine ⟨_, pss_cons (ps_set (i := 1) nd rfl (.inl rfl) (pe_lst pa_nil))
      (pss_cons (ps_for PassesOwn.never rfl (pi_enum rfl T.enum (pa_cons (pv 0) pa_nil)) (by exact (pg_tup rfl (pgs_cons (pg_name (i := 2) nd rfl (.inl rfl)) (pgs_cons (pg_name (i := 3) nd rfl (.inl rfl)) pgs_nil))))
        (pss_cons (ps_if (pt_not (pt_val (pe_call GR hr rfl mR kR bR .nil pass0 (pa_cons (pv 3) (pa_cons (pv 1) pa_nil))))) (pss_one (ps_ret (pv 2))) pss_nil)
        (pss_one (ps_expr (pe_bm PySem.F.plainAttrs_list PySem.F.slot_list_append PySem.F.type_list_append mt_append (pv 1) (pa_cons (pe_ix ix_tup (pv 3) pe_int (fun _ _ => rfl)) pa_nil))))))
      (pss_one (ps_ret (pe_callB call_len_seq rfl T.len PySem.boot_len (pa_cons (pv 0) pa_nil))))), ?_⟩
    refine ⟨Nat.zero_le _, fun e he => ?_⟩
    refine ⟨_, rfl, l, xs, rfl, hlk _ (Ext.new he), ?_⟩
    refine for_it walk_enum (fun i σ H' => ∃ (v2 v3 : Option V), σ = [some (.ref l), some (.ref e), v2, v3] ∧ H' e = some (.lst ((fNames (rs.take i)).map V.str)) ∧ Ext H H') ⟨none, none, rfl, upd_same, Ext.new he⟩ (fun i σ H' _ ⟨_, _, _, _, k1⟩ => hlk _ k1) ?_ ?_
    · rintro i x σ H1 H2 hi ⟨v2, v3, rfl, e1, k1⟩ ⟨t, a, b, rfl, ht, rfl, ea, eb⟩
      have ea : some (V.int (i : Nat)) = some a := ea
      cases ea
      have hir : i < rs.length := by have := hR.1; omega
      obtain ⟨p, h1, h2⟩ := hR.2 i _ (List.getElem?_eq_getElem hir)
      have eb : xs[i]? = some b := eb
      rw [h1] at eb
      cases eb
      have ok := good_at hg (List.getElem?_eq_getElem hir)
      rw [List.nil_append] at ok
      have k2 : Ext H (upd H1 t (.tup [.int (i : Nat), .ref p])) := k1.trans (Ext.new ht)
      have e2 : (upd H1 t (.tup [.int (i : Nat), .ref p])) e = some (.lst ((fNames (rs.take i)).map V.str)) := new_same ht _ _ e1
      refine ⟨t, _, rfl, SqT.of upd_same, rfl, _, _, rfl, _, _, rfl, rfl, ?_⟩
      refine ⟨_, rfl, _, rfl, _, e, rs[i], fNames (rs.take i), rfl, ⟨p, rfl, k2 _ _ h2⟩, e2, ok, fun H3 k3 => ?_⟩
      refine ⟨true, rfl, iteF ?_⟩
      have e3 := k3 _ _ e2
      refine ⟨_, rfl, .inl ⟨rfl, _, SqL.of e3⟩, _, rfl, p, _, _, _, rfl, rfl, SqT.of ((k2.trans k3) _ _ h2), rfl, e, _, _, rfl, rfl, e3, ?_, ?_⟩
      · rw [sizeLine_eq, List.length_map, fNames, List.length_map, List.length_take]
        omega
      · refine ⟨_, _, rfl, ?_, fun a o ha => ?_⟩
        · rw [upd_same, names_take, names_take]
          show _ = some (HO.lst (((fNames rs).take (i + 1)).map V.str))
          rw [List.map_take, List.map_take, List.take_add_one]
          have : (List.map V.str (fNames rs))[i]? = some (V.str rs[i].1) := by
            rw [List.getElem?_map, fNames, List.getElem?_map, List.getElem?_eq_getElem hir]
            rfl
          rw [this]
          rfl
        · rw [upd_ne (ne_of_none ha he)]
          exact k3 _ _ (k2 _ _ ha)
    · rintro σ H1 ⟨v2, v3, rfl, e1, k1⟩
      refine ⟨_, rfl, l, xs, rfl, .inl (hlk _ k1), ?_⟩
      rw [hR.1]
      exact k _ k1
end
end Lw

set_option Elab.async false
set_option linter.all false
set_option maxRecDepth 100000
set_option maxHeartbeats 4000000
namespace Lw
open L2 hiding Ext
open PySem PySem.Spec PyProof.Rows Gn Gr Gk Go Gt Gf
/-- what of the text the class Forest has -/
structure FC (K : PySem.W.Frag) (mg : Str → Option Value) (C fI : Addr) (mc : Value) : Prop where
  cl : Cls K C
  make : Mk K C fI
  nP : NoAttr K C "_parents"
  cr : ClX.CRead K C mc
  most : ∃ u, ClX.CVal K C mc "MOST" (.int 8) u
  ha : PySem.W.findIn K (.ref C) "__class__" = some (some (.builtin "object.__class__"))
  hn : PySem.W.specialIn K (.builtin "object.__class__") "__get__" = some (some (.builtin "getset_descriptor.__get__"))
  htk : PySem.W.takesIn K (.builtin "object.__class__") = some true
  hm : PySem.W.mroIn K C (.type "object") = some true
  self : PySem.W.kitOne K (.ref C) (.ref C) = some true
  g : mg "Forest" = some (.ref C)
def kvs (rs : List FRow) : List (Key × V) := rs.map kvOf
def FoAt (C : Addr) (H : Hp) (a : Addr) (rs : List FRow) : Prop := ∃ dx q, H a = some (.ins C dx [("_parents", .ref q)]) ∧ H q = some (.dK (kvs rs))
theorem FoAt.ext {C a : Addr} {H H' : Hp} {rs : List FRow} (h : FoAt C H a rs) (k : Ext H H') : FoAt C H' a rs := by
  obtain ⟨dx, q, h1, h2⟩ := h
  exact ⟨dx, q, k _ _ h1, k _ _ h2⟩
def Good (rs : List FRow) : Prop := 1 ≤ rs.length ∧ rs.length ≤ 8 ∧ GoodF [] rs
theorem kvs_none {rs : List FRow} {n : Str} (h : n ∉ fNames rs) : valV (kvs rs) (Sum.inr n : Key) = none := by
  induction rs with
  | nil => rfl
  | cons r t ih =>
    have h1 : ¬ r.1 = n := fun e => h (by simp [fNames, e])
    have h2 : n ∉ fNames t := fun e => h (List.mem_cons_of_mem _ e)
    show valV ((Sum.inr r.1, parV r.2) :: kvs t) (Sum.inr n : Key) = none
    rw [valV_neg (fun e => h1 (Sum.inr.inj e))]
    exact ih h2
theorem kvs_some : ∀ {rs : List FRow} {r : FRow}, (fNames rs).Nodup → r ∈ rs → valV (kvs rs) (Sum.inr r.1 : Key) = some (parV r.2)
  | [], _, _, h => by cases h
  | x :: t, r, hn, h => by
    have hn' : (x.1 :: fNames t).Nodup := hn
    obtain ⟨n1, n2⟩ := List.nodup_cons.mp hn'
    show valV ((Sum.inr x.1, parV x.2) :: kvs t) (Sum.inr r.1 : Key) = _
    rcases List.mem_cons.mp h with rfl | h
    · exact valV_pos rfl
    · have ne : ¬ x.1 = r.1 := fun e => n1 (by rw [e]; exact List.mem_map.mpr ⟨r, h, rfl⟩)
      rw [valV_neg (fun e => ne (Sum.inr.inj e))]
      exact kvs_some n2 h
section
variable {P : Program} {w : World} {K : PySem.W.Frag} {mg : Str → Option Value} {base : Heap} {C fI : Addr} {mc : Value}
theorem FC.ty (T : FC K mg C fI mc) {H : Hp} {a dx : Addr} {fs : List (Str × V)} (h : H a = some (.ins C dx fs)) : TyX K H (.ref a) (.ref C) := .base (.ins h T.cl T.ha T.hn T.htk T.hm)
/-! ### Forest.__init__ -/
def spInit (C : Addr) : Sp := fun vs H Q _ => ∃ (x l dx : Addr) (xs : List V) (rs : List FRow), vs = [.ref x, .ref l] ∧ H x = some (.ins C dx []) ∧ H l = some (.lst xs) ∧ RowsAt H xs rs ∧ Good rs ∧
  ∀ H' D, (∀ a o, a ≠ x → H a = some o → H' a = some o) → H' x = some (.ins C dx [("_parents", .ref D)]) → H' D = some (.dK (kvs rs)) → Q .non H'
theorem scInit : FnScope ["self", "rows", "name", "parent"] ["self", "rows"] (defScope sInit) := ⟨rfl, rfl, rfl, by decide +kernel, rfl, by decide +kernel, by decide +kernel⟩
theorem ok_init {f fW : Addr} {fd fdW : FuncData} (F : Fun K "__init__" "Forest.__init__" sInit f fd) (T : Names mg) (Z : FC K mg C fI mc) (GW : FnOk P w K mg base CX0 3 fW fdW ["rows"] (spWrong K)) (bW : Binds K fdW ["rows"] []) (kW : PySem.W.keepIn K (.ref fW) = true) (mW : mg "first_wrong" = some (.ref fW)) :
    FnOk P w K mg base CX0 4 f fd ["self", "rows"] (spInit C) := by
  refine F.ok scInit (fun vs H Q E h => ?_) (fun cdv A outer s H vs Q E hr h => ?_)
  · obtain ⟨x, l, dx, xs, rs, rfl, _⟩ := h
    rfl
  · obtain ⟨x, l, dx, xs, rs, rfl, hx, hl, hR, ⟨g1, g8, hg⟩, k⟩ := h
    have hu := hu_of hr
    have nd := scInit.nd
    obtain ⟨um, hM⟩ := Z.most
    refine ⟨_, pss_cons (ps_if (pt_not (pt_val (pe_callB call_isiT rfl T.isi (by decide +kernel) (pa_cons (pv 1) (pa_cons (pe_tup (pa_cons (pe_bltn (v := .ty "list") rfl T.list (by decide +kernel) rfl) (pa_cons (pe_bltn (v := .ty "tuple") rfl T.tuple (by decide +kernel) rfl) pa_nil))) pa_nil))))) pss_never pss_nil)
      (pss_cons (ps_if (PW.pt (pw_or (pt_cmpR op_lt (pe_callB call_len_seq rfl T.len PySem.boot_len (pa_cons (pv 1) pa_nil)) pe_int (nomark _)) (pw_or1 (pt_cmpR op_gt (pe_callB call_len_seq rfl T.len PySem.boot_len (pa_cons (pv 1) pa_nil)) (ClX.pe_cval (pe_glob (v := .ref C) rfl Z.g rfl)) (nomark _))))) pss_never pss_nil)
      (pss_cons (ps_if (pt_cmpR op_lt (pe_call GW hr rfl mW kW bW .nil pass0 (pa_cons (pv 1) pa_nil)) (pe_callB call_len_seq rfl T.len PySem.boot_len (pa_cons (pv 1) pa_nil)) (nomark _)) pss_never pss_nil)
      (pss_one (ps_fld (pv 0) (pe_dc (own := [("name", 2), ("parent", 3)]) (g := gTup K 2 (gCons (gName 2) (gCons (gName 3) gNil))) (tt := tYes) rfl nd (pi_list (pv 1)) (blkOk_by (N := ["self", "rows", "name", "parent"]) (sc := defScope sInit) (by decide +kernel))
        (fun _ _ _ _ _ => by exact (pg_tup rfl (pgs_cons (pg_name (i := 2) nd rfl (.inl rfl)) (pgs_cons (pg_name (i := 3) nd rfl (.inl rfl)) pgs_nil)))) (fun _ _ _ _ _ => pts_nil) (fun _ _ _ _ _ => pv 2) (fun _ _ _ _ _ => pv 3)) rfl)))), ?_⟩
    have hlen : xs.length = rs.length := hR.1
    refine ⟨_, rfl, by show 2 ≤ sizeLine; decide, fun tp htp => ?_⟩
    have hx1 := new_same (o := .tup [.ty "list", .ty "tuple"]) htp _ _ hx
    have hl1 := new_same (o := .tup [.ty "list", .ty "tuple"]) htp _ _ hl
    have k1 : Ext H (upd H tp (.tup [.ty "list", .ty "tuple"])) := Ext.new htp
    have ht1 : (upd H tp (.tup [.ty "list", .ty "tuple"])) tp = some (.tup [.ty "list", .ty "tuple"]) := upd_same
    generalize upd H tp (.tup [.ty "list", .ty "tuple"]) = H1 at hx1 hl1 k1 ht1 ⊢
    refine ⟨_, tp, _, _, [.type "list", .type "tuple"], true, rfl, ht1, .cons (.ty _) (.cons (.ty _) .nil), (TyT.lst hl1).x, kitAny_cons (b := true) (kit_ty (by decide +kernel)) (fun z => by cases z) (fun _ => rfl), true, rfl, iteF ?_⟩
    refine ⟨_, rfl, l, _, rfl, .inl (SqL.of hl1), _, _, rfl, rfl, _, rfl, iteN (by omega) ?_⟩
    refine ⟨_, rfl, l, _, rfl, .inl (SqL.of hl1), C, mc, _, um, rfl, Z.cr, hM, _, _, rfl, rfl, _, rfl, iteN (by omega) ?_⟩
    refine ⟨_, rfl, l, xs, rs, rfl, SqL.of hl1, fun H' k' => SqL.of (k' _ _ hl1), hR.ext k1, hg, by omega, fun H2 k2 => ?_⟩
    have hl2 := k2 _ _ hl1
    have hx2 := k2 _ _ hx1
    refine ⟨_, rfl, l, _, rfl, .inl (SqL.of hl2), _, _, rfl, rfl, _, rfl, iteN (by omega) ?_⟩
    refine ⟨_, rfl, l, rfl, ⟨_, SqL.of hl2⟩, fun D hD => ?_⟩
    refine dc_it walk_list (fun i H' => H' D = some (.dK (kvs (rs.take i))) ∧ Ext H2 H') ⟨upd_same, Ext.new hD⟩ (fun i H' _ ⟨_, e⟩ => SqL.of (e _ _ hl2)) ?_ ?_
    · rintro i y H3 H4 hi ⟨d3, k3⟩ ⟨rfl, hy⟩
      have hir : i < rs.length := by omega
      obtain ⟨p, h1, h2⟩ := hR.2 i _ (List.getElem?_eq_getElem hir)
      rw [h1] at hy
      cases hy
      have ok := good_at hg (List.getElem?_eq_getElem hir)
      rw [List.nil_append] at ok
      refine ⟨p, _, rfl, SqT.of (k3 _ _ (k2 _ _ (k1 _ _ h2))), rfl, _, _, rfl, _, _, rfl, rfl, rfl, yes_of ?_⟩
      refine ⟨_, rfl, _, rfl, kvs (rs.take i), (Sum.inr rs[i].1 : Key), rfl, d3, ?_, ?_, fun a o ha => ?_⟩
      · rw [sizeLine_eq, kvs, List.length_map, List.length_take]
        omega
      · rw [upd_same, putK_new _ (kvs_none ok.2.1)]
        show _ = some (HO.dK ((rs.take (i + 1)).map kvOf))
        rw [take_succ_map kvOf (List.getElem?_eq_getElem hir)]
        rfl
      · rw [upd_ne (ne_of_none ha hD)]
        exact k3 _ _ ha
    · rintro H3 ⟨d3, k3⟩
      rw [hlen, List.take_length] at d3
      refine ⟨_, rfl, x, C, dx, [], rfl, k3 _ _ hx2, Z.cl, Z.nP, by decide, ?_⟩
      refine k _ D (fun a o na ha => ?_) upd_same ?_
      · rw [upd_ne na]
        exact k3 _ _ (k2 _ _ (k1 _ _ ha))
      · rw [upd_ne (ne_of_none hx2 hD).symm]
        exact d3
theorem keys_strs (rs : List FRow) : ((kvs rs).map fun kv => kV kv.1) = (fNames rs).map V.str := by
  unfold kvs fNames
  rw [List.map_map, List.map_map]
  rfl
/-! ### names -/
def spNames (C : Addr) : Sp := fun vs H Q _ => ∃ (a : Addr) (rs : List FRow), vs = [.ref a] ∧ FoAt C H a rs ∧ ∀ H' t, Ext H H' → H t = none → H' t = some (.tup ((fNames rs).map V.str)) → Q (.ref t) H'
theorem scNames : FnScope ["self"] ["self"] (defScope sNames) := ⟨rfl, rfl, rfl, by decide +kernel, rfl, by decide +kernel, by decide +kernel⟩
theorem ok_names {f : Addr} {fd : FuncData} (F : Fun K "names" "Forest.names" sNames f fd) (T : Names mg) (Z : FC K mg C fI mc) : FnOk P w K mg base CX0 1 f fd ["self"] (spNames C) := by
  refine F.ok scNames (fun vs H Q E h => ?_) (fun cdv A outer s H vs Q E hr h => ?_)
  · obtain ⟨a, rs, rfl, _⟩ := h
    rfl
  · obtain ⟨a, rs, rfl, ⟨dx, q, h1, h2⟩, k⟩ := h
    refine ⟨_, pss_one (ps_ret (pe_callTy (call_tuple_dK rfl) rfl T.tuple (by decide +kernel) (pa_cons (pe_fld (pv 0) rfl) pa_nil))), ?_⟩
    refine ⟨_, rfl, a, C, dx, _, _, rfl, h1, Z.cl, Z.nP, rfl, q, _, rfl, h2, fun t ht => ?_⟩
    rw [keys_strs]
    exact k _ t (Ext.new ht) ht upd_same
end
def parOf (rs : List FRow) (n : Str) : Option Str := (rs.find? fun r => decide (r.1 = n)).bind (·.2)
theorem parOf_at : ∀ {rs : List FRow} {r : FRow}, (fNames rs).Nodup → r ∈ rs → parOf rs r.1 = r.2
  | [], _, _, h => by cases h
  | x :: t, r, hn, h => by
    have hn' : (x.1 :: fNames t).Nodup := hn
    obtain ⟨n1, n2⟩ := List.nodup_cons.mp hn'
    unfold parOf
    rcases List.mem_cons.mp h with rfl | h
    · rw [List.find?_cons_of_pos (by simp)]
      rfl
    · have ne : ¬ x.1 = r.1 := fun e => n1 (by rw [e]; exact List.mem_map.mpr ⟨r, h, rfl⟩)
      rw [List.find?_cons_of_neg (by simpa using ne)]
      exact parOf_at n2 h
def ancF (rs : List FRow) : Nat → Str → List Str
  | 0, _ => []
  | k + 1, n => n :: match parOf rs n with
    | none => []
    | some m => ancF rs k m
def ancR (rs : List FRow) (k : Nat) : Option Str → List Str
  | none => []
  | some m => ancF rs k m
theorem ancF_s (rs : List FRow) (k : Nat) (n : Str) : ancF rs (k + 1) n = n :: ancR rs k (parOf rs n) := by
  show n :: _ = n :: _
  cases parOf rs n <;> rfl
section
variable {P : Program} {w : World} {K : PySem.W.Frag} {mg : Str → Option Value} {base : Heap} {C fI : Addr} {mc : Value}
/-! ### ancestors -/
theorem par_idx {rs : List FRow} (hg : GoodF [] rs) {j : Nat} {r : FRow} (h : rs[j]? = some r) {m : Str} (hm : r.2 = some m) : ∃ j' r', j' < j ∧ rs[j']? = some r' ∧ r'.1 = m := by
  have ok := (good_at hg h).2.2 m hm
  rw [List.nil_append] at ok
  obtain ⟨r', h1, h2⟩ := List.mem_map.mp ok
  obtain ⟨j', hj⟩ := List.mem_iff_getElem?.mp h1
  have hlt : j' < j := by
    have := (List.getElem?_eq_some_iff.mp hj).1
    rw [List.length_take] at this
    omega
  rw [List.getElem?_take_of_lt hlt] at hj
  exact ⟨j', r', hlt, hj, h2⟩
def spAnc (C : Addr) : Sp := fun vs H Q _ => ∃ (a : Addr) (rs : List FRow) (i : Nat) (r : FRow), vs = [.ref a, .str r.1] ∧ FoAt C H a rs ∧ Good rs ∧ rs[i]? = some r ∧
  ∀ H' l, Ext H H' → H l = none → H' l = some (.lst ((ancF rs (i + 1) r.1).map V.str)) → Q (.ref l) H'
theorem scAnc : FnScope ["self", "name", "found", "above"] ["self", "name"] (defScope sAnc) := ⟨rfl, rfl, rfl, by decide +kernel, rfl, by decide +kernel, by decide +kernel⟩
theorem ok_anc {f pN fN : Addr} {fd fdN : FuncData} (F : Fun K "ancestors" "Forest.ancestors" sAnc f fd) (T : Names mg) (Z : FC K mg C fI mc) (hpN : PropOf K C "names" pN fN) (GN : FnOk P w K mg base CX0 1 fN fdN ["self"] (spNames C)) (bN : Binds K fdN ["self"] []) :
    FnOk P w K mg base CX0 3 f fd ["self", "name"] (spAnc C) := by
  refine F.ok scAnc (fun vs H Q E h => ?_) (fun cdv A outer s H vs Q E hr h => ?_)
  · obtain ⟨a, rs, i, r, rfl, _⟩ := h
    rfl
  · obtain ⟨a, rs, i, r, rfl, ⟨dx, q, h1, h2⟩, ⟨g1, g8, hg⟩, hi, k⟩ := h
    have hu := hu_of hr
    have nd := scAnc.nd
    have hnd := (good_nodup hg).1
    refine ⟨_, pss_cons (ps_if (pt_cmpR op_notIn_seq (pv 1) (pe_prop (pv 0) Z.cl hpN GN hr bN .nil pass0 rfl) rfl) pss_never pss_nil)
      (pss_cons (ps_set (i := 2) nd rfl (.inl rfl) (pe_lst (pa_cons (pv 1) pa_nil)))
      (pss_cons (ps_set (i := 3) nd rfl (.inl rfl) (pe_dget hu (pe_fld (pv 0) rfl) (pv 1) (fun _ _ => rfl)))
      (pss_cons (ps_while PassesOwn.never (pt_cmpR op_notN (pv 3) pe_non (nomark _))
        (pss_cons (ps_expr (pe_bm PySem.F.plainAttrs_list PySem.F.slot_list_append PySem.F.type_list_append mt_append (pv 2) (pa_cons (pv 3) pa_nil)))
        (pss_one (ps_set (i := 3) nd rfl (.inl rfl) (pe_dget hu (pe_fld (pv 0) rfl) (pv 3) (fun _ _ => rfl))))))
      (pss_one (ps_ret (pv 2)))))), ?_⟩
    have hrm : r ∈ rs := List.mem_of_getElem? hi
    have hin : r.1 ∈ fNames rs := List.mem_map.mpr ⟨r, hrm, rfl⟩
    have hil : i < rs.length := (List.getElem?_eq_some_iff.mp hi).1
    refine ⟨_, rfl, _, rfl, a, dx, _, rfl, h1, a, rs, rfl, ⟨dx, q, h1, h2⟩, fun H1 t k1 ht0 ht => ?_⟩
    refine ⟨t, _, rfl, .inr (SqT.of ht), rfl, strs_flat _, _, rfl, ?_⟩
    rw [inV_strs, decide_eq_true hin]
    refine iteF ?_
    refine ⟨_, rfl, by show 1 ≤ sizeLine; decide, fun l hl => ?_⟩
    have hlH : H l = none := by
      cases e : H l with
      | none => rfl
      | some u => rw [k1 _ _ e] at hl; cases hl
    have k2 : Ext H (upd H1 l (.lst [.str r.1])) := k1.trans (Ext.new hl)
    have hl2 : (upd H1 l (.lst [.str r.1])) l = some (.lst ([r.1].map V.str)) := upd_same
    generalize upd H1 l (.lst [.str r.1]) = H2 at k2 hl2 ⊢
    have get : ∀ {H' : Hp} {x : FRow}, Ext H H' → x ∈ rs → DGet H' q (.str x.1) (some (parV x.2)) := by
      intro H' x kk hx
      rw [← kvs_some hnd hx]
      exact DGet.k (k := Sum.inr x.1) (kk _ _ h2)
    refine ⟨_, rfl, a, C, dx, _, _, rfl, k2 _ _ h1, Z.cl, Z.nP, rfl, _, rfl, q, _, rfl, get k2 hrm, ?_⟩
    refine while_by (fun σ H' => ∃ (pq : Option Str) (pre : List Str) (kk : Nat), σ = [some (.ref a), some (.str r.1), some (.ref l), some (parV pq)] ∧ H' l = some (.lst (pre.map V.str)) ∧ pre.length + kk = i + 1 ∧
        (∀ m, pq = some m → ∃ (j : Nat) (r' : FRow), j < kk ∧ rs[j]? = some r' ∧ r'.1 = m) ∧ pre ++ ancR rs kk pq = ancF rs (i + 1) r.1 ∧ Ext H H')
      (fun _ H' => match H' l with | some (.lst xs) => 100 - xs.length | _ => 0) ⟨r.2, [r.1], i, rfl, hl2, by simp; omega, fun m hm => ?_, ?_, k2⟩ ?_ ?_
    · obtain ⟨j', r', a1, a2, a3⟩ := par_idx hg hi hm
      exact ⟨j', r', a1, a2, a3⟩
    · rw [ancF_s, parOf_at hnd hrm]
      rfl
    · rintro σ H3 ⟨pq, pre, kk, rfl, e3, hk, hm, he, k3⟩
      cases pq with
      | none =>
        refine ⟨_, rfl, rfl, _, rfl, iteNS rfl ?_⟩
        refine ⟨_, rfl, k _ l k3 hlH ?_⟩
        rw [e3]
        have : pre = ancF rs (i + 1) r.1 := by rw [← he]; simp [ancR]
        rw [this]
      | some m =>
        obtain ⟨j, r', j1, j2, rfl⟩ := hm m rfl
        have hr' : r' ∈ rs := List.mem_of_getElem? j2
        refine ⟨_, rfl, rfl, _, rfl, ?_⟩
        show if (!decide (V.str r'.1 = V.non)) = true then _ else _
        rw [decide_eq_false (by intro z; cases z)]
        refine iteT ?_
        refine ⟨_, rfl, .inl ⟨rfl, _, SqL.of e3⟩, _, rfl, l, _, _, rfl, rfl, e3, ?_, ?_⟩
        · rw [sizeLine_eq, List.length_map]
          omega
        have k4 : Ext H (upd H3 l (.lst (pre.map V.str ++ [.str r'.1]))) := fun b o hb => by
          rw [upd_ne (ne_of_none hb hlH)]
          exact k3 _ _ hb
        refine ⟨_, rfl, a, C, dx, _, _, rfl, k4 _ _ h1, Z.cl, Z.nP, rfl, _, rfl, q, _, rfl, get k4 hr', ?_⟩
        obtain ⟨kp, rfl⟩ : ∃ kp, kk = kp + 1 := ⟨kk - 1, by omega⟩
        refine ⟨⟨r'.2, pre ++ [r'.1], kp, rfl, by rw [upd_same, List.map_append]; rfl, by rw [List.length_append]; show pre.length + 1 + kp = _; omega, fun m' hm' => ?_, ?_, k4⟩, ?_⟩
        · obtain ⟨j', r'', a1, a2, a3⟩ := par_idx hg j2 hm'
          exact ⟨j', r'', by omega, a2, a3⟩
        · rw [← he]
          show pre ++ [r'.1] ++ ancR rs kp r'.2 = pre ++ ancF rs (kp + 1) r'.1
          rw [ancF_s, parOf_at hnd hr', List.append_assoc]
          rfl
        · show (match (upd H3 l (.lst (pre.map V.str ++ [.str r'.1]))) l with | some (.lst xs) => 100 - xs.length | _ => 0) < (match H3 l with | some (.lst xs) => 100 - xs.length | _ => 0)
          rw [upd_same, e3]
          show 100 - (pre.map V.str ++ [V.str r'.1]).length < 100 - (pre.map V.str).length
          rw [List.length_append, List.length_map]
          show 100 - (pre.length + 1) < _
          omega
    · exact fun σ H Q Q' hq ⟨v, e1, e2, b, e3, h⟩ => ⟨v, e1, e2, b, e3, hq _ _ h⟩
end
end Lw

set_option Elab.async false
set_option linter.all false
set_option maxRecDepth 100000
set_option maxHeartbeats 4000000
namespace Lw
open L2 hiding Ext
open PySem PySem.Spec PyProof.Rows Gn Gr Gk Go Gt Gf
section
variable {P : Program} {w : World} {K : PySem.W.Frag} {mg : Str → Option Value} {base : Heap}
/-- the two defs that draw, as they stand -/
structure Draw (P : Program) (w : World) (K : PySem.W.Frag) (mg : Str → Option Value) (base : Heap) (ns : List Int) (fT fP : Addr) (fdT fdP : FuncData) : Prop where
  GT : FnOk P w K mg base CX0 2 fT fdT ["_law_state", "_law_size"] (spTake ns)
  bT : Binds K fdT ["_law_state", "_law_size"] []
  kT : PySem.W.keepIn K (.ref fT) = true
  mT : mg "_law_take" = some (.ref fT)
  GP : FnOk P w K mg base CX0 3 fP fdP ["_law_state", "_law_some"] (spPick K ns)
  bP : Binds K fdP ["_law_state", "_law_some"] []
  kP : PySem.W.keepIn K (.ref fP) = true
  mP : mg "_law_pick" = some (.ref fP)
  len : mg "len" = none
  range : mg "range" = none
/-! ### _law_words -/
abbrev nWords : List Str := ["_law_state", "_law_size", "_law_own", "_law_letters", "_law_found", "_law_k", "_law_word", "_law_j", "_law_letter", "_law_other"]
def spWords (ns : List Int) : Sp := fun vs H Q _ => ∃ (d g c : Addr) (b : Nat) (z : Int), vs = [.ref d, .int z] ∧ Dw ns d g c b H ∧ b ≤ 900000000 ∧ 0 ≤ z ∧ z ≤ 8 ∧
  ∀ (l : Addr) (ws : List Str) (H' : Hp), H l = none → l ≠ d → l ≠ g → H' l = some (.lst (ws.map V.str)) → ws.length = z.toNat → ws.Nodup → (∀ x ∈ ws, nameOk x = true) → Dw ns d g c (b + 200) H' → Kp d g H H' → Q (.ref l) H'
theorem scWords : FnScope nWords ["_law_state", "_law_size"] (defScope sWords) := ⟨rfl, rfl, rfl, by decide +kernel, rfl, by decide +kernel, by decide +kernel⟩
theorem ok_words {f fT fP : Addr} {fd fdT fdP : FuncData} (ns : List Int) (F : Fun K "_law_words" "_law_words" sWords f fd) (R : Draw P w K mg base ns fT fP fdT fdP) : FnOk P w K mg base CX0 4 f fd ["_law_state", "_law_size"] (spWords ns) := by
  refine F.ok scWords (fun vs H Q E h => ?_) (fun cdv A outer s H vs Q E hr h => ?_)
  · obtain ⟨d, g, c, b, z, rfl, _⟩ := h
    rfl
  · obtain ⟨d, g, c, b, z, rfl, D, hb, z0, z8, k⟩ := h
    have hu := hu_of hr
    have nd := scWords.nd
    have hr2 : Room 2 (A.deeper (envOfC "_law_words" (defScope sWords) s.heap.objs.size f cdv)) := hr.mono (by decide)
    refine ⟨_, pss_cons (ps_set (i := 2) nd rfl (.inl rfl) (pe_split pe_str pe_str))
      (pss_cons (ps_asg (pe_tup (pa_cons pe_str (pa_cons (pe_lst pa_nil) pa_nil))) (by exact (pg_tup rfl (pgs_cons (pg_name (i := 3) nd rfl (.inr rfl)) (pgs_cons (pg_name (i := 4) nd rfl (.inr rfl)) pgs_nil)))))
      (pss_cons (ps_for PassesOwn.never rfl (pi_range1 rfl R.range (pa_cons (pv 1) pa_nil)) (pg_name (i := 5) nd rfl (.inl rfl))
        (pss_cons (ps_set (i := 6) nd rfl (.inr rfl) (pe_call R.GP hr rfl R.mP R.kP R.bP .nil pass0 (pa_cons (pv 0) (pa_cons (pv 2) pa_nil))))
        (pss_cons (ps_if (pt_cmpR op_gt (pe_call R.GT hr2 rfl R.mT R.kT R.bT .nil pass0 (pa_cons (pv 0) (pa_cons pe_int pa_nil))) pe_int (nomark _))
          (pss_one (ps_set (i := 6) nd rfl (.inr rfl) (pe_join pe_str (pe_lc (own := [("_law_j", 7)]) (g := gName 7) (tt := tYes) rfl nd (pi_range1 rfl R.range (pa_cons (pe_call R.GP hr rfl R.mP R.kP R.bP .nil pass0 (pa_cons (pv 0) (pa_cons (pe_lst (pa_cons pe_int (pa_cons pe_int (pa_cons pe_int (pa_cons pe_int pa_nil))))) pa_nil))) pa_nil)) (blkOk_by (N := nWords) (sc := defScope sWords) (by decide +kernel))
            (fun _ _ _ _ _ => pg_name (i := 7) nd rfl (.inl rfl)) (fun _ _ _ _ _ => pts_nil) (fun _ _ _ _ _ => pe_call R.GP hr rfl R.mP R.kP R.bP .nil pass0 (pa_cons (pv 0) (pa_cons (pv 3) pa_nil))))))) pss_nil)
        (pss_cons (ps_if (pt_cmpR op_in_seq (pv 6) (pv 4) rfl)
          (pss_one (ps_set (i := 6) nd rfl (.inr rfl) (pe_ix ix_list (pe_lc (own := [("_law_other", 9)]) (g := gName 9) rfl nd (pi_list
              (pe_lc (own := [("_law_letter", 8)]) (g := gName 8) (tt := tYes) rfl nd (pi_str (pv 3)) (blkOk_by (N := nWords) (sc := defScope sWords) (by decide +kernel))
                (fun _ _ _ _ _ => pg_name (i := 8) nd rfl (.inl rfl)) (fun _ _ _ _ _ => pts_nil) (fun _ _ _ _ _ => pe_op op_add_str (pe_op op_add_str (pe_slice sl_str (pv 6) po_none (po_some pe_int)) pe_str) (pv 8)))) (blkOk_by (N := nWords) (sc := defScope sWords) (by decide +kernel))
              (fun _ _ _ _ _ => pg_name (i := 9) nd rfl (.inl rfl)) (fun _ _ _ _ _ => pts_one (pt_cmpR (r := rIn K true) op_notIn_seq (pv 9) (pv 4) rfl)) (fun _ _ _ _ _ => pv 9)) pe_int (fun _ _ => rfl)))) pss_nil)
        (pss_one (ps_expr (pe_bm PySem.F.plainAttrs_list PySem.F.slot_list_append PySem.F.type_list_append mt_append (pv 4) (pa_cons (pv 6) pa_nil))))))))
      (pss_one (ps_ret (pv 4))))), ?_⟩
    have ho1 : (ownText.length : Nat) ≤ 100 := by decide +kernel
    refine ⟨⟨_, rfl⟩, ownText, _, rfl, rfl, by decide +kernel, by rw [sizeLine_eq]; omega, fun o hoN => ?_⟩
    have Do := D.new (o := .lst (owns.map V.str)) hoN
    have hno : o ≠ d := D.nd hoN
    have hgo : o ≠ g := D.ng hoN
    have ho : (upd H o (.lst (owns.map V.str))) o = some (.lst (owns.map V.str)) := upd_same
    have ko : Kp d g H (upd H o (.lst (owns.map V.str))) := Kp.new hoN
    show tSeq _ _ _ _ (upd H o (.lst (owns.map V.str)))
    generalize upd H o (.lst (owns.map V.str)) = H1 at Do ho ko ⊢
    refine ⟨Nat.zero_le _, fun l hl => ?_⟩
    have Dl := Do.new (o := .lst []) hl
    have hnl : l ≠ d := Do.nd hl
    have hgl : l ≠ g := Do.ng hl
    have hcl : l ≠ c := fun e => by rw [e, Do.cl] at hl; cases hl
    have hol : l ≠ o := (ne_of_none ho hl).symm
    have hlH : H l = none := D.free Do ko hl
    have kl : Kp d g H (upd H1 l (.lst [])) := ko.trans (Kp.new hl)
    have ho2 := new_same (o := .lst []) hl _ _ ho
    have hl2 : (upd H1 l (.lst [])) l = some (.lst (([] : List Str).map V.str)) := upd_same
    generalize upd H1 l (.lst []) = H2 at Dl kl ho2 hl2 ⊢
    refine ⟨by show 2 ≤ sizeLine; decide, fun t ht => ?_⟩
    have Dt := Dl.new (o := .tup [.str letters, .ref l]) ht
    have kt : Kp d g H (upd H2 t (.tup [.str letters, .ref l])) := kl.trans (Kp.new ht)
    have ho3 := new_same (o := .tup [.str letters, .ref l]) ht _ _ ho2
    have hl3 := new_same (o := .tup [.str letters, .ref l]) ht _ _ hl2
    refine ⟨t, _, rfl, SqT.of upd_same, rfl, _, _, rfl, _, _, rfl, rfl, ?_⟩
    show tSeq _ _ _ _ (upd H2 t (.tup [.str letters, .ref l]))
    generalize upd H2 t (.tup [.str letters, .ref l]) = H3 at Dt kt ho3 hl3 ⊢
    refine ⟨_, rfl, z, rfl, by omega, by omega, for_range (lo := 0) (n := z.toNat) (fun i σ H' => ∃ (v5 v6 : Option V) (ws : List Str), σ = [some (.ref d), some (.int z), some (.ref o), some (.str letters), some (.ref l), v5, v6, none, none, none] ∧
        H' o = some (.lst (owns.map V.str)) ∧ H' l = some (.lst (ws.map V.str)) ∧ ws.length = i ∧ ws.Nodup ∧ (∀ x ∈ ws, nameOk x = true) ∧ Dw ns d g c (b + 20 * i) H' ∧ Kp d g H H')
      ⟨none, none, [], rfl, ho3, hl3, rfl, List.nodup_nil, (fun x hx => by cases hx), Dt, kt⟩ ?_ ?_⟩
    · rintro i σ H4 hi ⟨v5, v6, ws, rfl, o4, l4, wl, wn, wok, D4, k4⟩
      refine ⟨_, rfl, _, rfl, d, g, c, _, D4, by omega, .inl ⟨o, _, rfl, o4, hno, hgo, by rw [List.length_map, owns_len]; decide, by rw [List.length_map, owns_len]; decide, fun y H5 hy D5 k5 => ?_⟩⟩
      obtain ⟨w0, hw0, rfl⟩ := List.mem_map.mp hy
      have hw0 := owns_ok w0 hw0
      refine ⟨_, rfl, d, g, c, _, 3, rfl, D5, by omega, by decide, by decide, fun r H6 r0 r1 D6 k6 => ?_⟩
      have l6 := k6 _ _ hnl hgl (k5 _ _ hnl hgl l4)
      have o6 := k6 _ _ hno hgo (k5 _ _ hno hgo o4)
      have k46 : Kp d g H H6 := (k4.trans k5).trans k6
      have fin : ∀ (wd : Str) (H' : Hp) (v5' : Option V), nameOk wd = true → wd ∉ ws → H' o = some (.lst (owns.map V.str)) → H' l = some (.lst (ws.map V.str)) → Dw ns d g c (b + 20 * i + 20) H' → Kp d g H H' →
          ∃ (v5 v6 : Option V) (ws' : List Str), [some (.ref d), some (.int z), some (.ref o), some (.str letters), some (.ref l), v5', some (.str wd), none, none, none] = [some (.ref d), some (.int z), some (.ref o), some (.str letters), some (.ref l), v5, v6, none, none, none] ∧
            (upd H' l (.lst (ws.map V.str ++ [V.str wd]))) o = some (.lst (owns.map V.str)) ∧ (upd H' l (.lst (ws.map V.str ++ [V.str wd]))) l = some (.lst (ws'.map V.str)) ∧ ws'.length = i + 1 ∧ ws'.Nodup ∧ (∀ x ∈ ws', nameOk x = true) ∧ Dw ns d g c (b + 20 * (i + 1)) (upd H' l (.lst (ws.map V.str ++ [V.str wd]))) ∧ Kp d g H (upd H' l (.lst (ws.map V.str ++ [V.str wd]))) := by
        intro wd H' v5' h1 h2 h3 h4 h5 h6
        refine ⟨_, _, ws ++ [wd], rfl, by rw [upd_ne hol.symm]; exact h3, by rw [upd_same, List.map_append]; rfl, by rw [List.length_append, wl]; rfl, ?_, fun x hx => ?_, (h5.put h4 hnl hgl hcl).mono (by omega), fun a u n1 n2 ha => ?_⟩
        · refine List.nodup_append.mpr ⟨wn, by simp, fun a ha a' ha' => ?_⟩
          rw [List.mem_singleton] at ha'
          subst ha'
          exact fun e => h2 (e ▸ ha)
        · rcases List.mem_append.mp hx with hx | hx
          · exact wok x hx
          · rw [List.mem_singleton.mp hx]
            exact h1
        · rw [upd_ne (ne_of_none ha hlH)]
          exact h6 a u n1 n2 ha
      refine ⟨_, _, rfl, rfl, _, rfl, ?_⟩
      refine ite2 (fun e => ?A) (fun e => ?B)
      case' A =>
        refine ⟨⟨_, rfl⟩, _, rfl, by show 4 ≤ sizeLine; decide, fun q hq => ?_⟩
        have D7 := D6.new (o := .lst [.int 1, .int 1, .int 2, .int 8]) hq
        refine ⟨d, g, c, _, D7, by omega, .inl ⟨q, _, rfl, upd_same, D6.nd hq, D6.ng hq, by show 0 < 4; decide, by show 4 ≤ 1000000; decide, fun y2 H8 hy2 D8 k8 => ?_⟩⟩
        obtain ⟨j, rfl, j1, j8⟩ := sizes1128 _ hy2
        have l8 := k8 _ _ hnl hgl (new_same (o := .lst [.int 1, .int 1, .int 2, .int 8]) hq _ _ l6)
        have o8 := k8 _ _ hno hgo (new_same (o := .lst [.int 1, .int 1, .int 2, .int 8]) hq _ _ o6)
        have k48 : Kp d g H H8 := (k46.trans (Kp.new hq)).trans k8
        refine ⟨j, rfl, by omega, by omega, fun L hL => ?_⟩
        have nL : L ≠ d := D8.nd hL
        have gL : L ≠ g := D8.ng hL
        have cL : L ≠ c := fun e => by rw [e, D8.cl] at hL; cases hL
        refine lc_range (lo := 0) (n := j.toNat) (fun i' H' => ∃ cs : List Nat, H' L = some (.lst ((cs.map cand.oneS').map V.str)) ∧ cs.length = i' ∧ (∀ x ∈ cs, x ∈ letters.cps.toList) ∧ Dw ns d g c (b + 20 * i + 3 + i') H' ∧ Kp d g H8 H')
          ⟨[], upd_same, rfl, (fun x hx => by cases hx), (D8.new hL).mono (by omega), Kp.new hL⟩ ?_ ?_
        · rintro i' H9 hi' ⟨cs, d9, cl, cok, D9, k9⟩
          refine ⟨rfl, yes_of ?_⟩
          refine ⟨_, rfl, _, rfl, d, g, c, _, D9, by omega, .inr ⟨_, rfl, by decide +kernel, by decide +kernel, fun y3 H10 hy3 D10 k10 => ?_⟩⟩
          have d10 := k10 _ _ nL gL d9
          refine ⟨_, d10, ?_, cs ++ [y3], ?_, by rw [List.length_append, cl]; rfl, fun x hx => ?_, (D10.put d10 nL gL cL).mono (by omega), fun a u n1 n2 ha => ?_⟩
          · rw [List.length_map, List.length_map]
            exact small1000 (by omega)
          · rw [upd_same, List.map_append, List.map_append]
            rfl
          · rcases List.mem_append.mp hx with hx | hx
            · exact cok x hx
            · rw [List.mem_singleton.mp hx]
              exact hy3
          · rw [upd_ne (ne_of_none ha hL)]
            exact k10 _ _ n1 n2 (k9 _ _ n1 n2 ha)
        rintro H9 ⟨cs, d9, cl, cok, D9, k9⟩
        have jw : nameOk (Txt.join Str.empty (cs.map cand.oneS')) = true := by
          have e9 := join_signs cs
          refine nameOk_of ?_ ?_ (fun x hx => ?_)
          · rw [← len_cps, e9]; omega
          · rw [← len_cps, e9]; omega
          · rw [e9] at hx
            exact cok x hx
        refine ⟨_, L, cs.map cand.oneS', rfl, rfl, .inl (SqL.of d9), ?_, ?_⟩
        · have e0 : ("" : Str).length = 0 := by decide +kernel
          have hs := sum_le (fun y : Str => y.length) (b := 1) (cs.map cand.oneS') fun x hx => by
            obtain ⟨x', _, rfl⟩ := List.mem_map.mp hx
            exact Nat.le_refl 1
          rw [List.length_map] at hs ⊢
          rw [e0]
          omega
        rw [e_eq]
        obtain ⟨wd, hwd, hwk⟩ : ∃ wd, wd = Txt.join Str.empty (cs.map cand.oneS') ∧ nameOk wd = true := ⟨_, rfl, jw⟩
        rw [← hwd]
        have lT := k9 _ _ hnl hgl l8
        have oT := k9 _ _ hno hgo o8
        have kT : Kp d g H H9 := k48.trans k9
        have DT : Dw ns d g c (b + 20 * i + 15) H9 := D9.mono (by omega)
        generalize H9 = HT at lT oT kT DT ⊢
      case' B =>
        obtain ⟨wd, hwd, hwk⟩ : ∃ wd, wd = w0 ∧ nameOk wd = true := ⟨_, rfl, hw0⟩
        rw [← hwd]
        have lT := l6
        have oT := o6
        have kT := k46
        have DT : Dw ns d g c (b + 20 * i + 15) H6 := D6.mono (by omega)
        generalize H6 = HT at lT oT kT DT ⊢
      all_goals
        refine ⟨_, rfl, _, rfl, l, _, rfl, .inl (SqL.of lT), rfl, strs_flat ws, _, rfl, ?_⟩
        rw [inV_strs]
        refine ite2 (fun e => ?_) (fun e => ?_)
        · have hwl := (name_len hwk).2
          refine ⟨_, rfl, letters, rfl, fun D1 hD1 => ?_⟩
          refine lc_it walk_str (fun i' H' => H' D1 = some (.lst (((letters.cps.toList.take i').map (cand wd)).map V.str)) ∧ Ext HT H') ⟨upd_same, Ext.new hD1⟩ (fun _ _ _ _ => trivial) ?_ ?_
          · rintro i' y H1' H2' hi' ⟨hd', he'⟩ ⟨rfl, c', hc', rfl⟩
            have hc2 := cps_at hc'
            refine ⟨rfl, yes_of ?_⟩
            have h6 := cut6 wd
            refine ⟨_, rfl, 6, rfl, wd, rfl, by rw [sizeLine_eq]; omega, _, _, rfl, rfl, by rw [z_len, sizeLine_eq]; omega, _, rfl, _, _, rfl, rfl, by rw [strlen, z_len, sizeLine_eq]; show _ + 1 + 1 ≤ _; omega, _, hd', ?_, ?_, fun a u ha => ?_⟩
            · have : letters.cps.toList.length = 26 := by decide +kernel
              rw [List.length_map, List.length_map, List.length_take]
              exact small1000 (by omega)
            · rw [upd_same, take_succ_map (cand wd) hc2, List.map_append]
              rfl
            · rw [upd_ne (ne_of_none ha hD1)]
              exact he' _ _ ha
          rintro H1' ⟨hd', he'⟩
          rw [← cps_len, List.take_length] at hd'
          have hd' : H1' D1 = some (.lst ((cands wd).map V.str)) := hd'
          have oT1 := he' _ _ oT
          have lT1 := he' _ _ lT
          refine ⟨D1, rfl, ⟨_, SqL.of hd'⟩, fun D2 hD2 => ?_⟩
          refine lc_it walk_list (fun i' H' => H' D2 = some (.lst ((((cands wd).take i').filter (fun y => !decide (y ∈ ws))).map V.str)) ∧ Ext H1' H') ⟨upd_same, Ext.new hD2⟩ (fun i H' _ ⟨_, e⟩ => SqL.of (e _ _ hd')) ?_ ?_
          · rintro i' y H2' H3' hi' ⟨d2, k2⟩ ⟨rfl, hy⟩
            rw [List.getElem?_map] at hy
            obtain ⟨x, hx, rfl⟩ := Option.map_eq_some_iff.mp hy
            have ef := filter_take (fun y => !decide (y ∈ ws)) hx
            refine ⟨rfl, _, rfl, _, rfl, l, _, rfl, .inl (SqL.of (k2 _ _ lT1)), rfl, strs_flat ws, ?_⟩
            show ∃ b, V.bl (!inV (.str x) (ws.map V.str)) = V.bl b ∧ _
            rw [inV_strs]
            refine ⟨_, rfl, ite2 (fun e => ?_) (fun e => ?_)⟩
            · rw [if_pos e] at ef
              refine ⟨_, rfl, _, d2, ?_, ?_, fun a u ha => ?_⟩
              · have h1 := List.length_filter_le (fun y => !decide (y ∈ ws)) ((cands wd).take i')
                rw [List.length_take, cands_len] at h1
                rw [List.length_map]
                exact small1000 (by omega)
              · rw [upd_same, ef, List.map_append]
                rfl
              · rw [upd_ne (ne_of_none ha hD2)]
                exact k2 _ _ ha
            · rw [if_neg e, List.append_nil] at ef
              exact ⟨by rw [ef]; exact d2, k2⟩
          rintro H2' ⟨d2, k2⟩
          rw [List.length_map, List.take_length] at d2
          obtain ⟨w1, rst, e1, m1, n1⟩ := fresh_cand wd (fs := ws) (by omega)
          rw [e1] at d2
          have w1ok : nameOk w1 = true := by
            obtain ⟨c', hc', rfl⟩ := List.mem_map.mp m1
            exact cand_ok (lo_of hwk) hc'
          refine ⟨D2, _, _, V.str w1, rfl, rfl, SqL.of d2, (show atI (V.str w1 :: rst.map V.str) ((0 : Nat) : Int) = some (V.str w1) from atI_nat rfl), ?_⟩
          have lT2 := k2 _ _ lT1
          refine ⟨_, rfl, .inl ⟨rfl, _, SqL.of lT2⟩, _, rfl, l, _, _, rfl, rfl, lT2, by rw [List.length_map]; exact small1000 (by omega), ?_⟩
          exact fin _ _ _ w1ok n1 (k2 _ _ oT1) lT2 ((DT.keep fun a u ha => k2 _ _ (he' _ _ ha)).mono (by omega)) (kT.trans (Kp.of fun a u ha => k2 _ _ (he' _ _ ha)))
        · have e : wd ∉ ws := fun m => e (decide_eq_true m)
          refine ⟨_, rfl, .inl ⟨rfl, _, SqL.of lT⟩, _, rfl, l, _, _, rfl, rfl, lT, by rw [List.length_map]; exact small1000 (by omega), ?_⟩
          exact fin _ _ _ hwk e oT lT (DT.mono (by omega)) kT
    · rintro σ H4 ⟨v5, v6, ws, rfl, o4, l4, wl, wn, wok, D4, k4⟩
      exact ⟨_, rfl, k l ws H4 hlH hnl hgl l4 wl wn wok (D4.mono (by omega)) k4⟩
end
theorem RowsAt.kp {ns : List Int} {d g c : Addr} {b : Nat} {H H' : Hp} {vs : List V} {rs : List FRow} (h : RowsAt H vs rs) (D : Dw ns d g c b H) (k : Kp d g H H') : RowsAt H' vs rs := by
  obtain ⟨⟨gs, l, t, hd, hg, _, _⟩, _⟩ := D
  exact ⟨h.1, fun i r hr => by
    obtain ⟨p, a, e⟩ := h.2 i r hr
    exact ⟨p, a, k _ _ (ne_of e hd (by intro z; cases z)) (ne_of e hg (by intro z; cases z)) e⟩⟩
theorem RowsAt.snoc {H : Hp} {vs : List V} {rs : List FRow} {p : Addr} {r : FRow} (h : RowsAt H vs rs) (hp : H p = some (.tup [.str r.1, parV r.2])) : RowsAt H (vs ++ [V.ref p]) (rs ++ [r]) := by
  refine ⟨by rw [List.length_append, List.length_append, h.1]; rfl, fun i x hx => ?_⟩
  by_cases e : i < rs.length
  · rw [List.getElem?_append_left e] at hx
    rw [List.getElem?_append_left (by rw [h.1]; exact e)]
    exact h.2 i x hx
  · rw [List.getElem?_append_right (by omega)] at hx
    rw [List.getElem?_append_right (by rw [h.1]; omega), h.1]
    have z : i - rs.length = 0 := by
      have := (List.getElem?_eq_some_iff.mp hx).1
      simpa using this
    rw [z] at hx ⊢
    cases hx
    exact ⟨p, rfl, hp⟩
section
variable {P : Program} {w : World} {K : PySem.W.Frag} {mg : Str → Option Value} {base : Heap}
/-! ### _law_forest -/
def spForest (ns : List Int) : Sp := fun vs H Q _ => ∃ (d g c : Addr) (b : Nat) (m : Int), vs = [.ref d, .int m] ∧ Dw ns d g c b H ∧ b ≤ 800000000 ∧ 1 ≤ m ∧ m ≤ 8 ∧
  ∀ (l : Addr) (xs : List V) (rs : List FRow) (H' : Hp), H l = none → l ≠ d → l ≠ g → H' l = some (.lst xs) → RowsAt H' xs rs → Good rs → Dw ns d g c (b + 300) H' → Kp d g H H' → Q (.ref l) H'
abbrev nForest : List Str := ["_law_state", "_law_most", "_law_rows", "_law_name", "_law_parents", "_law_row"]
theorem scForest : FnScope nForest ["_law_state", "_law_most"] (defScope sForest) := ⟨rfl, rfl, rfl, by decide +kernel, rfl, by decide +kernel, by decide +kernel⟩
theorem ok_forest {f fT fP fW : Addr} {fd fdT fdP fdW : FuncData} (ns : List Int) (F : Fun K "_law_forest" "_law_forest" sForest f fd) (R : Draw P w K mg base ns fT fP fdT fdP)
    (GW : FnOk P w K mg base CX0 4 fW fdW ["_law_state", "_law_size"] (spWords ns)) (bW : Binds K fdW ["_law_state", "_law_size"] []) (kW : PySem.W.keepIn K (.ref fW) = true) (mW : mg "_law_words" = some (.ref fW)) :
    FnOk P w K mg base CX0 5 f fd ["_law_state", "_law_most"] (spForest ns) := by
  refine F.ok scForest (fun vs H Q E h => ?_) (fun cdv A outer s H vs Q E hr h => ?_)
  · obtain ⟨d, g, c, b, m, rfl, _⟩ := h
    rfl
  · obtain ⟨d, g, c, b, m, rfl, D, hb, m1, m8, k⟩ := h
    have hu := hu_of hr
    have nd := scForest.nd
    have hr2 : Room 2 (A.deeper (envOfC "_law_forest" (defScope sForest) s.heap.objs.size f cdv)) := hr.mono (by decide)
    have hr3 : Room 3 (A.deeper (envOfC "_law_forest" (defScope sForest) s.heap.objs.size f cdv)) := hr.mono (by decide)
    refine ⟨_, pss_cons (ps_set (i := 2) nd rfl (.inl rfl) (pe_lst pa_nil))
      (pss_cons (ps_for PassesOwn.never rfl (pi_list (pe_call GW hr rfl mW kW bW .nil pass0 (pa_cons (pv 0) (pa_cons (pe_op op_add pe_int (pe_call R.GT hr2 rfl R.mT R.kT R.bT .nil pass0 (pa_cons (pv 0) (pa_cons (pv 1) pa_nil)))) pa_nil)))) (pg_name (i := 3) nd rfl (.inl rfl))
        (pss_cons (ps_set (i := 4) nd rfl (.inl rfl) (pe_op op_cat (pe_lst (pa_cons pe_non pa_nil)) (pe_lc (own := [("_law_row", 5)]) (g := gName 5) (tt := tYes) rfl nd (pi_list (pv 2)) (blkOk_by (N := nForest) (sc := defScope sForest) (by decide +kernel))
            (fun _ _ _ _ _ => pg_name (i := 5) nd rfl (.inl rfl)) (fun _ _ _ _ _ => pts_nil) (fun _ _ _ _ _ => pe_ix (r := rIxT K) ix_tup (pv 5) pe_int (fun _ _ => rfl)))))
        (pss_one (ps_expr (pe_bm PySem.F.plainAttrs_list PySem.F.slot_list_append PySem.F.type_list_append mt_append (pv 2) (pa_cons (pe_tup (pa_cons (pv 3) (pa_cons (pe_call R.GP hr3 rfl R.mP R.kP R.bP .nil pass0 (pa_cons (pv 0) (pa_cons (pv 4) pa_nil))) pa_nil))) pa_nil))))))
      (pss_one (ps_ret (pv 2)))), ?_⟩
    refine ⟨Nat.zero_le _, fun l hl => ?_⟩
    have Dl := D.new (o := .lst []) hl
    have hnl : l ≠ d := D.nd hl
    have hgl : l ≠ g := D.ng hl
    have hcl : l ≠ c := fun e => by rw [e, D.cl] at hl; cases hl
    have kl : Kp d g H (upd H l (.lst [])) := Kp.new hl
    have hl1 : (upd H l (.lst [])) l = some (.lst []) := upd_same
    show tSeq _ _ _ _ (upd H l (.lst []))
    generalize upd H l (.lst []) = H1 at Dl kl hl1 ⊢
    refine ⟨_, rfl, _, rfl, _, rfl, d, g, c, _, m, rfl, Dl, by omega, by omega, by omega, fun r H2 r0 r1 D2 k2 => ?_⟩
    refine ⟨1, r, rfl, rfl, d, g, c, _, 1 + r, rfl, D2, by omega, by omega, by omega, fun lw ws H3 lw0 lwd lwg hlw wl wn wok D3 k3 => ?_⟩
    have l3 := k3 _ _ hnl hgl (k2 _ _ hnl hgl hl1)
    have k03 : Kp d g H H3 := (kl.trans k2).trans k3
    refine ⟨lw, rfl, ⟨_, SqL.of hlw⟩, for_it walk_list (fun i σ H' => ∃ (v3 v4 : Option V) (xs : List V) (rs : List FRow), σ = [some (.ref d), some (.int m), some (.ref l), v3, v4, none] ∧ H' l = some (.lst xs) ∧ H' lw = some (.lst (ws.map V.str)) ∧
        RowsAt H' xs rs ∧ fNames rs = ws.take i ∧ GoodF [] rs ∧ Dw ns d g c (b + 1 + 200 + 2 * i) H' ∧ Kp d g H H')
      ⟨none, none, [], [], rfl, l3, hlw, ⟨rfl, fun i r h => by simp at h⟩, rfl, trivial, D3, k03⟩ (fun i σ H' _ ⟨_, _, _, _, _, _, e, _⟩ => SqL.of e) ?_ ?_⟩
    · rintro i y σ H4 H5 hi ⟨v3, v4, xs, rs, rfl, l4, lw4, R4, fn, gf, D4, k4⟩ ⟨rfl, hy⟩
      rw [List.length_map] at hi
      rw [List.getElem?_map, List.getElem?_eq_getElem hi] at hy
      cases hy
      have hrl : rs.length = i := by
        have := congrArg List.length fn
        rw [fNames, List.length_map, List.length_take] at this
        omega
      have hi8 : i ≤ 8 := by omega
      refine ⟨by show 1 ≤ sizeLine; decide, fun a ha => ?_⟩
      have Da := D4.new (o := .lst [.non]) ha
      have nda : a ≠ d := D4.nd ha
      have nga : a ≠ g := D4.ng ha
      have ka : Ext H5 (upd H5 a (.lst [.non])) := Ext.new ha
      have ha1 : (upd H5 a (.lst [.non])) a = some (.lst [.non]) := upd_same
      have l5 := ka _ _ l4
      have R5 := R4.ext ka
      refine ⟨_, rfl, l, rfl, ⟨_, SqL.of l5⟩, fun D' hD' => ?_⟩
      refine lc_it walk_list (fun i' H' => H' D' = some (.lst (((fNames rs).take i').map V.str)) ∧ Ext (upd H5 a (.lst [.non])) H') ⟨upd_same, Ext.new hD'⟩ (fun i' H' _ ⟨_, e⟩ => SqL.of (e _ _ l5)) ?_ ?_
      · rintro i' y H6 H7 hi' ⟨d6, k6⟩ ⟨rfl, hy⟩
        have hir : i' < rs.length := by have := R4.1; omega
        obtain ⟨p, h1, h2⟩ := R5.2 i' _ (List.getElem?_eq_getElem hir)
        rw [h1] at hy
        cases hy
        refine ⟨rfl, yes_of ?_⟩
        refine ⟨_, rfl, p, _, _, _, rfl, rfl, SqT.of (k6 _ _ h2), (show atI [V.str rs[i'].1, parV rs[i'].2] ((0 : Nat) : Int) = some (V.str rs[i'].1) from atI_nat rfl), _, d6, ?_, ?_, fun b' o hb' => ?_⟩
        · rw [List.length_map, List.length_take, fNames, List.length_map]
          exact small1000 (by omega)
        · rw [upd_same, List.take_add_one, List.map_append]
          have : (fNames rs)[i']? = some rs[i'].1 := by rw [fNames, List.getElem?_map, List.getElem?_eq_getElem hir]; rfl
          rw [this]
          rfl
        · rw [upd_ne (ne_of_none hb' hD')]
          exact k6 _ _ hb'
      rintro H6 ⟨d6, k6⟩
      have e0 : (fNames rs).take xs.length = fNames rs := by
        rw [R4.1]
        exact List.take_of_length_le (by rw [fNames, List.length_map]; exact Nat.le_refl _)
      rw [e0] at d6
      refine ⟨a, D', _, _, rfl, rfl, k6 _ _ ha1, d6, ?_, fun q hq => ?_⟩
      · rw [List.length_map, fNames, List.length_map, sizeLine_eq]
        show 1 + _ ≤ _
        omega
      have D6 : Dw ns d g c (b + 1 + 200 + 2 * i) H6 := Da.keep k6
      have k56 : Ext H5 H6 := ka.trans k6
      have Dq := D6.new (o := .lst ([.non] ++ (fNames rs).map V.str)) hq
      have hq1 : (upd H6 q (.lst ([.non] ++ (fNames rs).map V.str))) q = some (.lst ([.non] ++ (fNames rs).map V.str)) := upd_same
      have kq : Ext H5 (upd H6 q (.lst ([.non] ++ (fNames rs).map V.str))) := k56.trans (Ext.new hq)
      have ndq : q ≠ d := D6.nd hq
      have ngq : q ≠ g := D6.ng hq
      show tSeq _ _ _ _ (upd H6 q (.lst ([.non] ++ (fNames rs).map V.str)))
      generalize upd H6 q (.lst ([.non] ++ (fNames rs).map V.str)) = H7 at Dq hq1 kq ⊢
      refine ⟨_, rfl, .inl ⟨rfl, _, SqL.of (kq _ _ l4)⟩, _, rfl, _, rfl, _, rfl, d, g, c, _, Dq, by omega, .inl ⟨q, _, rfl, hq1, ndq, ngq, ?_, ?_, fun x H8 hx D8 k8 => ?_⟩⟩
      · show 0 < _ + 1
        omega
      · rw [List.length_append, List.length_map, fNames, List.length_map]
        show 1 + _ ≤ _
        omega
      obtain ⟨pq, rfl, hpq⟩ : ∃ pq : Option Str, x = parV pq ∧ ∀ mm, pq = some mm → mm ∈ fNames rs := by
        rcases List.mem_append.mp hx with hx | hx
        · rw [List.mem_singleton.mp hx]
          exact ⟨none, rfl, fun mm e => by cases e⟩
        · obtain ⟨mm, hm, rfl⟩ := List.mem_map.mp hx
          exact ⟨some mm, rfl, fun m' e => by cases e; exact hm⟩
      refine ⟨by show 2 ≤ sizeLine; decide, fun t ht => ?_⟩
      have R8 : RowsAt H8 xs rs := (R4.ext kq).kp Dq k8
      have R9 := RowsAt.snoc (r := (ws[i], pq)) (R8.ext (Ext.new (o := .tup [.str ws[i], parV pq]) ht)) upd_same
      have l8 := k8 _ _ hnl hgl (kq _ _ l4)
      have l9 := new_same (o := .tup [.str ws[i], parV pq]) ht _ _ l8
      have lw8 := k8 _ _ lwd lwg (kq _ _ lw4)
      have lw9 := new_same (o := .tup [.str ws[i], parV pq]) ht _ _ lw8
      have D9 := D8.new (o := .tup [.str ws[i], parV pq]) ht
      have nlw : lw ≠ l := fun e => by rw [e] at lw0; rw [k2 _ _ hnl hgl hl1] at lw0; cases lw0
      have k9 : Kp d g H (upd H8 t (.tup [.str ws[i], parV pq])) := ((k4.trans (Kp.of kq)).trans k8).trans (Kp.new ht)
      generalize upd H8 t (.tup [.str ws[i], parV pq]) = H9 at R9 l9 lw9 D9 k9 ⊢
      have xl : xs.length = rs.length := R4.1
      refine ⟨l, _, _, rfl, rfl, l9, small1000 (by omega), ?_⟩
      refine ⟨_, _, xs ++ [.ref t], rs ++ [(ws[i], pq)], rfl, upd_same, by rw [upd_ne nlw]; exact lw9, ⟨R9.1, fun j r' hj => ?_⟩, ?_, good_snoc gf ?_, (D9.put l9 hnl hgl hcl).mono (by omega), fun a' o n1 n2 ha' => ?_⟩
      · obtain ⟨p, b1, b2⟩ := R9.2 j r' hj
        refine ⟨p, b1, ?_⟩
        rw [upd_ne (ne_of b2 l9 (by intro z; cases z))]
        exact b2
      · show fNames (rs ++ [(ws[i], pq)]) = _
        rw [fNames, List.map_append, List.take_add_one, List.getElem?_eq_getElem hi]
        show fNames rs ++ [ws[i]] = _
        rw [fn]
        rfl
      · rw [List.nil_append, fn]
        refine ⟨wok _ (List.getElem_mem hi), fun hm => ?_, fun mm e => by rw [← fn]; exact hpq mm e⟩
        have hm : ws[i] ∈ ws.take i := hm
        obtain ⟨j, hj⟩ := List.mem_iff_getElem?.mp hm
        have hji : j < i := by
          have := (List.getElem?_eq_some_iff.mp hj).1
          rw [List.length_take] at this
          omega
        rw [List.getElem?_take_of_lt hji] at hj
        have hjl : j < ws.length := by omega
        rw [List.getElem?_eq_getElem hjl] at hj
        exact (List.pairwise_iff_getElem.mp wn) j i hjl hi hji (Option.some.inj hj)
      · rw [upd_ne (ne_of_none ha' hl)]
        exact k9 _ _ n1 n2 ha'
    · rintro σ H4 ⟨v3, v4, xs, rs, rfl, l4, lw4, R4, fn, gf, D4, k4⟩
      refine ⟨_, rfl, ?_⟩
      have hrl : rs.length = ws.length := by
        have := congrArg List.length fn
        rw [fNames, List.length_map, List.length_take, List.length_map] at this
        omega
      rw [List.length_map] at D4
      exact k l xs rs H4 hl hnl hgl l4 R4 ⟨by omega, by omega, gf⟩ (D4.mono (by omega)) k4
end
end Lw

set_option Elab.async false
set_option linter.all false
set_option maxRecDepth 100000
set_option maxHeartbeats 4000000
/-! readings that ask more than they need; a list or a tuple walked; dicts of numbers by names -/
namespace Gu
open L2 hiding Ext
open PySem PySem.Spec PyProof.Rows Gn Gk
theorem wT {X : Cx} {e : Expr} {t t' : TT} (h : PT X e t) (w : ∀ σ H k, t' σ H k → t σ H k) : PT X e t' :=
  ⟨fun pins s σ H Q I z => h.run pins s σ H Q I (w _ _ _ z)⟩
theorem wE {X : Cx} {e : Expr} {t t' : TE} (h : PE X e t) (w : ∀ σ H k, t' σ H k → t σ H k) : PE X e t' :=
  ⟨fun pins s σ H Q I z => h.run pins s σ H Q I (w _ _ _ z)⟩
theorem wS {X : Cx} {e : Stmt} {t t' : TS} (h : PS X e t) (w : ∀ D σ H, t' D σ H → t D σ H) : PS X e t' :=
  ⟨fun pins s σ H D I z => h.run pins s σ H D I (w _ _ _ z)⟩
theorem wI {X : Cx} {tg e : Expr} {t t' : TI} (h : PI X tg e t) (w : ∀ σ H R, t' σ H R → t σ H R) : PI X tg e t' :=
  ⟨fun pins s σ H R I z => h.run pins s σ H R I (w _ _ _ z)⟩
theorem iOr {X : Cx} {tg e : Expr} {t t' : TI} (h : PI X tg e t) (h' : PI X tg e t') : PI X tg e (fun σ H R => t σ H R ∨ t' σ H R) :=
  ⟨fun pins s σ H R I z => z.elim (h.run pins s σ H R I) (h'.run pins s σ H R I)⟩
/-- a list or a tuple -/
def ClAt (H : Hp) (a : Addr) (xs : List V) : Prop := H a = some (.lst xs) ∨ H a = some (.tup xs)
theorem ClAt.ext {H H' : Hp} {a : Addr} {xs : List V} (h : ClAt H a xs) (k : Ext H H') : ClAt H' a xs := h.elim (fun e => .inl (k _ _ e)) (fun e => .inr (k _ _ e))
theorem ClAt.sq {K : PySem.W.Frag} {H : Hp} {a : Addr} {xs : List V} (h : ClAt H a xs) : SqL K H a xs ∨ SqT K H a xs := h.elim (fun e => .inl (SqL.of e)) (fun e => .inr (SqT.of e))
theorem wW {J : It} {n : Nat} {G G' : Hp → Prop} {Y : Nat → Hp → V → Hp → Prop} (h : Walk J n G Y) (k : ∀ H, G' H → G H) : Walk J n G' Y :=
  ⟨fun i H hi g => h.goes i H hi (k H g), fun H g => h.stops H (k H g), fun i H x H' hi g y => h.yields i H x H' hi (k H g) y⟩
/-- what a walk over it gives, wherever it stands as it did -/
def iSeqV (i : Nat) : TI := fun σ H R => ∃ (a : Addr) (xs : List V), σ[i]? = some (some (.ref a)) ∧ ClAt H a xs ∧ ∀ J, Walk J xs.length (fun H' => H' a = H a) (YAt xs) → R J H
theorem pi_seqV {X : Cx} {tg e : Expr} {i : Nat} (h : PE X e (tVar i)) : PI X tg e (iSeqV i) := by
  refine wI (iOr (pi_list h) (pi_tup h)) fun σ H R ⟨a, xs, hi, hc, k⟩ => ?_
  rcases hc with hc | hc
  · exact .inl ⟨_, hi, a, rfl, ⟨_, SqL.of hc⟩, k _ (wW walk_list fun H' e => SqL.of (e.trans hc))⟩
  · exact .inr ⟨_, hi, a, rfl, ⟨_, SqT.of hc⟩, k _ (wW walk_tup fun H' e => SqT.of (e.trans hc))⟩
/-- a dict of numbers, by the names in their order -/
def dN (ns : List Str) (t : Str → Int) : List (Key × V) := ns.map fun n => ((Sum.inr n : Key), V.int (t n))
def at_ (t : Str → Int) (n : Str) (z : Int) : Str → Int := fun m => if m = n then z else t m
theorem at_same {t : Str → Int} {n : Str} {z : Int} : at_ t n z n = z := if_pos rfl
theorem at_ne {t : Str → Int} {n m : Str} {z : Int} (h : m ≠ n) : at_ t n z m = t m := if_neg h
theorem dN_get {t : Str → Int} {n : Str} : ∀ {ns : List Str}, n ∈ ns → valV (dN ns t) (Sum.inr n : Key) = some (.int (t n))
  | [], h => by cases h
  | m :: r, h => by
    show valV (((Sum.inr m : Key), V.int (t m)) :: dN r t) _ = _
    by_cases e : m = n
    · subst e; exact valV_pos rfl
    · rw [valV_neg (fun z => e (Sum.inr.inj z))]
      exact dN_get ((List.mem_cons.mp h).resolve_left fun z => e z.symm)
theorem dN_put {t : Str → Int} {n : Str} {z : Int} {ns : List Str} (h : n ∈ ns) : putK (dN ns t) (Sum.inr n : Key) (.int z) = dN ns (at_ t n z) := by
  have e : ((dN ns t).any fun kv => decide (kv.1 = (Sum.inr n : Key))) = true := by
    unfold dN
    rw [List.any_map, List.any_eq_true]
    exact ⟨n, h, by simp⟩
  unfold putK
  rw [if_pos e]
  unfold dN
  rw [List.map_map]
  refine List.map_congr_left fun m hm => ?_
  show (if (Sum.inr m : Key) = Sum.inr n then ((Sum.inr m : Key), V.int z) else ((Sum.inr m : Key), V.int (t m))) = _
  by_cases em : m = n
  · subst em
    rw [if_pos rfl, at_same]
  · rw [if_neg (fun z => em (Sum.inr.inj z)), at_ne em]
theorem dN_len {ns : List Str} {t : Str → Int} : (dN ns t).length = ns.length := by unfold dN; rw [List.length_map]
/-- a dict of numbers, by some names -/
def dB (bs : List (Str × Int)) : List (Key × V) := bs.map fun p => ((Sum.inr p.1 : Key), V.int p.2)
theorem dB_dN (ns : List Str) (t : Str → Int) : dB (ns.map fun n => (n, t n)) = dN ns t := by unfold dB dN; rw [List.map_map]; rfl
theorem dB_get : ∀ {bs : List (Str × Int)} {p : Str × Int}, (bs.map (·.1)).Nodup → p ∈ bs → valV (dB bs) (Sum.inr p.1 : Key) = some (.int p.2)
  | [], _, _, h => by cases h
  | q :: r, p, hn, h => by
    show valV (((Sum.inr q.1 : Key), V.int q.2) :: dB r) _ = _
    obtain ⟨n1, n2⟩ := List.nodup_cons.mp (show (q.1 :: r.map (·.1)).Nodup from hn)
    rcases List.mem_cons.mp h with rfl | h
    · exact valV_pos rfl
    · have ne : ¬ q.1 = p.1 := fun e => n1 (by rw [e]; exact List.mem_map.mpr ⟨p, h, rfl⟩)
      rw [valV_neg (fun z => ne (Sum.inr.inj z))]
      exact dB_get n2 h
theorem dB_none {n : Str} : ∀ {bs : List (Str × Int)}, n ∉ bs.map (·.1) → valV (dB bs) (Sum.inr n : Key) = none
  | [], _ => rfl
  | q :: r, h => by
    show valV (((Sum.inr q.1 : Key), V.int q.2) :: dB r) _ = _
    have ne : ¬ q.1 = n := fun e => h (by rw [← e]; exact List.mem_cons_self ..)
    rw [valV_neg (fun z => ne (Sum.inr.inj z))]
    exact dB_none fun m => h (List.mem_cons_of_mem _ m)
/-- pairs of a name and a number, as tuples in the heap -/
def CsAt (H : Hp) (vs : List V) (cs : List (Str × Int)) : Prop := vs.length = cs.length ∧ ∀ (i : Nat) (c : Str × Int), cs[i]? = some c → ∃ p, vs[i]? = some (V.ref p) ∧ H p = some (.tup [.str c.1, .int c.2])
theorem CsAt.ext {H H' : Hp} {vs : List V} {cs : List (Str × Int)} (h : CsAt H vs cs) (k : Ext H H') : CsAt H' vs cs :=
  ⟨h.1, fun i c hc => by obtain ⟨p, a, b⟩ := h.2 i c hc; exact ⟨p, a, k _ _ b⟩⟩
theorem CsAt.get {H : Hp} {vs : List V} {cs : List (Str × Int)} (h : CsAt H vs cs) {i : Nat} {x : V} (hx : vs[i]? = some x) : ∃ (c : Str × Int) (p : Addr), cs[i]? = some c ∧ x = .ref p ∧ H p = some (.tup [.str c.1, .int c.2]) := by
  have hi : i < cs.length := by rw [← h.1]; exact (List.getElem?_eq_some_iff.mp hx).1
  obtain ⟨p, a, b⟩ := h.2 i _ (List.getElem?_eq_getElem hi)
  rw [hx] at a
  cases a
  exact ⟨_, p, List.getElem?_eq_getElem hi, rfl, b⟩
theorem CsAt.nil {H : Hp} : CsAt H [] [] := ⟨rfl, fun i c h => by cases h⟩
theorem CsAt.snoc {H : Hp} {vs : List V} {cs : List (Str × Int)} {p : Addr} {c : Str × Int} (h : CsAt H vs cs) (hp : H p = some (.tup [.str c.1, .int c.2])) : CsAt H (vs ++ [V.ref p]) (cs ++ [c]) := by
  refine ⟨by rw [List.length_append, List.length_append, h.1]; rfl, fun i c' hc => ?_⟩
  rcases Nat.lt_or_ge i cs.length with hi | hi
  · rw [List.getElem?_append_left hi] at hc
    rw [List.getElem?_append_left (by rw [h.1]; exact hi)]
    exact h.2 i c' hc
  · rw [List.getElem?_append_right hi] at hc
    rw [List.getElem?_append_right (by rw [h.1]; exact hi), h.1]
    cases e : i - cs.length with
    | zero => rw [e] at hc; cases hc; exact ⟨p, rfl, hp⟩
    | succ k => rw [e] at hc; cases hc
theorem CsAt.kp {ns : List Int} {d g c : Addr} {b : Nat} {H H' : Hp} {vs : List V} {cs : List (Str × Int)} (h : CsAt H vs cs) (D : Dw ns d g c b H) (k : Kp d g H H') : CsAt H' vs cs := by
  obtain ⟨⟨gs, l, t, hd, hg, _, _⟩, _⟩ := D
  exact ⟨h.1, fun i r hr => by
    obtain ⟨p, a, e⟩ := h.2 i r hr
    exact ⟨p, a, k _ _ (ne_of e hd (by intro z; cases z)) (ne_of e hg (by intro z; cases z)) e⟩⟩
/-- a dict that is walked is locked meanwhile -/
theorem lock_ext {H H' : Hp} {d : Addr} {u : HO} {od : Obj} (hd : H d = some u) (k : Ext (upd H d (.frz od u)) H') : Ext H (upd H' d u) := fun a o e => by
  by_cases n : a = d
  · subst n
    rw [upd_same, ← hd, e]
  · rw [upd_ne n]
    exact k _ _ (by rw [upd_ne n]; exact e)
theorem lock_in {H : Hp} {d a : Addr} {u o : HO} {od : Obj} (n : a ≠ d) (e : H a = some o) : upd H d (.frz od u) a = some o := by rw [upd_ne n]; exact e
theorem keys_none : ∀ {kvs : List (Key × V)} {k : Key}, k ∉ kvs.map (·.1) → valV kvs k = none
  | [], _, _ => rfl
  | p :: r, k, h => by
    have h1 : ¬ p.1 = k := fun e => h (by rw [← e]; exact List.mem_cons_self ..)
    rw [valV_neg h1]
    exact keys_none fun m => h (List.mem_cons_of_mem _ m)
theorem merge_app : ∀ (more acc : List (Key × V)), ((acc ++ more).map (·.1)).Nodup → mergeK acc more = acc ++ more
  | [], acc, _ => by rw [List.append_nil]; rfl
  | p :: r, acc, h => by
    have hn : p.1 ∉ acc.map (·.1) := by
      intro m
      rw [List.map_append] at h
      exact (List.nodup_append.mp h).2.2 _ m p.1 (List.mem_cons_self ..) rfl
    show mergeK (putK acc p.1 p.2) r = _
    rw [putK_new _ (keys_none hn), merge_app r (acc ++ [(p.1, p.2)]) (by rw [List.append_assoc]; exact h), List.append_assoc]
    rfl
theorem merge_self {kvs : List (Key × V)} (h : (kvs.map (·.1)).Nodup) : mergeK [] kvs = kvs := merge_app kvs [] h
theorem nodup_inr {α : Type} (f : α → Str) : ∀ {l : List α}, (l.map f).Nodup → (l.map fun x => (Sum.inr (f x) : Key)).Nodup
  | [], _ => List.nodup_nil
  | a :: r, h => by
    obtain ⟨h1, h2⟩ := List.nodup_cons.mp (show (f a :: r.map f).Nodup from h)
    refine List.nodup_cons.mpr ⟨fun m => ?_, nodup_inr f h2⟩
    obtain ⟨b, hb, e⟩ := List.mem_map.mp m
    exact h1 (List.mem_map.mpr ⟨b, hb, Sum.inr.inj e⟩)
theorem ix_pos {n : Nat} {r : Int} (h0 : 0 ≤ r) (h1 : r < n) : seqIndex? r n = some r.toNat := (ixN_seq (by unfold ixN; rw [if_pos h0, if_pos h1])).1
end Gu

set_option Elab.async false
set_option linter.all false
set_option maxRecDepth 100000
set_option maxHeartbeats 4000000
/-! y = {k: v for ..}: a dict comprehension whose name is stored within its frame -/
namespace Gd
open L2 hiding Ext
open PySem PySem.Spec PyProof.Rows Gn Gk Gu
theorem ps_setDc {X : Cx} {i : Nat} {y : Str} {py : Pos} {kx vx tg iter : Expr} {ifs : List Expr} {scope : Scope} {own : List (Str × Nat)} {pos spos : Pos} {wi : TI} {g : TG} {tt : TT} {tk tv : TE}
    (hc : X.calm = true) (hN : X.N.Nodup) (hy : X.N[i]? = some y) (hyl : X.env.scope.names.lookup y = some .local)
    (hsw : swapsWith (.DictComp kx vx [{ target := tg, iter := iter, ifs := ifs, is_async := 0 }] scope pos) (some (.Name y py)) spos.line X.env = pure true)
    (hi : PI X tg iter wi) (ok : BlkOk X.N X.env.scope scope own)
    (hg : ∀ (s : Shared) (H : Hp) (C : Addr) (cl : List (Str × Addr)) (fp : List Addr), PG (X.blk s H scope (compEnvC scope cl C X.env) fp) tg g)
    (ht : ∀ (s : Shared) (H : Hp) (C : Addr) (cl : List (Str × Addr)) (fp : List Addr), PTs (X.blk s H scope (compEnvC scope cl C X.env) fp) ifs tt)
    (hk : ∀ (s : Shared) (H : Hp) (C : Addr) (cl : List (Str × Addr)) (fp : List Addr), PE (X.blk s H scope (compEnvC scope cl C X.env) fp) kx tk)
    (hv : ∀ (s : Shared) (H : Hp) (C : Addr) (cl : List (Str × Addr)) (fp : List Addr), PE (X.blk s H scope (compEnvC scope cl C X.env) fp) vx tv)
    (hf : ∀ (x : Value), foldedSetIterable iter X.env x = pure x := by intro x; rfl) :
    PS X (.Assign [.Name y py] (.DictComp kx vx [{ target := tg, iter := iter, ifs := ifs, is_async := 0 }] scope pos) spos) (tAsg (tDc wi g tt tk tv (own.map (·.2))) (gName i)) := by
  refine ⟨fun pins s σ H D I h => ?_⟩
  rw [exec_Assign_Name_used _ _ _ _ hsw]
  refine wpAny_bind (wpAny_standAt ?_)
  refine wpAny_bind ?_
  rw [arm_evalThenUse_DictComp]
  refine wpAny_bind ?_
  refine dc_core (Q := fun v H' => D.nx (σ.set i (some v)) H') hc hN I hi ok hg ht hk hv hf h fun Da C s' m H' J q hm fp => ?_
  obtain ⟨o, es, ep, ho, hd, r⟩ := id hm
  obtain ⟨f1, f2, f3, f4, f5, f6⟩ := fp
  have J' : L2.Inv X ((C, o) :: pins) σ H' s' := J.pins_of fun p hp => by
    rcases List.mem_cons.mp hp with rfl | hp
    · exact ⟨ho, f1, f2, f3, fun v e => by
        have e : o.data = Data.cell v := e
        rw [hd] at e; cases e⟩
    · exact J.pin p (List.mem_append.mpr (.inr hp))
  have G := (pg_name (X := X) (pos := py) (i := i) hN hy (.inl hyl) (.inr hyl)).run ((C, o) :: pins) s' σ H' (.ref Da) (.ref Da) D.nx J' rfl q
  refine wpAny_mono G (fun x s'' hh => ?_) (fun _ _ h => h)
  obtain ⟨σ2, H2, J2, q2⟩ := hh
  obtain ⟨p1, p2, _⟩ := J2.pin (C, o) (List.mem_append.mpr (.inr (List.mem_cons_self ..)))
  refine ⟨m, ⟨o, es, ep, p1, hd, r⟩, fun h' sb => ?_⟩
  have J3 : L2.Inv X pins σ2 H2 s'' := J2.pins_of fun p hp => J2.pin p (List.mem_append.mpr (.inr (List.mem_cons_of_mem _ hp)))
  refine wpAny_pure (wpAny_pure ⟨σ2, H2, ?_, q2⟩)
  exact J3.turned (it := C) (fun b u n e => by rw [sb.2 b n]; exact e) p2 f2 f4 f5 f6
/-- when the name is stored within -/
theorem sw_trueD {kx vx : Expr} {gs : List Comprehension} {scope : Scope} {pos py : Pos} {y : Str} {l : Nat} {env : Env}
    (hk : env.scope.kind = ScopeKind.function) (hy : env.scope.names.lookup y = some .local) (hl : (py.line == pos.line) = true)
    (ha : (scope.names.any fun x => match x with | (n, k) => n == y && (k == NameKind.local || k == NameKind.cell)) = false) :
    swapsWith (.DictComp kx vx gs scope pos) (some (.Name y py)) l env = pure true := by
  have h := sw_true (elt := kx) (gs := gs) (scope := scope) (pos := pos) (py := py) (y := y) (l := l) (env := env) hk hy hl ha
  exact h
end Gd

set_option Elab.async false
set_option linter.all false
set_option maxRecDepth 100000
set_option maxHeartbeats 4000000
namespace Lw
open L2 hiding Ext
open PySem PySem.Spec PyProof.Rows Gn Gr Gk Go Gt Gf Gu
/-! ### the mathematics: ancestors, totals, entitlements -/
def anc (rs : List FRow) (n : Str) : List Str := ancF rs 8 n
theorem ancF_fuel {rs : List FRow} (g : GoodF [] rs) : ∀ (k k' i : Nat) (r : FRow), rs[i]? = some r → i < k → i < k' → ancF rs k r.1 = ancF rs k' r.1
  | 0, _, _, _, _, h, _ => by omega
  | _ + 1, 0, _, _, _, _, h => by omega
  | k + 1, k' + 1, i, r, hi, h1, h2 => by
    rw [ancF_s, ancF_s, parOf_at (good_nodup g).1 (List.mem_of_getElem? hi)]
    cases e : r.2 with
    | none => rfl
    | some m =>
      obtain ⟨j, r', hj, hr, rfl⟩ := par_idx g hi e
      show r.1 :: ancF rs k r'.1 = r.1 :: ancF rs k' r'.1
      rw [ancF_fuel g k k' j r' hr (by omega) (by omega)]
theorem anc_call {rs : List FRow} (g : Good rs) {n : Str} (h : n ∈ fNames rs) : ∃ (i : Nat) (r : FRow), rs[i]? = some r ∧ r.1 = n ∧ ancF rs (i + 1) r.1 = anc rs n := by
  obtain ⟨r, hr, e⟩ := List.mem_map.mp h
  obtain ⟨i, hi⟩ := List.mem_iff_getElem?.mp hr
  have hl := (List.getElem?_eq_some_iff.mp hi).1
  refine ⟨i, r, hi, e, ?_⟩
  rw [← e]
  exact ancF_fuel g.2.2 _ _ i r hi (by omega) (by have := g.2.1; omega)
theorem ancF_mem {rs : List FRow} (g : GoodF [] rs) : ∀ (k : Nat) (r : FRow), r ∈ rs → ∀ m ∈ ancF rs k r.1, m ∈ fNames rs
  | 0, _, _, m, hm => by cases hm
  | k + 1, r, hr, m, hm => by
    rw [ancF_s, parOf_at (good_nodup g).1 hr] at hm
    rcases List.mem_cons.mp hm with rfl | hm
    · exact List.mem_map.mpr ⟨r, hr, rfl⟩
    · cases e : r.2 with
      | none => rw [e] at hm; cases hm
      | some p =>
        rw [e] at hm
        obtain ⟨i, hi⟩ := List.mem_iff_getElem?.mp hr
        obtain ⟨j, r', _, hr', rfl⟩ := par_idx g hi e
        exact ancF_mem g k r' (List.mem_of_getElem? hr') m hm
theorem anc_mem {rs : List FRow} (g : Good rs) {n m : Str} (h : n ∈ fNames rs) (hm : m ∈ anc rs n) : m ∈ fNames rs := by
  obtain ⟨r, hr, rfl⟩ := List.mem_map.mp h
  exact ancF_mem g.2.2 _ r hr m hm
theorem ancF_len (rs : List FRow) : ∀ (k : Nat) (n : Str), (ancF rs k n).length ≤ k
  | 0, _ => Nat.le_refl _
  | k + 1, n => by
    rw [ancF_s, List.length_cons]
    cases parOf rs n with
    | none => exact Nat.succ_le_succ (Nat.zero_le _)
    | some m => exact Nat.succ_le_succ (ancF_len rs k m)
theorem anc_len (rs : List FRow) (n : Str) : (anc rs n).length ≤ 8 := ancF_len rs 8 n
def addL (t : Str → Int) (ns : List Str) (z : Int) : Str → Int := ns.foldl (fun t n => at_ t n (t n + z)) t
theorem take_snoc {α : Type} {l : List α} {i : Nat} {c : α} (h : l[i]? = some c) : l.take (i + 1) = l.take i ++ [c] := by
  rw [List.take_add_one, h]; rfl
theorem addL_take {t : Str → Int} {ns : List Str} {z : Int} {i : Nat} {n : Str} (h : ns[i]? = some n) : addL t (ns.take (i + 1)) z = at_ (addL t (ns.take i) z) n (addL t (ns.take i) z n + z) := by
  rw [take_snoc h]
  unfold addL
  rw [List.foldl_append]
  rfl
def totF (rs : List FRow) (bs : List (Str × Int)) : Str → Int := bs.foldl (fun t p => addL t (anc rs p.1) p.2) (fun _ => 0)
theorem totF_take {rs : List FRow} {bs : List (Str × Int)} {i : Nat} {p : Str × Int} (h : bs[i]? = some p) : totF rs (bs.take (i + 1)) = addL (totF rs (bs.take i)) (anc rs p.1) p.2 := by
  rw [take_snoc h]
  unfold totF
  rw [List.foldl_append]
  rfl
def minL (c : Int) (l : List Int) : Int := l.foldl min c
theorem minL_mem : ∀ (l : List Int) (c : Int), minL c l = c ∨ minL c l ∈ l
  | [], c => .inl rfl
  | x :: r, c => by
    show minL (min c x) r = c ∨ minL (min c x) r ∈ x :: r
    rcases minL_mem r (min c x) with e | e
    · rw [e]
      by_cases h : c ≤ x
      · exact .inl (Int.min_eq_left h)
      · exact .inr (by rw [Int.min_eq_right (by omega)]; exact List.mem_cons_self ..)
    · exact .inr (List.mem_cons_of_mem _ e)
theorem minL_le : ∀ (l : List Int) (c : Int), minL c l ≤ c ∧ ∀ x ∈ l, minL c l ≤ x
  | [], c => ⟨Int.le_refl _, fun x h => by cases h⟩
  | y :: r, c => by
    obtain ⟨h1, h2⟩ := minL_le r (min c y)
    have a : min c y ≤ c := Int.min_le_left ..
    have b : min c y ≤ y := Int.min_le_right ..
    refine ⟨Int.le_trans h1 a, fun x hx => ?_⟩
    rcases List.mem_cons.mp hx with rfl | hx
    · exact Int.le_trans h1 b
    · exact h2 x hx
theorem minL_is {c m : Int} {l : List Int} (h : m ∈ c :: l) (k : ∀ y ∈ c :: l, m ≤ y) : m = minL c l := by
  obtain ⟨a, b⟩ := minL_le l c
  have h1 : minL c l ≤ m := by
    rcases List.mem_cons.mp h with rfl | h
    · exact a
    · exact b m h
  have h2 : m ≤ minL c l := by
    rcases minL_mem l c with e | e
    · rw [e]; exact k c (List.mem_cons_self ..)
    · exact k _ (List.mem_cons_of_mem _ e)
  omega
def eStep (rs : List FRow) (s : (Str → Int) × List Int) (c : Str × Int) : (Str → Int) × List Int :=
  (addL s.1 (anc rs c.1) (-minL c.2 ((anc rs c.1).map s.1)), s.2 ++ [minL c.2 ((anc rs c.1).map s.1)])
def eRun (rs : List FRow) (t : Str → Int) (cs : List (Str × Int)) : (Str → Int) × List Int := cs.foldl (eStep rs) (t, [])
theorem eRun_take {rs : List FRow} {t : Str → Int} {cs : List (Str × Int)} {i : Nat} {c : Str × Int} (h : cs[i]? = some c) : eRun rs t (cs.take (i + 1)) = eStep rs (eRun rs t (cs.take i)) c := by
  rw [take_snoc h]
  unfold eRun
  rw [List.foldl_append]
  rfl
theorem eRun_len {rs : List FRow} {t : Str → Int} : ∀ {cs : List (Str × Int)} {o : List Int}, (cs.foldl (eStep rs) (t, o)).2.length = o.length + cs.length := by
  intro cs
  induction cs generalizing t with
  | nil => intro o; rfl
  | cons c r ih =>
    intro o
    show (r.foldl (eStep rs) (eStep rs (t, o) c)).2.length = _
    have := ih (t := (eStep rs (t, o) c).1) (o := (eStep rs (t, o) c).2)
    rw [this]
    show (o ++ [_]).length + r.length = _
    rw [List.length_append, List.length_cons, List.length_cons]
    show o.length + (0 + 1) + _ = _
    omega
def entF (rs : List FRow) (bs : List (Str × Int)) (cs : List (Str × Int)) : List Int := (eRun rs (totF rs bs) cs).2
theorem ent_len {rs : List FRow} {bs cs : List (Str × Int)} : (entF rs bs cs).length = cs.length := by
  unfold entF eRun
  rw [eRun_len]
  simp
/-- claims and balances as the document has them -/
def CsOk (rs : List FRow) (cs : List (Str × Int)) : Prop := cs.length ≤ 20 ∧ ∀ c ∈ cs, c.1 ∈ fNames rs ∧ 0 ≤ c.2 ∧ c.2 ≤ 1000000000
def BsN (rs : List FRow) (bs : List (Str × Int)) : Prop := (bs.map (·.1)).Nodup ∧ ∀ p ∈ bs, p.1 ∈ fNames rs
def BsOk (rs : List FRow) (bs : List (Str × Int)) : Prop := BsN rs bs ∧ ∀ p ∈ bs, 0 ≤ p.2 ∧ p.2 ≤ 1000000000000
theorem dN_none {t : Str → Int} {n : Str} {ns : List Str} (h : n ∉ ns) : valV (dN ns t) (Sum.inr n : Key) = none := by
  rw [← dB_dN]
  exact dB_none fun m => h (by rw [List.map_map] at m; simpa using m)
theorem dN_snoc {t : Str → Int} {n : Str} {ns : List Str} : dN (ns ++ [n]) t = dN ns t ++ [((Sum.inr n : Key), V.int (t n))] := by
  unfold dN; rw [List.map_append]; rfl
theorem nodup_at {ns : List Str} (h : ns.Nodup) {i : Nat} {n : Str} (hi : ns[i]? = some n) : n ∉ ns.take i := by
  intro hm
  obtain ⟨j, hj⟩ := List.mem_iff_getElem?.mp hm
  have hl := (List.getElem?_eq_some_iff.mp hj).1
  rw [List.length_take] at hl
  have hji : j < i := by omega
  rw [List.getElem?_take_of_lt hji] at hj
  obtain ⟨hil, ei⟩ := List.getElem?_eq_some_iff.mp hi
  obtain ⟨hjl, ej⟩ := List.getElem?_eq_some_iff.mp hj
  exact (List.pairwise_iff_getElem.mp h) j i hjl hil hji (by rw [ei, ej])
/-- all but one stands -/
def ExtD (D : Addr) (H H' : Hp) : Prop := ∀ x o, x ≠ D → H x = some o → H' x = some o
theorem ExtD.refl {D : Addr} {H : Hp} : ExtD D H H := fun _ _ _ e => e
theorem ExtD.trans {D : Addr} {H H' H2 : Hp} (h : ExtD D H H') (k : ExtD D H' H2) : ExtD D H H2 := fun x o n e => k x o n (h x o n e)
theorem ExtD.of {D : Addr} {H H' : Hp} (h : Ext H H') : ExtD D H H' := fun x o _ e => h x o e
theorem ExtD.at {D : Addr} {H : Hp} {o : HO} : ExtD D H (upd H D o) := fun x u n e => by rw [upd_ne n]; exact e
/-- the class Forest, its names and ancestors, as they stand -/
structure Fo (P : Program) (w : World) (K : PySem.W.Frag) (mg : Str → Option Value) (base : Heap) (C fI pN fN fA : Addr) (mc : Value) (fdN fdA : FuncData) : Prop where
  Z : FC K mg C fI mc
  hpN : PropOf K C "names" pN fN
  GN : FnOk P w K mg base CX0 1 fN fdN ["self"] (spNames C)
  bN : Binds K fdN ["self"] []
  mA : Meth K C "ancestors" fA
  GA : FnOk P w K mg base CX0 3 fA fdA ["self", "name"] (spAnc C)
  bA : Binds K fdA ["self", "name"] []
theorem fo_ne {H : Hp} {q b : Addr} {rs : List FRow} {bs : List (Str × Int)} (g : Good rs) (h1 : H q = some (.dK (kvs rs))) (h2 : H b = some (.dK (dB bs))) : q ≠ b := fun e => by
  rw [e, h2] at h1
  injection h1 with h1
  injection h1 with h1
  cases rs with
  | nil => have := g.1; simp at this
  | cons r rs =>
    cases bs with
    | nil => cases h1
    | cons p bs =>
      have h1 : ((Sum.inr p.1 : Key), V.int p.2) = (Sum.inr r.1, parV r.2) := (List.cons.inj h1).1
      have h3 : V.int p.2 = parV r.2 := (Prod.mk.inj h1).2
      cases e2 : r.2 with
      | none => rw [e2] at h3; cases h3
      | some m => rw [e2] at h3; cases h3
theorem fo_keep {C : Addr} {H H' : Hp} {a b D : Addr} {rs : List FRow} {bs : List (Str × Int)} (h : FoAt C H a rs) (g : Good rs) (hb : H b = some (.dK (dB bs))) (hD : H D = none) (k : ∀ x o, x ≠ b → x ≠ D → H x = some o → H' x = some o) : FoAt C H' a rs := by
  obtain ⟨dx, q, h1, h2⟩ := h
  exact ⟨dx, q, k _ _ (ne_of h1 hb (by intro z; cases z)) (ne_of_none h1 hD) h1, k _ _ (fo_ne g h2 hb) (ne_of_none h2 hD) h2⟩
theorem get_dN {H : Hp} {D : Addr} {ns : List Str} {t : Str → Int} {n : Str} (h : H D = some (.dK (dN ns t)) ∨ ∃ o, H D = some (.frz o (.dK (dN ns t)))) (hn : n ∈ ns) : DGet H D (.str n) (some (.int (t n))) := by
  rw [← dN_get (t := t) hn]
  exact .inl ⟨_, Sum.inr n, h, rfl, rfl⟩
theorem get_dB {H : Hp} {D : Addr} {bs : List (Str × Int)} {p : Str × Int} (h : H D = some (.dK (dB bs)) ∨ ∃ o, H D = some (.frz o (.dK (dB bs)))) (hn : (bs.map (·.1)).Nodup) (hp : p ∈ bs) : DGet H D (.str p.1) (some (.int p.2)) := by
  rw [← dB_get hn hp]
  exact .inl ⟨_, Sum.inr p.1, h, rfl, rfl⟩
theorem put_dN {H : Hp} {D : Addr} {ns : List Str} {t : Str → Int} {n : Str} {z : Int} (h : H D = some (.dK (dN ns t))) (hn : n ∈ ns) (hl : ns.length ≤ 8) : DPut H D (.str n) (.int z) (upd H D (.dK (dN ns (at_ t n z)))) := by
  rw [← dN_put hn]
  exact .inl ⟨_, Sum.inr n, h, rfl, by rw [dN_len, sizeLine_eq]; omega, rfl⟩
theorem item_dB {bs : List (Str × Int)} {i : Nat} {x1 x2 : V} (e1 : Option.map (fun kv : Key × V => kV kv.1) (dB bs)[i]? = some x1) (e2 : Option.map Prod.snd (dB bs)[i]? = some x2) : ∃ p, bs[i]? = some p ∧ V.str p.1 = x1 ∧ V.int p.2 = x2 := by
  obtain ⟨kv, hk, e⟩ := Option.map_eq_some_iff.mp e1
  rw [hk] at e2
  cases e2
  unfold dB at hk
  rw [List.getElem?_map] at hk
  obtain ⟨p, hp, rfl⟩ := Option.map_eq_some_iff.mp hk
  exact ⟨p, hp, e, rfl⟩
end Lw

set_option Elab.async false
set_option linter.all false
set_option maxRecDepth 100000
set_option maxHeartbeats 4000000
namespace Lw
open L2 hiding Ext
open PySem PySem.Spec PyProof.Rows Gn Gr Gk Go Gt Gf Gu
section
variable {P : Program} {w : World} {K : PySem.W.Frag} {mg : Str → Option Value} {base : Heap} {C fI pN fN fA : Addr} {mc : Value} {fdN fdA : FuncData}
/-! ### totals_of -/
abbrev nTotOf : List Str := ["forest", "balances", "found", "account", "balance", "name"]
def spTotOf (C : Addr) : Sp := fun vs H Q _ => ∃ (a b : Addr) (rs : List FRow) (bs : List (Str × Int)), vs = [.ref a, .ref b] ∧ FoAt C H a rs ∧ Good rs ∧ H b = some (.dK (dB bs)) ∧ BsN rs bs ∧
  ∀ H' q, Ext H H' → H q = none → H' q = some (.dK (dN (fNames rs) (totF rs bs))) → Q (.ref q) H'
theorem scTotOf : FnScope nTotOf ["forest", "balances"] (defScope sTotalsOf) := ⟨rfl, rfl, rfl, by decide +kernel, rfl, by decide +kernel, by decide +kernel⟩
theorem ok_totOf {f : Addr} {fd : FuncData} (F : Fun K "totals_of" "totals_of" sTotalsOf f fd) (Z : Fo P w K mg base C fI pN fN fA mc fdN fdA) : FnOk P w K mg base CX0 4 f fd ["forest", "balances"] (spTotOf C) := by
  refine F.ok scTotOf (fun vs H Q E h => ?_) (fun cdv A outer s H vs Q E hr h => ?_)
  · obtain ⟨a, b, rs, bs, rfl, _⟩ := h
    rfl
  · obtain ⟨a, b, rs, bs, rfl, hF, hG, hb, ⟨bn, bm⟩, k⟩ := h
    have hu := hu_of hr
    have nd := scTotOf.nd
    have hrA := hr
    have hrN : Room 2 (A.deeper (envOfC "totals_of" (defScope sTotalsOf) s.heap.objs.size f cdv)) := hr.mono (by decide)
    refine ⟨_, pss_cons (Gd.ps_setDc (i := 2) (own := [("name", 5)]) (g := gName 5) (tt := tYes) rfl nd rfl rfl (Gd.sw_trueD rfl rfl rfl (by decide +kernel)) (pi_tup (pe_prop (pv 0) Z.Z.cl Z.hpN Z.GN hrN Z.bN .nil pass0 rfl)) (blkOk_by (N := nTotOf) (sc := defScope sTotalsOf) (by decide +kernel))
(fun _ _ _ _ _ => pg_name (i := 5) nd rfl (.inl rfl)) (fun _ _ _ _ _ => pts_nil) (fun _ _ _ _ _ => pv 5) (fun _ _ _ _ _ => pe_int))
(pss_cons (ps_lock (ps_for PassesOwn.never rfl (pi_items (pv 1)) (by exact (pg_tup rfl (pgs_cons (pg_name (i := 3) nd rfl (.inl rfl)) (pgs_cons (pg_name (i := 4) nd rfl (.inl rfl)) pgs_nil))))
(pss_one (ps_for PassesOwn.never rfl (pi_list (pe_meth (pv 0) Z.Z.cl Z.mA Z.GA hrA Z.bA .nil pass0 (pa_cons (pv 3) pa_nil))) (pg_name (i := 5) nd rfl (.inl rfl))
(pss_one (ps_dput hu (pv 2) (pv 5) (pe_op op_add (pe_dget hu (pv 2) (pv 5) (fun _ _ => rfl)) (pv 4)) rfl))))))
(pss_one (ps_ret (pv 2)))), ?_⟩
    have hnd : (fNames rs).Nodup := (good_nodup hG.2.2).1
    have hlen : (fNames rs).length ≤ 8 := by rw [fNames, List.length_map]; exact hG.2.1
    obtain ⟨dx, q0, h1, h2⟩ := id hF
    refine ⟨_, rfl, a, dx, _, rfl, h1, a, rs, rfl, hF, fun H1 t k1 _ ht => ?_⟩
    refine ⟨t, rfl, ⟨_, SqT.of ht⟩, fun D hD => ?_⟩
    have hDH : H D = none := by
      cases e : H D with
      | none => rfl
      | some u => rw [k1 _ _ e] at hD; cases hD
    refine dc_it walk_tup (fun i H' => H' D = some (.dK (dN ((fNames rs).take i) fun _ => 0)) ∧ Ext H1 H') ⟨upd_same, Ext.new hD⟩ (fun i H' _ ⟨_, e⟩ => SqT.of (e _ _ ht)) ?_ ?_
    · rintro i y H3 H4 hi ⟨d3, k3⟩ ⟨rfl, hy⟩
      rw [List.getElem?_map] at hy
      obtain ⟨n, hn, rfl⟩ := Option.map_eq_some_iff.mp hy
      refine ⟨rfl, yes_of ?_⟩
      refine ⟨_, rfl, _, (Sum.inr n : Key), rfl, d3, ?_, ?_, fun x o e => ?_⟩
      · rw [dN_len, List.length_take, sizeLine_eq]
        omega
      · rw [upd_same, putK_new _ (dN_none (nodup_at hnd hn)), take_snoc hn, dN_snoc]
      · rw [upd_ne (ne_of_none e hD)]
        exact k3 _ _ e
    rintro H3 ⟨d3, k3⟩
    rw [List.length_map, List.take_length] at d3
    have k03 := k1.trans k3
    have hb3 := k03 _ _ hb
    have hbD : b ≠ D := ne_of_none hb hDH
    refine ⟨b, _, hb3, trivial, fun od => ?_⟩
    refine ⟨_, rfl, b, od, _, rfl, upd_same, ?_⟩
    have d4 : (upd H3 b (.frz od (.dK (dB bs)))) D = some (.dK (dN (fNames rs) (totF rs (bs.take 0)))) := by rw [upd_ne hbD.symm]; exact d3
    have fo : ∀ {H' : Hp}, ExtD D (upd H3 b (.frz od (.dK (dB bs)))) H' → FoAt C H' a rs := fun {H'} e => fo_keep hF hG hb hDH fun x o n1 n2 hx => e x o n2 (lock_in n1 (k03 _ _ hx))
    refine for_it walk_items (fun i σ H' => ∃ (v3 v4 v5 : Option V), σ = [some (.ref a), some (.ref b), some (.ref D), v3, v4, v5] ∧ H' D = some (.dK (dN (fNames rs) (totF rs (bs.take i)))) ∧ ExtD D (upd H3 b (.frz od (.dK (dB bs)))) H')
      ⟨none, none, none, rfl, d4, ExtD.refl⟩ (fun i σ H' _ ⟨_, _, _, _, _, e⟩ => e b _ hbD upd_same) ?_ ?_
    · rintro i x σ H5 H6 hi ⟨v3, v4, v5, rfl, d5, k5⟩ ⟨T, x1, x2, rfl, hT, rfl, e1, e2⟩
      obtain ⟨p, hp, rfl, rfl⟩ := item_dB e1 e2
      have hpm := bm p (List.mem_of_getElem? hp)
      have kT : ExtD D (upd H3 b (.frz od (.dK (dB bs)))) (upd H5 T (.tup [.str p.1, .int p.2])) := k5.trans (ExtD.of (Ext.new hT))
      have dT := new_same (o := .tup [.str p.1, .int p.2]) hT _ _ d5
      refine ⟨T, _, rfl, SqT.of upd_same, rfl, _, _, rfl, _, _, rfl, rfl, ?_⟩
      generalize upd H5 T (.tup [.str p.1, .int p.2]) = H6 at kT dT ⊢
      obtain ⟨dx6, q6, g1, g2⟩ := id (fo kT)
      obtain ⟨j, r, hj, hr1, hanc⟩ := anc_call hG hpm
      refine ⟨_, rfl, a, dx6, _, rfl, g1, rfl, _, rfl, a, rs, j, r, by rw [hr1]; rfl, fo kT, hG, hj, fun H7 l k7 hl0 hl => ?_⟩
      rw [hanc] at hl
      have k67 : ExtD D (upd H3 b (.frz od (.dK (dB bs)))) H7 := kT.trans (ExtD.of k7)
      have d7 := k7 _ _ dT
      have hlD : l ≠ D := fun e => by rw [e, dT] at hl0; cases hl0
      refine ⟨l, rfl, ⟨_, SqL.of hl⟩, ?_⟩
      refine for_it walk_list (fun i' σ H' => ∃ (v5 : Option V), σ = [some (.ref a), some (.ref b), some (.ref D), some (.str p.1), some (.int p.2), v5] ∧ H' D = some (.dK (dN (fNames rs) (addL (totF rs (bs.take i)) ((anc rs p.1).take i') p.2))) ∧ ExtD D H7 H')
        ⟨v5, rfl, d7, ExtD.refl⟩ (fun i' σ H' _ ⟨_, _, _, e⟩ => SqL.of (e _ _ hlD hl)) ?_ ?_
      · rintro i' y σ H8 H9 hi' ⟨v5, rfl, d8, k8⟩ ⟨rfl, hy⟩
        rw [List.getElem?_map] at hy
        obtain ⟨m, hm, rfl⟩ := Option.map_eq_some_iff.mp hy
        have hmn := anc_mem hG hpm (List.mem_of_getElem? hm)
        refine ⟨_, rfl, _, rfl, D, _, rfl, get_dN (.inl d8) hmn, _, rfl, _, _, rfl, rfl, _, rfl, _, rfl, D, _, rfl, put_dN d8 hmn hlen, ?_⟩
        refine ⟨_, rfl, ?_, k8.trans ExtD.at⟩
        rw [upd_same, addL_take hm]
      · rintro σ H8 ⟨v5, rfl, d8, k8⟩
        rw [List.length_map, List.take_length] at d8
        refine ⟨_, _, _, rfl, ?_, k67.trans k8⟩
        rw [totF_take hp]
        exact d8
    · rintro σ H5 ⟨v3, v4, v5, rfl, d5, k5⟩
      have e5 : (dB bs).length = bs.length := by unfold dB; rw [List.length_map]
      rw [e5, List.take_length] at d5
      refine ⟨k5 b _ hbD upd_same, _, rfl, ?_⟩
      refine k _ D (fun x o hx => ?_) hDH (by rw [upd_ne hbD.symm]; exact d5)
      by_cases n : x = b
      · subst n
        rw [upd_same, ← hb, hx]
      · rw [upd_ne n]
        exact k5 x o (ne_of_none hx hDH) (lock_in n (k03 _ _ hx))
end
end Lw

set_option Elab.async false
set_option linter.all false
set_option maxRecDepth 100000
set_option maxHeartbeats 4000000
namespace Lw
open L2 hiding Ext
open PySem PySem.Spec PyProof.Rows Gn Gr Gk Go Gt Gf Gu
/-- all but two stand -/
def Ext2 (p q : Addr) (H H' : Hp) : Prop := ∀ x o, x ≠ p → x ≠ q → H x = some o → H' x = some o
theorem Ext2.refl {p q : Addr} {H : Hp} : Ext2 p q H H := fun _ _ _ _ e => e
theorem Ext2.trans {p q : Addr} {H H' H2 : Hp} (h : Ext2 p q H H') (k : Ext2 p q H' H2) : Ext2 p q H H2 := fun x o n m e => k x o n m (h x o n m e)
theorem Ext2.of {p q : Addr} {H H' : Hp} (h : Ext H H') : Ext2 p q H H' := fun x o _ _ e => h x o e
theorem Ext2.at1 {p q : Addr} {H : Hp} {o : HO} : Ext2 p q H (upd H p o) := fun x u n _ e => by rw [upd_ne n]; exact e
theorem Ext2.at2 {p q : Addr} {H : Hp} {o : HO} : Ext2 p q H (upd H q o) := fun x u _ n e => by rw [upd_ne n]; exact e
theorem none_of {H H' : Hp} {p : Addr} (k : Ext H H') (h : H' p = none) : H p = none := by
  cases e : H p with
  | none => rfl
  | some u => rw [k _ _ e] at h; cases h
end Lw

set_option Elab.async false
set_option linter.all false
set_option maxRecDepth 100000
set_option maxHeartbeats 4000000
namespace Lw
open L2 hiding Ext
open PySem PySem.Spec PyProof.Rows Gn Gr Gk Go Gt Gf Gu
theorem ty_seq {K : PySem.W.Frag} {H : Hp} {cl : Addr} {xs : List V} (h : ClAt H cl xs) : ∃ ty, TyX K H (.ref cl) ty ∧ PySem.W.kitAny K ty [.type "list", .type "tuple"] = some true := by
  rcases h with h | h
  · exact ⟨_, (TyT.lst h).x, kitAny_cons (b := true) (kit_ty (by decide +kernel)) (fun z => by cases z) (fun _ => rfl)⟩
  · exact ⟨_, (TyT.tup h).x, kitAny_cons (b := false) (kit_ty (by decide +kernel)) (fun _ => kitAny_cons (b := true) (kit_ty (by decide +kernel)) (fun z => by cases z) (fun _ => rfl)) (fun z => by cases z)⟩
section
variable {P : Program} {w : World} {K : PySem.W.Frag} {mg : Str → Option Value} {base : Heap} {C fI pN fN fA : Addr} {mc : Value} {fdN fdA : FuncData}
/-! ### is_claim, check_claims -/
abbrev nIsClaim : List Str := ["forest", "value", "account", "claim"]
def spIsClaim (C : Addr) : Sp := fun vs H Q _ => ∃ (a p : Addr) (rs : List FRow) (c : Str × Int), vs = [.ref a, .ref p] ∧ FoAt C H a rs ∧ Good rs ∧ H p = some (.tup [.str c.1, .int c.2]) ∧ c.1 ∈ fNames rs ∧ 0 ≤ c.2 ∧ c.2 ≤ 1000000000 ∧ ∀ H', Ext H H' → Q (.bl true) H'
theorem scIsClaim : FnScope nIsClaim ["forest", "value"] (defScope sIsClaim) := ⟨rfl, rfl, rfl, by decide +kernel, rfl, by decide +kernel, by decide +kernel⟩
theorem ok_isClaim {f fJ fB : Addr} {fd fdJ fdB : FuncData} (F : Fun K "is_claim" "is_claim" sIsClaim f fd) (T : Names mg) (Z : Fo P w K mg base C fI pN fN fA mc fdN fdA)
    (GI : FnOk P w K mg base CX0 1 fJ fdJ ["value"] spInt) (bI : Binds K fdJ ["value"] []) (kI : PySem.W.keepIn K (.ref fJ) = true) (mI : mg "is_int" = some (.ref fJ))
    (GA : FnOk P w K mg base CX0 2 fB fdB ["value"] spAmt) (bA : Binds K fdB ["value"] []) (kA : PySem.W.keepIn K (.ref fB) = true) (mA : mg "is_amount" = some (.ref fB)) :
    FnOk P w K mg base CX0 3 f fd ["forest", "value"] (spIsClaim C) := by
  refine F.ok scIsClaim (fun vs H Q E h => ?_) (fun cdv A outer s H vs Q E hr h => ?_)
  · obtain ⟨a, p, rs, c, rfl, _⟩ := h
    rfl
  · obtain ⟨a, p, rs, c, rfl, hF, hG, hp, hn, c0, c1, k⟩ := h
    have hu := hu_of hr
    have nd := scIsClaim.nd
    have hr2 := hr
    have hrN := hr
    have hr1 : Room 1 (A.deeper (envOfC "is_claim" (defScope sIsClaim) s.heap.objs.size f cdv)) := hr.mono (by decide)
    refine ⟨_, pss_cons (ps_if (PW.pt (pw_or (pt_not (pt_val (pe_callB call_isi rfl T.isi (by decide +kernel) (pa_cons (pv 1) (pa_cons (pe_bltn (v := .ty "tuple") rfl T.tuple (by decide +kernel) rfl) pa_nil))))) (pw_or1 (pt_cmpR op_ne (pe_callB call_len_seq rfl T.len PySem.boot_len (pa_cons (pv 1) pa_nil)) pe_int (nomark _))))) (pss_one (ps_ret pe_bl)) pss_nil)
(pss_cons (ps_asg (pv 1) (by exact (pg_tup rfl (pgs_cons (pg_name (i := 2) nd rfl (.inl rfl)) (pgs_cons (pg_name (i := 3) nd rfl (.inl rfl)) pgs_nil)))))
(pss_one (ps_ret (pe_and (pe_cmpR op_in_seq (pv 2) (pe_prop (pv 0) Z.Z.cl Z.hpN Z.GN hrN Z.bN .nil pass0 rfl) rfl) (pe_and (pe_call GI hr1 rfl mI kI bI .nil pass0 (pa_cons (pv 3) pa_nil)) (pe_one (pe_or (pe_cmpR op_eq (pv 3) pe_int (nomark _)) (pe_one (pe_call GA hr2 rfl mA kA bA .nil pass0 (pa_cons (pv 3) pa_nil)))))))))), ?_⟩
    obtain ⟨dx, q0, h1, h2⟩ := id hF
    refine ⟨_, rfl, _, _, _, _, true, rfl, .ty _, (TyT.tup hp).x, kit_ty (by decide +kernel), true, rfl, iteF ?_⟩
    refine ⟨_, rfl, p, _, rfl, .inr (SqT.of hp), rfl, _, rfl, iteNS rfl ?_⟩
    refine ⟨_, rfl, p, _, rfl, SqT.of hp, rfl, _, _, rfl, _, _, rfl, rfl, ?_⟩
    refine ⟨_, rfl, _, rfl, a, dx, _, rfl, h1, a, rs, rfl, hF, fun H1 t k1 _ ht => ?_⟩
    refine ⟨t, _, rfl, .inr (SqT.of ht), rfl, strs_flat _, ?_⟩
    show ∃ b, V.bl (inV (.str c.1) ((fNames rs).map V.str)) = V.bl b ∧ _
    rw [inV_strs, decide_eq_true hn]
    refine ⟨true, rfl, iteT ?_⟩
    refine ⟨_, rfl, _, _, rfl, .inl ⟨c.2, rfl, rfl⟩, true, rfl, iteT ?_⟩
    refine ⟨_, rfl, rfl, _, rfl, ?_⟩
    refine ite2 (fun _ => k H1 k1) (fun e => ?_)
    have hz : c.2 ≠ 0 := fun z => e (by rw [z]; rfl)
    have ha : amtOk c.2 = true := by
      unfold amtOk
      rw [decide_eq_true (by omega), decide_eq_true c1]
      rfl
    refine ⟨_, rfl, _, _, rfl, .inl ⟨c.2, rfl, rfl⟩, fun H' k' => ?_⟩
    rw [ha]
    exact k H' (k1.trans k')
abbrev nCkClaims : List Str := ["forest", "claims", "pair"]
def spCkClaims (C : Addr) : Sp := fun vs H Q _ => ∃ (a cl : Addr) (rs : List FRow) (cs : List (Str × Int)) (xs : List V), vs = [.ref a, .ref cl] ∧ FoAt C H a rs ∧ Good rs ∧ ClAt H cl xs ∧ CsAt H xs cs ∧ CsOk rs cs ∧ ∀ H', Ext H H' → Q .non H'
theorem scCkClaims : FnScope nCkClaims ["forest", "claims"] (defScope sCheckClaims) := ⟨rfl, rfl, rfl, by decide +kernel, rfl, by decide +kernel, by decide +kernel⟩
theorem all_true (n : Nat) : (List.replicate n true).all id = true := by
  rw [List.all_eq_true]
  intro x hx
  exact List.eq_of_mem_replicate hx
theorem ok_ckClaims {f fJ : Addr} {fd fdJ : FuncData} (F : Fun K "check_claims" "check_claims" sCheckClaims f fd) (T : Names mg) (hM : ∃ t, mg "MOST_CLAIMS" = some (.int 20 t))
    (GC : FnOk P w K mg base CX0 3 fJ fdJ ["forest", "value"] (spIsClaim C)) (bC : Binds K fdJ ["forest", "value"] []) (kC : PySem.W.keepIn K (.ref fJ) = true) (mC : mg "is_claim" = some (.ref fJ)) :
    FnOk P w K mg base CX0 4 f fd ["forest", "claims"] (spCkClaims C) := by
  refine F.ok scCkClaims (fun vs H Q E h => ?_) (fun cdv A outer s H vs Q E hr h => ?_)
  · obtain ⟨a, cl, rs, cs, xs, rfl, _⟩ := h
    rfl
  · obtain ⟨a, cl, rs, cs, xs, rfl, hF, hG, hcl, hcs, ⟨hc20, hco⟩, k⟩ := h
    have hu := hu_of hr
    have nd := scCkClaims.nd
    obtain ⟨tM, hM⟩ := hM
    refine ⟨_, pss_cons (ps_if (pt_not (pt_val (pe_callB call_isiT rfl T.isi (by decide +kernel) (pa_cons (pv 1) (pa_cons (pe_tup (pa_cons (pe_bltn (v := .ty "list") rfl T.list (by decide +kernel) rfl) (pa_cons (pe_bltn (v := .ty "tuple") rfl T.tuple (by decide +kernel) rfl) pa_nil))) pa_nil))))) (pss_never) pss_nil)
(pss_cons (ps_if (pt_cmpR op_gt (pe_callB call_len_seq rfl T.len PySem.boot_len (pa_cons (pv 1) pa_nil)) (pe_glob (v := .int 20) rfl hM ⟨_, rfl⟩) (nomark _)) (pss_never) pss_nil)
(pss_one (ps_if (pt_not (pt_val (pe_callB (cr_all rfl) rfl T.all (by decide +kernel) (pa_cons (pe_lc (own := [("pair", 2)]) (g := gName 2) (tt := tYes) rfl nd (pi_seqV (pv 1)) (blkOk_by (N := nCkClaims) (sc := defScope sCheckClaims) (by decide +kernel))
(fun _ _ _ _ _ => pg_name (i := 2) nd rfl (.inl rfl)) (fun _ _ _ _ _ => pts_nil) (fun _ _ _ _ _ => pe_call GC hr rfl mC kC bC .nil pass0 (pa_cons (pv 0) (pa_cons (pv 2) pa_nil)))) pa_nil)))) (pss_never) pss_nil))), ?_⟩
    refine ⟨_, rfl, by show 2 ≤ sizeLine; decide, fun tp htp => ?_⟩
    have k1 : Ext H (upd H tp (.tup [.ty "list", .ty "tuple"])) := Ext.new htp
    have t1 : (upd H tp (.tup [.ty "list", .ty "tuple"])) tp = some (.tup [.ty "list", .ty "tuple"]) := upd_same
    generalize upd H tp (.tup [.ty "list", .ty "tuple"]) = H1 at k1 t1 ⊢
    have c1 := hcl.ext k1
    obtain ⟨ty, hty, hkit⟩ := ty_seq (K := K) c1
    refine ⟨_, tp, _, _, [.type "list", .type "tuple"], true, rfl, t1, .cons (.ty _) (.cons (.ty _) .nil), hty, hkit, true, rfl, iteF ?_⟩
    have hl := hcs.1
    refine ⟨_, rfl, cl, xs, rfl, c1.sq, _, _, rfl, rfl, _, rfl, iteN (by omega) ?_⟩
    refine ⟨cl, xs, rfl, c1, fun J hJ D hD => ?_⟩
    refine lc_it hJ (fun i H' => H' D = some (.lst ((List.replicate i true).map V.bl)) ∧ Ext H1 H') ⟨upd_same, Ext.new hD⟩ (fun i H' _ ⟨_, e⟩ => ?_) ?_ ?_
    · rcases c1 with h | h
      · exact (e _ _ h).trans h.symm
      · exact (e _ _ h).trans h.symm
    · rintro i y H2 H2' hi ⟨d2, k2⟩ ⟨rfl, hy⟩
      obtain ⟨c, p, hc, rfl, hp⟩ := hcs.get hy
      obtain ⟨o1, o2, o3⟩ := hco c (List.mem_of_getElem? hc)
      have k12 := k1.trans k2
      refine ⟨rfl, yes_of ?_⟩
      refine ⟨_, rfl, _, rfl, a, p, rs, c, rfl, hF.ext k12, hG, k12 _ _ hp, o1, o2, o3, fun H3 k3 => ?_⟩
      refine ⟨_, k3 _ _ d2, ?_, ?_, fun x o e => ?_⟩
      · rw [List.length_map, List.length_replicate]
        exact small1000 (by omega)
      · rw [upd_same, List.replicate_succ', List.map_append]
        rfl
      · rw [upd_ne (ne_of_none e hD)]
        exact k3 _ _ (k2 _ _ e)
    rintro H2 ⟨d2, k2⟩
    refine ⟨D, _, rfl, SqL.of d2, ?_⟩
    rw [all_true]
    exact ⟨true, rfl, iteF (k H2 (k1.trans k2))⟩
/-! ### check_balances -/
abbrev nCkBal : List Str := ["forest", "balances", "account", "balance"]
def spCkBal (C : Addr) : Sp := fun vs H Q _ => ∃ (a b : Addr) (rs : List FRow) (bs : List (Str × Int)), vs = [.ref a, .ref b] ∧ FoAt C H a rs ∧ Good rs ∧ H b = some (.dK (dB bs)) ∧ BsOk rs bs ∧ ∀ H', Ext H H' → Q .non H'
theorem scCkBal : FnScope nCkBal ["forest", "balances"] (defScope sCheckBalances) := ⟨rfl, rfl, rfl, by decide +kernel, rfl, by decide +kernel, by decide +kernel⟩
theorem ok_ckBal {f fJ : Addr} {fd fdJ : FuncData} (F : Fun K "check_balances" "check_balances" sCheckBalances f fd) (T : Names mg) (Z : Fo P w K mg base C fI pN fN fA mc fdN fdA) (hM : ∃ t, mg "MOST_BALANCE" = some (.int 1000000000000 t))
    (GI : FnOk P w K mg base CX0 1 fJ fdJ ["value"] spInt) (bI : Binds K fdJ ["value"] []) (kI : PySem.W.keepIn K (.ref fJ) = true) (mI : mg "is_int" = some (.ref fJ)) :
    FnOk P w K mg base CX0 3 f fd ["forest", "balances"] (spCkBal C) := by
  refine F.ok scCkBal (fun vs H Q E h => ?_) (fun cdv A outer s H vs Q E hr h => ?_)
  · obtain ⟨a, b, rs, bs, rfl, _⟩ := h
    rfl
  · obtain ⟨a, b, rs, bs, rfl, hF, hG, hb, ⟨⟨bn, bm⟩, bo⟩, k⟩ := h
    have hu := hu_of hr
    have nd := scCkBal.nd
    have hrN := hr
    have hr1 : Room 1 (A.deeper (envOfC "check_balances" (defScope sCheckBalances) s.heap.objs.size f cdv)) := hr.mono (by decide)
    obtain ⟨tM, hM⟩ := hM
    refine ⟨_, pss_cons (ps_if (pt_not (pt_val (pe_callB call_isi rfl T.isi (by decide +kernel) (pa_cons (pv 1) (pa_cons (pe_bltn (v := .ty "dict") rfl T.dict (by decide +kernel) rfl) pa_nil))))) (pss_never) pss_nil)
(pss_one (ps_lock (ps_for PassesOwn.never rfl (pi_items (pv 1)) (by exact (pg_tup rfl (pgs_cons (pg_name (i := 2) nd rfl (.inl rfl)) (pgs_cons (pg_name (i := 3) nd rfl (.inl rfl)) pgs_nil))))
(pss_cons (ps_if (pt_cmpR op_notIn_seq (pv 2) (pe_prop (pv 0) Z.Z.cl Z.hpN Z.GN hrN Z.bN .nil pass0 rfl) rfl) (pss_never) pss_nil)
(pss_one (ps_if (PW.pt (pw_or (pt_not (pt_val (pe_call GI hr1 rfl mI kI bI .nil pass0 (pa_cons (pv 3) pa_nil)))) (pw_or1 (pt_not (pt_chain op_le op_le pe_int (pv 3) (pe_glob (v := .int 1000000000000) rfl hM ⟨_, rfl⟩)))))) (pss_never) pss_nil)))))), ?_⟩
    refine ⟨_, rfl, _, _, _, _, true, rfl, .ty _, (TyT.dct hb).x, kit_ty (by decide +kernel), true, rfl, iteF ?_⟩
    refine ⟨b, _, hb, trivial, fun od => ?_⟩
    refine ⟨_, rfl, b, od, _, rfl, upd_same, ?_⟩
    obtain ⟨dx, q0, h1, h2⟩ := id hF
    have fo : ∀ {H' : Hp}, Ext (upd H b (.frz od (.dK (dB bs)))) H' → H' a = some (.ins C dx [("_parents", .ref q0)]) ∧ H' q0 = some (.dK (kvs rs)) := fun {H'} e =>
      ⟨e _ _ (lock_in (ne_of h1 hb (by intro z; cases z)) h1), e _ _ (lock_in (fo_ne hG h2 hb) h2)⟩
    refine for_it walk_items (fun i σ H' => ∃ (v2 v3 : Option V), σ = [some (.ref a), some (.ref b), v2, v3] ∧ Ext (upd H b (.frz od (.dK (dB bs)))) H') ⟨none, none, rfl, Ext.refl⟩ (fun i σ H' _ ⟨_, _, _, e⟩ => e b _ upd_same) ?_ ?_
    · rintro i x σ H5 H6 hi ⟨v2, v3, rfl, k5⟩ ⟨T, x1, x2, rfl, hT, rfl, e1, e2⟩
      obtain ⟨p, hp, rfl, rfl⟩ := item_dB e1 e2
      have hpm := bm p (List.mem_of_getElem? hp)
      obtain ⟨p0, p1⟩ := bo p (List.mem_of_getElem? hp)
      have k6 := k5.trans (Ext.new (o := .tup [.str p.1, .int p.2]) hT)
      refine ⟨T, _, rfl, SqT.of upd_same, rfl, _, _, rfl, _, _, rfl, rfl, ?_⟩
      generalize upd H5 T (.tup [.str p.1, .int p.2]) = H6 at k6 ⊢
      obtain ⟨g1, g2⟩ := fo k6
      refine ⟨_, rfl, _, rfl, a, dx, _, rfl, g1, a, rs, rfl, ⟨dx, q0, g1, g2⟩, fun H7 t k7 _ ht => ?_⟩
      refine ⟨t, _, rfl, .inr (SqT.of ht), rfl, strs_flat _, ?_⟩
      show ∃ b, V.bl (!inV (.str p.1) ((fNames rs).map V.str)) = V.bl b ∧ _
      rw [inV_strs, decide_eq_true hpm]
      refine ⟨false, rfl, iteF ?_⟩
      refine ⟨_, rfl, _, _, rfl, .inl ⟨p.2, rfl, rfl⟩, true, rfl, iteF ?_⟩
      refine ⟨_, rfl, _, _, rfl, rfl, _, rfl, iteS p0 ?_⟩
      refine ⟨_, _, rfl, rfl, _, rfl, ?_⟩
      show if (!decide (p.2 ≤ 1000000000000)) = true then _ else _
      rw [decide_eq_true p1]
      refine iteF ?_
      exact ⟨_, _, rfl, k6.trans k7⟩
    · rintro σ H5 ⟨v2, v3, rfl, k5⟩
      exact ⟨k5 b _ upd_same, k _ (lock_ext hb k5)⟩
end
end Lw

set_option Elab.async false
set_option linter.all false
set_option maxRecDepth 100000
set_option maxHeartbeats 4000000
namespace Lw
open L2 hiding Ext
open PySem PySem.Spec PyProof.Rows Gn Gr Gk Go Gt Gf Gu
theorem rows_refs {K : PySem.W.Frag} {H : Hp} : ∀ {xs : List V} {rs : List FRow}, RowsAt H xs rs → ∃ ps : List Addr, xs = ps.map V.ref ∧ Paired (fun p kv => SqT K H p [kV kv.1, kv.2]) ps (kvs rs)
  | [], [], _ => ⟨[], rfl, .nil⟩
  | [], _ :: _, h => by have := h.1; simp at this
  | _ :: _, [], h => by have := h.1; simp at this
  | x :: xs, r :: rs, h => by
    obtain ⟨p, h1, h2⟩ := h.2 0 r rfl
    have h1 : some x = some (V.ref p) := h1
    cases h1
    obtain ⟨ps, e, k⟩ := rows_refs (K := K) (H := H) (xs := xs) (rs := rs) ⟨by have := h.1; simpa using this, fun i r' hr => h.2 (i + 1) r' (by simpa using hr)⟩
    exact ⟨p :: ps, by rw [e]; rfl, .cons (SqT.of h2) k⟩
theorem merge_rows {rs : List FRow} (h : (fNames rs).Nodup) : mergeK [] (kvs rs) = kvs rs := merge_self (by
  unfold kvs
  rw [List.map_map]
  exact nodup_inr (fun r : FRow => r.1) h)
theorem merge_dN {ns : List Str} {t : Str → Int} (h : ns.Nodup) : mergeK [] (dN ns t) = dN ns t := merge_self (by
  unfold dN
  rw [List.map_map]
  exact nodup_inr (fun n : Str => n) (by rw [List.map_id']; exact h))
section
variable {P : Program} {w : World} {K : PySem.W.Frag} {mg : Str → Option Value} {base : Heap}
theorem RowsAt.get {H : Hp} {vs : List V} {rs : List FRow} (h : RowsAt H vs rs) {i : Nat} {x : V} (hx : vs[i]? = some x) : ∃ (r : FRow) (p : Addr), rs[i]? = some r ∧ x = .ref p ∧ H p = some (.tup [.str r.1, parV r.2]) := by
  have hi : i < rs.length := by rw [← h.1]; exact (List.getElem?_eq_some_iff.mp hx).1
  obtain ⟨p, a, b⟩ := h.2 i _ (List.getElem?_eq_getElem hi)
  rw [hx] at a
  cases a
  exact ⟨_, p, List.getElem?_eq_getElem hi, rfl, b⟩
/-! ### _law_up -/
abbrev nUp : List Str := ["_law_rows", "_law_name", "_law_parents", "_law_found"]
def spUp : Sp := fun vs H Q _ => ∃ (l : Addr) (xs : List V) (rs : List FRow) (n : Str), vs = [.ref l, .str n] ∧ H l = some (.lst xs) ∧ RowsAt H xs rs ∧ Good rs ∧ n ∈ fNames rs ∧
  ∀ H' p, Ext H H' → H p = none → H' p = some (.lst ((anc rs n).map V.str)) → Q (.ref p) H'
theorem scUp : FnScope nUp ["_law_rows", "_law_name"] (defScope sLUp) := ⟨rfl, rfl, rfl, by decide +kernel, rfl, by decide +kernel, by decide +kernel⟩
theorem ok_up {f : Addr} {fd : FuncData} (F : Fun K "_law_up" "_law_up" sLUp f fd) (T : Names mg) : FnOk P w K mg base CX0 1 f fd ["_law_rows", "_law_name"] spUp := by
  refine F.ok scUp (fun vs H Q E h => ?_) (fun cdv A outer s H vs Q E hr h => ?_)
  · obtain ⟨l, xs, rs, n, rfl, _⟩ := h
    rfl
  · obtain ⟨l, xs, rs, n, rfl, hl, hR, hG, hn, k⟩ := h
    have hu := hu_of hr
    have nd := scUp.nd
    refine ⟨_, pss_cons (ps_par (i := 2) (j := 3) (by rfl) nd rfl rfl (by decide) rfl rfl (pa_cons (pe_callTy (call_dictP rfl) rfl T.dict (by decide +kernel) (pa_cons (pv 0) pa_nil)) (pa_cons (pe_lst pa_nil) pa_nil)) (by rfl))
(pss_cons (ps_while PassesOwn.never (pt_cmpR op_notN (pv 1) pe_non (nomark _))
(pss_cons (ps_expr (pe_bm PySem.F.plainAttrs_list PySem.F.slot_list_append PySem.F.type_list_append mt_append (pv 3) (pa_cons (pv 1) pa_nil)))
(pss_one (ps_set (i := 1) nd rfl (.inl rfl) (pe_dget hu (pv 2) (pv 1) (fun _ _ => rfl))))))
(pss_one (ps_ret (pv 3)))), ?_⟩
    have hg := hG.2.2
    have hnd := (good_nodup hg).1
    obtain ⟨i, r, hi, rfl, hanc⟩ := anc_call hG hn
    rw [← hanc] at k
    have hil := (List.getElem?_eq_some_iff.mp hi).1
    have g8 := hG.2.1
    obtain ⟨ps, rfl, hps⟩ := rows_refs (K := K) hR
    refine ⟨_, rfl, l, ps, kvs rs, rfl, SqL.of hl, hps, fun q hq => ?_⟩
    rw [merge_rows hnd]
    refine ⟨Nat.zero_le _, fun L hL => ?_⟩
    refine ⟨_, _, rfl, ?_⟩
    have k1 : Ext H (upd (upd H q (.dK (kvs rs))) L (.lst [])) := (Ext.new hq).trans (Ext.new hL)
    have hL0 : H L = none := none_of (Ext.new (o := .dK (kvs rs)) hq) hL
    have q1 := new_same (o := .lst []) hL _ _ (upd_same (H := H) (a := q) (o := .dK (kvs rs)))
    have L1 : (upd (upd H q (.dK (kvs rs))) L (.lst [])) L = some (.lst []) := upd_same
    generalize upd (upd H q (.dK (kvs rs))) L (.lst []) = H1 at k1 q1 L1 ⊢
    have hqL : q ≠ L := fun e => by rw [e, L1] at q1; cases q1
    have get : ∀ {H' : Hp} {x : FRow}, ExtD L H1 H' → x ∈ rs → DGet H' q (.str x.1) (some (parV x.2)) := by
      intro H' x kk hx
      rw [← kvs_some hnd hx]
      exact DGet.k (k := Sum.inr x.1) (kk _ _ hqL q1)
    refine while_by (fun σ H' => ∃ (pq : Option Str) (pre : List Str) (kk : Nat), σ = [some (.ref l), some (parV pq), some (.ref q), some (.ref L)] ∧ H' L = some (.lst (pre.map V.str)) ∧ pre.length + kk = i + 1 ∧
        (∀ m, pq = some m → ∃ (j : Nat) (r' : FRow), j < kk ∧ rs[j]? = some r' ∧ r'.1 = m) ∧ pre ++ ancR rs kk pq = ancF rs (i + 1) r.1 ∧ ExtD L H1 H')
      (fun _ H' => match H' L with | some (.lst xs) => 100 - xs.length | _ => 0) ⟨some r.1, [], i + 1, rfl, L1, by simp, fun m hm => ?_, rfl, ExtD.refl⟩ ?_ ?_
    · cases hm
      exact ⟨i, r, by omega, hi, rfl⟩
    · rintro σ H3 ⟨pq, pre, kk, rfl, e3, hk, hm, he, k3⟩
      cases pq with
      | none =>
        refine ⟨_, rfl, rfl, _, rfl, iteNS rfl ?_⟩
        refine ⟨_, rfl, k _ L (fun x o hx => k3 _ _ (ne_of_none hx hL0) (k1 _ _ hx)) hL0 ?_⟩
        rw [e3]
        have : pre = ancF rs (i + 1) r.1 := by rw [← he]; simp [ancR]
        rw [this]
      | some m =>
        obtain ⟨j, r', j1, j2, rfl⟩ := hm m rfl
        have hr' : r' ∈ rs := List.mem_of_getElem? j2
        refine ⟨_, rfl, rfl, _, rfl, ?_⟩
        show if (!decide (V.str r'.1 = V.non)) = true then _ else _
        rw [decide_eq_false (by intro z; cases z)]
        refine iteT ?_
        refine ⟨_, rfl, .inl ⟨rfl, _, SqL.of e3⟩, _, rfl, L, _, _, rfl, rfl, e3, ?_, ?_⟩
        · rw [sizeLine_eq, List.length_map]
          omega
        have k4 : ExtD L H1 (upd H3 L (.lst (pre.map V.str ++ [.str r'.1]))) := k3.trans ExtD.at
        refine ⟨_, rfl, _, rfl, q, _, rfl, get k4 hr', ?_⟩
        obtain ⟨kp, rfl⟩ : ∃ kp, kk = kp + 1 := ⟨kk - 1, by omega⟩
        refine ⟨⟨r'.2, pre ++ [r'.1], kp, rfl, by rw [upd_same, List.map_append]; rfl, by rw [List.length_append]; show pre.length + 1 + kp = _; omega, fun m' hm' => ?_, ?_, k4⟩, ?_⟩
        · obtain ⟨j', r'', a1, a2, a3⟩ := par_idx hg j2 hm'
          exact ⟨j', r'', by omega, a2, a3⟩
        · rw [← he]
          show pre ++ [r'.1] ++ ancR rs kp r'.2 = pre ++ ancF rs (kp + 1) r'.1
          rw [ancF_s, parOf_at hnd hr', List.append_assoc]
          rfl
        · show (match (upd H3 L (.lst (pre.map V.str ++ [.str r'.1]))) L with | some (.lst xs) => 100 - xs.length | _ => 0) < (match H3 L with | some (.lst xs) => 100 - xs.length | _ => 0)
          rw [upd_same, e3]
          show 100 - (pre.map V.str ++ [V.str r'.1]).length < 100 - (pre.map V.str).length
          rw [List.length_append, List.length_map]
          show 100 - (pre.length + 1) < _
          omega
    · exact fun σ H Q Q' hq ⟨v, e1, e2, b, e3, h⟩ => ⟨v, e1, e2, b, e3, hq _ _ h⟩
end
end Lw

set_option Elab.async false
set_option linter.all false
set_option maxRecDepth 100000
set_option maxHeartbeats 4000000
namespace Lw
open L2 hiding Ext
open PySem PySem.Spec PyProof.Rows Gn Gr Gk Go Gt Gf Gu
section
variable {P : Program} {w : World} {K : PySem.W.Frag} {mg : Str → Option Value} {base : Heap}
/-! ### _law_order, of names -/
abbrev nOrder : List Str := ["_law_state", "_law_some", "_law_stock", "_law_found"]
def spOrder (ns : List Int) : Sp := fun vs H Q _ => ∃ (d g c l : Addr) (b : Nat) (ws : List Str), vs = [.ref d, .ref l] ∧ Dw ns d g c b H ∧ b ≤ 900000000 ∧ H l = some (.lst (ws.map V.str)) ∧ ws.length ≤ 8 ∧ (∀ x ∈ ws, nameOk x = true) ∧
  ∀ (p : Addr) (ys : List Str) (H' : Hp), H p = none → p ≠ d → p ≠ g → H' p = some (.lst (ys.map V.str)) → ys.Perm ws → Dw ns d g c (b + 8) H' → Kp d g H H' → Q (.ref p) H'
theorem scOrder : FnScope nOrder ["_law_state", "_law_some"] (defScope sLOrder) := ⟨rfl, rfl, rfl, by decide +kernel, rfl, by decide +kernel, by decide +kernel⟩
theorem perm_erase {α : Type} : ∀ {l : List α} {i : Nat} {x : α}, l[i]? = some x → (x :: l.eraseIdx i).Perm l
  | [], _, _, h => by cases h
  | a :: r, 0, x, h => by cases h; exact List.Perm.refl _
  | a :: r, i + 1, x, h => by
    show (x :: a :: r.eraseIdx i).Perm (a :: r)
    exact (List.Perm.swap a x _).trans ((perm_erase (l := r) (i := i) (x := x) (by simpa using h)).cons a)
theorem map_erase {α β : Type} (f : α → β) : ∀ (l : List α) (i : Nat), (l.map f).eraseIdx i = (l.eraseIdx i).map f
  | [], _ => rfl
  | _ :: _, 0 => rfl
  | a :: r, i + 1 => by
    show f a :: (r.map f).eraseIdx i = f a :: (r.eraseIdx i).map f
    rw [map_erase f r i]
theorem ok_order {f fT fP : Addr} {fd fdT fdP : FuncData} (ns : List Int) (F : Fun K "_law_order" "_law_order" sLOrder f fd) (T : Names mg) (R : Draw P w K mg base ns fT fP fdT fdP) : FnOk P w K mg base CX0 3 f fd ["_law_state", "_law_some"] (spOrder ns) := by
  refine F.ok scOrder (fun vs H Q E h => ?_) (fun cdv A outer s H vs Q E hr h => ?_)
  · obtain ⟨d, g, c, l, b, ws, rfl, _⟩ := h
    rfl
  · obtain ⟨d, g, c, l, b, ws, rfl, D, hb, hl, hw8, hwo, k⟩ := h
    have hu := hu_of hr
    have nd := scOrder.nd
    have hr2 := hr
    refine ⟨_, pss_cons (ps_par (i := 2) (j := 3) (by rfl) nd rfl rfl (by decide) rfl rfl (pa_cons (pe_callTy call_list_of rfl T.list (by decide +kernel) (pa_cons (pv 1) pa_nil)) (pa_cons (pe_lst pa_nil) pa_nil)) (by rfl))
(pss_cons (ps_while PassesOwn.never (pt_cmpR (op_neD hr.units) (pv 2) (pe_lst pa_nil) (nomark _))
(pss_one (ps_expr (pe_bm PySem.F.plainAttrs_list PySem.F.slot_list_append PySem.F.type_list_append mt_append (pv 3) (pa_cons (pe_bm PySem.F.plainAttrs_list PySem.F.slot_list_pop PySem.F.type_list_pop mt_popAt (pv 2) (pa_cons (pe_call R.GT hr2 rfl R.mT R.kT R.bT .nil pass0 (pa_cons (pv 0) (pa_cons (pe_callB call_len_seq rfl T.len PySem.boot_len (pa_cons (pv 2) pa_nil)) pa_nil))) pa_nil)) pa_nil)))))
(pss_one (ps_ret (pv 3)))), ?_⟩
    refine ⟨_, rfl, l, _, rfl, .inl (SqL.of hl), fun q hq => ?_⟩
    have Dq := D.new (o := .lst (ws.map V.str)) hq
    refine ⟨Nat.zero_le _, fun L hL => ?_⟩
    refine ⟨_, _, rfl, ?_⟩
    have DL := Dq.new (o := .lst []) hL
    have nqd := D.nd hq
    have nqg := D.ng hq
    have nqc : q ≠ c := fun e => by rw [e, D.cl] at hq; cases hq
    have nLd := Dq.nd hL
    have nLg := Dq.ng hL
    have nLc : L ≠ c := fun e => by rw [e, Dq.cl] at hL; cases hL
    have q1 := new_same (o := .lst []) hL _ _ (upd_same (H := H) (a := q) (o := .lst (ws.map V.str)))
    have L1 : (upd (upd H q (.lst (ws.map V.str))) L (.lst [])) L = some (.lst (([] : List Str).map V.str)) := upd_same
    have nqL : q ≠ L := fun e => by rw [← e] at hL; rw [upd_same] at hL; cases hL
    have hL0 : H L = none := none_of (Ext.new (o := .lst (ws.map V.str)) hq) hL
    have k1 : Kp d g H (upd (upd H q (.lst (ws.map V.str))) L (.lst [])) := (Kp.new hq).trans (Kp.new hL)
    generalize upd (upd H q (.lst (ws.map V.str))) L (.lst []) = H1 at DL q1 L1 k1 ⊢
    refine while_by (fun σ H' => ∃ (st ys : List Str), σ = [some (.ref d), some (.ref l), some (.ref q), some (.ref L)] ∧ H' q = some (.lst (st.map V.str)) ∧ H' L = some (.lst (ys.map V.str)) ∧ (ys ++ st).Perm ws ∧ Dw ns d g c (b + ys.length) H' ∧ Kp d g H H')
      (fun _ H' => match H' q with | some (.lst xs) => xs.length | _ => 0) ⟨ws, [], rfl, q1, L1, List.Perm.refl _, DL, k1⟩ ?_ ?_
    · rintro σ H2 ⟨st, ys, rfl, q2, L2, hp, D2, k2⟩
      have hlen : ys.length + st.length ≤ 8 := by
        have := hp.length_eq
        rw [List.length_append] at this
        omega
      have hsok : ∀ x ∈ st, PyData.strOk x = true := fun x hx => (name_asc19 (hwo x (hp.mem_iff.mp (List.mem_append.mpr (.inr hx))))).ok
      refine ⟨_, rfl, Nat.zero_le _, fun e he => ?_⟩
      have D3 := D2.new (o := .lst []) he
      have q3 := new_same (o := .lst []) he _ _ q2
      have L3 := new_same (o := .lst []) he _ _ L2
      have k3 : Kp d g H (upd H2 e (.lst [])) := k2.trans (Kp.new he)
      refine ⟨_, _, .lst (SqL.of q3) (dp_strs st), .lst (SqL.of upd_same) .nil, shaped_strs hsok, shaped_nil, _, rfl, ?_⟩
      rw [eqv_nil]
      have mq : (match H2 q with | some (.lst xs) => xs.length | _ => 0) = st.length := by rw [q2]; exact List.length_map ..
      generalize upd H2 e (.lst []) = H3 at D3 q3 L3 k3 ⊢
      cases st with
      | nil =>
        refine iteF ?_
        rw [List.append_nil] at hp
        exact ⟨_, rfl, k L ys H3 hL0 nLd nLg L3 hp (D3.mono (by omega)) k3⟩
      | cons s0 sr =>
        refine iteT ?_
        rw [List.length_cons] at hlen
        refine ⟨_, rfl, .inl ⟨rfl, _, SqL.of L3⟩, _, rfl, .inl ⟨rfl, _, SqL.of q3⟩, _, rfl, _, rfl, q, _, rfl, .inl (SqL.of q3), d, g, c, _, _, rfl, D3, by omega, by rw [List.length_map, List.length_cons]; omega, by rw [List.length_map, List.length_cons]; omega, fun r H4 r0 r1 D4 k4 => ?_⟩
        rw [List.length_map, List.length_cons] at r1
        have q4 := k4 _ _ nqd nqg q3
        have L4 := k4 _ _ nLd nLg L3
        have hri : r.toNat < (s0 :: sr).length := by rw [List.length_cons]; omega
        have hx := List.getElem?_eq_getElem hri
        generalize hxv : (s0 :: sr)[r.toNat] = x at hx
        refine ⟨q, _, r, r.toNat, V.str x, rfl, rfl, q4, by omega, by omega, ?_, ?_, ?_⟩
        · rw [List.length_map]
          exact ix_pos r0 (by rw [List.length_cons]; omega)
        · rw [List.getElem?_map, hx]; rfl
        have L5 : (upd H4 q (.lst ((((s0 :: sr).map V.str).eraseIdx r.toNat)))) L = some (.lst (ys.map V.str)) := by rw [upd_ne nqL.symm]; exact L4
        refine ⟨L, _, _, rfl, rfl, L5, small1000 (by rw [List.length_map]; omega), ?_⟩
        have D5 := (D4.put (o := .lst ((((s0 :: sr).map V.str).eraseIdx r.toNat))) q4 nqd nqg nqc)
        have D6 := D5.put (o := .lst (ys.map V.str ++ [V.str x])) L5 nLd nLg nLc
        refine ⟨⟨(s0 :: sr).eraseIdx r.toNat, ys ++ [x], rfl, ?_, by rw [upd_same, List.map_append]; rfl, ?_, ?_, ?_⟩, ?_⟩
        · rw [upd_ne nqL, upd_same, map_erase]
        · refine List.Perm.trans ?_ hp
          rw [List.append_assoc]
          exact (perm_erase hx).append_left ys
        · rw [List.length_append]
          exact D6.mono (by show _ ≤ b + (ys.length + 1); omega)
        · exact fun a o n1 n2 ha => by
            rw [upd_ne (ne_of_none ha hL0), upd_ne (ne_of_none ha hq)]
            exact (k3.trans k4) a o n1 n2 ha
        · show (match (upd (upd H4 q _) L _) q with | some (.lst xs) => xs.length | _ => 0) < _
          rw [mq, upd_ne nqL, upd_same]
          show (((s0 :: sr).map V.str).eraseIdx r.toNat).length < _
          rw [List.length_eraseIdx, List.length_map, if_pos hri, List.length_cons]
          omega
    · exact fun σ H Q Q' hq ⟨v, e1, e2, f⟩ => ⟨v, e1, e2, fun e he => by
        obtain ⟨dd, ee, a1, a2, a3, a4, b, e3, h⟩ := f e he
        exact ⟨dd, ee, a1, a2, a3, a4, b, e3, hq _ _ h⟩⟩
/-! ### _law_claims -/
def Nm (H : Hp) (a : Addr) (ws : List Str) : Prop := H a = some (.lst (ws.map V.str)) ∧ ws ≠ [] ∧ ws.length ≤ 8 ∧ ∀ x ∈ ws, nameOk x = true
end
end Lw

set_option Elab.async false
set_option linter.all false
set_option maxRecDepth 100000
set_option maxHeartbeats 4000000
namespace Lw
open L2 hiding Ext
open PySem PySem.Spec PyProof.Rows Gn Gr Gk Go Gt Gf Gu
section
variable {P : Program} {w : World} {K : PySem.W.Frag} {mg : Str → Option Value} {base : Heap}
end
end Lw

set_option Elab.async false
set_option linter.all false
set_option maxRecDepth 100000
set_option maxHeartbeats 4000000
namespace Lw
open L2 hiding Ext
open PySem PySem.Spec PyProof.Rows Gn Gr Gk Go Gt Gf Gu
/-! ### what repr says of claims and balances -/
def cD (c : Str × Int) : PyData := .tuple [.str c.1, .int c.2]
def bD (bs : List (Str × Int)) : PyData := .dict (bs.map fun p => (.str p.1, .int p.2))
theorem dr_claims {H : Hp} : ∀ {xs : List V} {cs : List (Str × Int)}, CsAt H xs cs → DrAll H xs (cs.map cD)
  | [], [], _ => .nil
  | [], _ :: _, h => by have := h.1; simp at this
  | _ :: _, [], h => by have := h.1; simp at this
  | x :: xs, c :: cs, h => by
    obtain ⟨p, h1, h2⟩ := h.2 0 c rfl
    have h1 : some x = some (V.ref p) := h1
    cases h1
    exact .cons (.tup h2 (.cons (.str _) (.cons (.int _) .nil))) (dr_claims ⟨by have := h.1; simpa using this, fun i c' hc => h.2 (i + 1) c' (by simpa using hc)⟩)
theorem dr_bal {H : Hp} : ∀ (bs : List (Str × Int)), DrKv H (dB bs) (bs.map fun p => (.str p.1, .int p.2))
  | [] => .nil
  | p :: r => .cons (k := Sum.inr p.1) (.int _) (dr_bal r)
def Small (d : PyData) : Prop := d.showable = true ∧ d.depth ≤ 60 ∧ d.shown.length ≤ sizeLine
theorem ok_cD {c : Str × Int} (h1 : nameOk c.1 = true) (h2 : c.2.natAbs < 10 ^ 20) : Ok 1 (cD c) := ok_tuple (fun x hx => by
  rcases List.mem_cons.mp hx with rfl | hx
  · exact ok_str (name_asc19 h1)
  · rw [List.mem_singleton.mp hx]
    exact Gk.ok_int h2) (by show 2 ≤ 2; omega)
theorem small_claims {cs : List (Str × Int)} (hl : cs.length ≤ 100) (h : ∀ c ∈ cs, nameOk c.1 = true ∧ c.2.natAbs < 10 ^ 20) : Small (.list (cs.map cD)) := by
  obtain ⟨b1, b2, b3, b4⟩ := ok_all (n := 1) (ds := cs.map cD) fun x hx => by
    obtain ⟨c, hc, rfl⟩ := List.mem_map.mp hx
    exact ok_cD (h c hc).1 (h c hc).2
  have t := listText_len_le (PyData.shownAll (cs.map cD))
  rw [List.length_map] at b3 b4
  refine ⟨by simp only [PyData.showable, b1], by simp only [PyData.depth]; omega, ?_⟩
  simp only [PyData.shown]
  rw [sizeLine_eq]
  have e : cs.length * (200 * 4 ^ 1) ≤ 100 * (200 * 4 ^ 1) := Nat.mul_le_mul_right _ hl
  omega
theorem small_bal {bs : List (Str × Int)} (hl : bs.length ≤ 100) (h : ∀ c ∈ bs, nameOk c.1 = true ∧ c.2.natAbs < 10 ^ 20) : Small (bD bs) := by
  obtain ⟨b1, b2, b3, b4⟩ := ok_kvs (n := 0) (ds := bs.map fun p => (PyData.str p.1, PyData.int p.2)) fun x hx => by
    obtain ⟨c, hc, rfl⟩ := List.mem_map.mp hx
    exact ⟨⟨_, rfl, name_asc19 (h c hc).1⟩, Gk.ok_int (h c hc).2⟩
  have t := dictText_len_le (PyData.shownKv (bs.map fun p => (PyData.str p.1, PyData.int p.2)))
  rw [List.length_map] at b3 b4
  refine ⟨by simp only [bD, PyData.showable, b1], by simp only [bD, PyData.depth]; omega, ?_⟩
  simp only [bD, PyData.shown]
  rw [sizeLine_eq]
  have e : bs.length * (194 + 200 * 4 ^ 0) ≤ 100 * (194 + 200 * 4 ^ 0) := Nat.mul_le_mul_right _ hl
  omega
/-! ### what stands while draws go on -/
theorem FoAt.kp {C a d g c : Addr} {ns : List Int} {b : Nat} {H H' : Hp} {rs : List FRow} (h : FoAt C H a rs) (G : Good rs) (D : Dw ns d g c b H) (k : Kp d g H H') : FoAt C H' a rs := by
  obtain ⟨⟨gs, l, t, hd, hg, _, _⟩, _⟩ := D
  obtain ⟨dx, q, h1, h2⟩ := h
  refine ⟨dx, q, k _ _ (ne_of h1 hd (by intro z; cases z)) (ne_of h1 hg (by intro z; cases z)) h1, k _ _ (fun e => ?_) (ne_of h2 hg (by intro z; cases z)) h2⟩
  rw [e, hd] at h2
  injection h2 with h2
  injection h2 with h2
  cases rs with
  | nil => have := G.1; simp at this
  | cons r rs =>
    have h3 : (kG, V.ref g) = ((Sum.inr r.1 : Key), parV r.2) := (List.cons.inj h2).1
    have h4 : V.ref g = parV r.2 := (Prod.mk.inj h3).2
    cases e2 : r.2 with
    | none => rw [e2] at h4; cases h4
    | some m => rw [e2] at h4; cases h4
structure Gd3 (C : Addr) (H : Hp) (lr y ln : Addr) (rx : List V) (rs : List FRow) : Prop where
  r : H lr = some (.lst rx)
  R : RowsAt H rx rs
  F : FoAt C H y rs
  n : H ln = some (.lst ((fNames rs).map V.str))
theorem Gd3.ext {C : Addr} {H H' : Hp} {lr y ln : Addr} {rx : List V} {rs : List FRow} (h : Gd3 C H lr y ln rx rs) (k : Ext H H') : Gd3 C H' lr y ln rx rs := ⟨k _ _ h.r, h.R.ext k, h.F.ext k, k _ _ h.n⟩
theorem Gd3.kp {C : Addr} {ns : List Int} {d g c : Addr} {b : Nat} {H H' : Hp} {lr y ln : Addr} {rx : List V} {rs : List FRow} (h : Gd3 C H lr y ln rx rs) (G : Good rs) (D : Dw ns d g c b H) (k : Kp d g H H') (h1 : lr ≠ d) (h2 : lr ≠ g) (h3 : ln ≠ d) (h4 : ln ≠ g) : Gd3 C H' lr y ln rx rs :=
  ⟨k _ _ h1 h2 h.r, h.R.kp D k, h.F.kp G D k, k _ _ h3 h4 h.n⟩
theorem good_names {rs : List FRow} (G : Good rs) : fNames rs ≠ [] ∧ (fNames rs).length ≤ 8 ∧ (∀ x ∈ fNames rs, nameOk x = true) ∧ (fNames rs).Nodup := by
  have l : (fNames rs).length = rs.length := by unfold fNames; rw [List.length_map]
  refine ⟨fun e => ?_, by rw [l]; exact G.2.1, fun x hx => ?_, (good_nodup G.2.2).1⟩
  · rw [e] at l
    have := G.1
    simp at l
    omega
  · obtain ⟨r, hr, rfl⟩ := List.mem_map.mp hx
    exact (good_mem G.2.2 hr).1
theorem dp_intl {K : PySem.W.Frag} {H : Hp} {a : Addr} {ns : List Int} (h : H a = some (.lst (ns.map V.int))) : Dp K H (.ref a) (.list (ns.map PyData.int)) := .lst (SqL.of h) (dp_ints ns)
theorem eqv_same {d : PyData} (h : SeqAt.shaped d = true) : PyData.eqv d d = true := by
  rw [SeqAt.eqv_refl]
  exact SeqAt.canLay_of_shaped h
/-- five keywords in the other order -/
def gR5 : List Value → List Value → List Value
  | [], [a, b, c, d, e] => [e, d, c, b, a]
  | _, _ => []
def gR5V : List V → List V → List V
  | [], [a, b, c, d, e] => [e, d, c, b, a]
  | _, _ => []
theorem kb_rev5 {K : PySem.W.Frag} {fd : FuncData} {y1 y2 y3 y4 y5 : Str} (b : ∀ (s : Shared) (u1 u2 u3 u4 u5 : Value), BindsTo s fd ⟨[], [(y1, u1), (y2, u2), (y3, u3), (y4, u4), (y5, u5)]⟩ [(y5, u5), (y4, u4), (y3, u3), (y2, u2), (y1, u1)]) :
    KBinds K fd [y5, y4, y3, y2, y1] [y1, y2, y3, y4, y5] gR5 gR5V := by
  refine ⟨fun s us ws _ hl => ?_, fun r q => ?_⟩
  · match us, ws, hl with
    | [], [u1, u2, u3, u4, u5], _ => exact b s u1 u2 u3 u4 u5
    | [], [], hl => cases hl
    | [], [_], hl => cases hl
    | [], [_, _], hl => cases hl
    | [], [_, _, _], hl => cases hl
    | [], [_, _, _, _], hl => cases hl
    | [], _ :: _ :: _ :: _ :: _ :: _ :: _, hl => cases hl
    | _ :: _, _, hl => cases hl
  · cases r with
    | cons _ _ => exact .nil
    | nil =>
      cases q with
      | nil => exact .nil
      | cons q1 q => cases q with
        | nil => exact .nil
        | cons q2 q => cases q with
          | nil => exact .nil
          | cons q3 q => cases q with
            | nil => exact .nil
            | cons q4 q => cases q with
              | nil => exact .nil
              | cons q5 q => cases q with
                | nil => exact .cons q5 (.cons q4 (.cons q3 (.cons q2 (.cons q1 .nil))))
                | cons _ _ => exact .nil
theorem nm_last {ws : List Str} (h1 : ws ≠ []) : ∃ w9, atI (ws.map V.str) (-1) = some (.str w9) ∧ w9 ∈ ws := by
  rcases List.eq_nil_or_concat ws with e | ⟨r', w', e⟩
  · exact absurd e h1
  · refine ⟨w', ?_, by rw [e, List.concat_eq_append]; exact List.mem_append.mpr (.inr (List.mem_singleton.mpr rfl))⟩
    rw [e, List.concat_eq_append, List.map_append]
    exact atI_last _ _
/-- two keywords in the other order -/
def gSw : List Value → List Value → List Value
  | [], [x, y] => [y, x]
  | _, _ => []
def gSwV : List V → List V → List V
  | [], [x, y] => [y, x]
  | _, _ => []
theorem kb_swap {K : PySem.W.Frag} {fd : FuncData} {y z : Str} (b : ∀ (s : Shared) (u v : Value), BindsTo s fd ⟨[], [(y, u), (z, v)]⟩ [(z, v), (y, u)]) : KBinds K fd [z, y] [y, z] gSw gSwV := by
  refine ⟨fun s us ws _ hl => ?_, fun r q => ?_⟩
  · match us, ws, hl with
    | [], [u, v], _ => exact b s u v
    | [], [], hl => cases hl
    | [], [_], hl => cases hl
    | [], _ :: _ :: _ :: _, hl => cases hl
    | _ :: _, _, hl => cases hl
  · cases r with
    | nil =>
      cases q with
      | nil => exact .nil
      | cons q1 q2 =>
        cases q2 with
        | nil => exact .nil
        | cons q2 q3 =>
          cases q3 with
          | nil => exact .cons q2 (.cons q1 .nil)
          | cons _ _ => exact .nil
    | cons _ _ => exact .nil
/-- three keywords in the other order -/
def gR3 : List Value → List Value → List Value
  | [], [a, b, c] => [c, b, a]
  | _, _ => []
def gR3V : List V → List V → List V
  | [], [a, b, c] => [c, b, a]
  | _, _ => []
theorem kb_rev3 {K : PySem.W.Frag} {fd : FuncData} {y1 y2 y3 : Str} (b : ∀ (s : Shared) (u1 u2 u3 : Value), BindsTo s fd ⟨[], [(y1, u1), (y2, u2), (y3, u3)]⟩ [(y3, u3), (y2, u2), (y1, u1)]) :
    KBinds K fd [y3, y2, y1] [y1, y2, y3] gR3 gR3V := by
  refine ⟨fun s us ws _ hl => ?_, fun r q => ?_⟩
  · match us, ws, hl with
    | [], [u1, u2, u3], _ => exact b s u1 u2 u3
    | [], [], hl => cases hl
    | [], [_], hl => cases hl
    | [], [_, _], hl => cases hl
    | [], _ :: _ :: _ :: _ :: _, hl => cases hl
    | _ :: _, _, hl => cases hl
  · cases r with
    | cons _ _ => exact .nil
    | nil =>
      cases q with
      | nil => exact .nil
      | cons q1 q => cases q with
        | nil => exact .nil
        | cons q2 q => cases q with
          | nil => exact .nil
          | cons q3 q => cases q with
            | nil => exact .cons q3 (.cons q2 (.cons q1 .nil))
            | cons _ _ => exact .nil
/-- the words (c, d, b, a) for the parameters (a, b, c, d) -/
def gP4 : List Value → List Value → List Value
  | [], [c, d, b, a] => [a, b, c, d]
  | _, _ => []
def gP4V : List V → List V → List V
  | [], [c, d, b, a] => [a, b, c, d]
  | _, _ => []
theorem kb_p4 {K : PySem.W.Frag} {fd : FuncData} {ya yb yc yd : Str} (b : ∀ (s : Shared) (uc ud ub ua : Value), BindsTo s fd ⟨[], [(yc, uc), (yd, ud), (yb, ub), (ya, ua)]⟩ [(ya, ua), (yb, ub), (yc, uc), (yd, ud)]) :
    KBinds K fd [ya, yb, yc, yd] [yc, yd, yb, ya] gP4 gP4V := by
  refine ⟨fun s us ws _ hl => ?_, fun r q => ?_⟩
  · match us, ws, hl with
    | [], [u1, u2, u3, u4], _ => exact b s u1 u2 u3 u4
    | [], [], hl => cases hl
    | [], [_], hl => cases hl
    | [], [_, _], hl => cases hl
    | [], [_, _, _], hl => cases hl
    | [], _ :: _ :: _ :: _ :: _ :: _, hl => cases hl
    | _ :: _, _, hl => cases hl
  · cases r with
    | cons _ _ => exact .nil
    | nil =>
      cases q with
      | nil => exact .nil
      | cons q1 q => cases q with
        | nil => exact .nil
        | cons q2 q => cases q with
          | nil => exact .nil
          | cons q3 q => cases q with
            | nil => exact .nil
            | cons q4 q => cases q with
              | nil => exact .cons q4 (.cons q3 (.cons q1 (.cons q2 .nil)))
              | cons _ _ => exact .nil
/-! ### one balance put into the dict -/
def putB (bs : List (Str × Int)) (n : Str) (z : Int) : List (Str × Int) := if n ∈ bs.map (·.1) then bs.map (fun p => if p.1 = n then (p.1, z) else p) else bs ++ [(n, z)]
theorem dB_put (bs : List (Str × Int)) (n : Str) (z : Int) : putK (dB bs) (Sum.inr n : Key) (.int z) = dB (putB bs n z) := by
  unfold putB
  by_cases h : n ∈ bs.map (·.1)
  · rw [if_pos h]
    have e : ((dB bs).any fun kv => decide (kv.1 = (Sum.inr n : Key))) = true := by
      obtain ⟨p, hp, rfl⟩ := List.mem_map.mp h
      unfold dB
      rw [List.any_map, List.any_eq_true]
      exact ⟨p, hp, by simp⟩
    unfold putK
    rw [if_pos e]
    unfold dB
    rw [List.map_map, List.map_map]
    refine List.map_congr_left fun p hp => ?_
    show (if (Sum.inr p.1 : Key) = Sum.inr n then ((Sum.inr p.1 : Key), V.int z) else ((Sum.inr p.1 : Key), V.int p.2)) = _
    by_cases em : p.1 = n
    · rw [if_pos (by rw [em])]
      show _ = ((Sum.inr (if p.1 = n then (p.1, z) else p).1 : Key), V.int (if p.1 = n then (p.1, z) else p).2)
      rw [if_pos em]
    · rw [if_neg (fun q => em (Sum.inr.inj q))]
      show _ = ((Sum.inr (if p.1 = n then (p.1, z) else p).1 : Key), V.int (if p.1 = n then (p.1, z) else p).2)
      rw [if_neg em]
  · rw [if_neg h, putK_new _ (dB_none h)]
    unfold dB
    rw [List.map_append]
    rfl
theorem putB_keys (bs : List (Str × Int)) (n : Str) (z : Int) : (putB bs n z).map (·.1) = if n ∈ bs.map (·.1) then bs.map (·.1) else bs.map (·.1) ++ [n] := by
  unfold putB
  by_cases h : n ∈ bs.map (·.1)
  · rw [if_pos h, if_pos h, List.map_map]
    refine List.map_congr_left fun p hp => ?_
    show (if p.1 = n then (p.1, z) else p).1 = p.1
    by_cases e : p.1 = n
    · rw [if_pos e]
    · rw [if_neg e]
  · rw [if_neg h, if_neg h, List.map_append]
    rfl
theorem putB_mem {bs : List (Str × Int)} {n : Str} {z : Int} {q : Str × Int} (h : q ∈ putB bs n z) : q = (n, z) ∨ q ∈ bs := by
  unfold putB at h
  by_cases hn : n ∈ bs.map (·.1)
  · rw [if_pos hn] at h
    obtain ⟨p, hp, rfl⟩ := List.mem_map.mp h
    by_cases e : p.1 = n
    · rw [if_pos e, e]; exact .inl rfl
    · rw [if_neg e]; exact .inr hp
  · rw [if_neg hn] at h
    rcases List.mem_append.mp h with h | h
    · exact .inr h
    · exact .inl (List.mem_singleton.mp h)
theorem putB_ok {rs : List FRow} {bs : List (Str × Int)} {n : Str} {z : Int} (h : BsOk rs bs) (hn : n ∈ fNames rs) (z0 : 0 ≤ z) (z1 : z ≤ 1000000000000) : BsOk rs (putB bs n z) := by
  obtain ⟨⟨h1, h2⟩, h3⟩ := h
  refine ⟨⟨?_, fun q hq => ?_⟩, fun q hq => ?_⟩
  · rw [putB_keys]
    by_cases e : n ∈ bs.map (·.1)
    · rw [if_pos e]; exact h1
    · rw [if_neg e]
      refine List.nodup_append.mpr ⟨h1, by simp, fun a ha a' ha' => ?_⟩
      rw [List.mem_singleton] at ha'
      subst ha'
      exact fun q => e (q ▸ ha)
  · rcases putB_mem hq with rfl | hq
    · exact hn
    · exact h2 q hq
  · rcases putB_mem hq with rfl | hq
    · exact ⟨z0, z1⟩
    · exact h3 q hq
theorem bs_len {rs : List FRow} {bs : List (Str × Int)} (G : Good rs) (h : BsN rs bs) : bs.length ≤ 8 := by
  have l8 := (good_names G).2.1
  have := List.Nodup.length_le_of_subset h.1 (fun x hx => by
    obtain ⟨q, hq, rfl⟩ := List.mem_map.mp hx
    exact h.2 q hq : ∀ x ∈ bs.map (·.1), x ∈ fNames rs)
  rw [List.length_map] at this
  omega
theorem CsAt.take {H : Hp} {vs : List V} {cs : List (Str × Int)} (h : CsAt H vs cs) (k : Nat) : CsAt H (vs.take k) (cs.take k) := by
  refine ⟨by rw [List.length_take, List.length_take, h.1], fun i c hc => ?_⟩
  by_cases hik : i < k
  · rw [List.getElem?_take_of_lt hik] at hc ⊢
    exact h.2 i c hc
  · rw [List.getElem?_eq_none (by rw [List.length_take]; omega)] at hc
    cases hc
theorem take_set {α : Type} : ∀ (l : List α) (i : Nat) (x : α), i < l.length → l.take i ++ [x] ++ l.drop (i + 1) = l.set i x
  | [], i, x, h => by simp at h
  | a :: r, 0, x, _ => rfl
  | a :: r, i + 1, x, h => by
    show a :: (r.take i ++ [x] ++ r.drop (i + 1)) = a :: r.set i x
    rw [take_set r i x (by simpa using h)]
theorem cut_take (xs : List V) (i : Nat) (h : i ≤ xs.length) : cutV xs none (some (i : Nat)) = xs.take i := by
  unfold cutV
  have e : HT.sIx xs.length xs.length (some ((i : Nat) : Int)) = min i xs.length := HT.sIx_nat _ _ _
  rw [e]
  have e0 : HT.sIx xs.length 0 none = 0 := rfl
  rw [e0, Nat.min_eq_left h]
  rfl
/-- a dict's items, as data -/
def iD (q : Str × Int) : PyData := .tuple [.str q.1, .int q.2]
theorem dp_items {K : PySem.W.Frag} {H : Hp} {t : Str → Int} : ∀ {ts : List Addr} {ns : List Str}, Paired (fun a q => H a = some (.tup [kV q.1, q.2])) ts (dN ns t) → DpAll K H (ts.map V.ref) (ns.map fun n => iD (n, t n))
  | [], [], _ => .nil
  | [], _ :: _, h => by cases h
  | _ :: _, [], h => by cases h
  | a :: ts, n :: ns, h => by
    cases h with
    | cons h1 h2 => exact .cons (.tup (SqT.of h1) (.cons (.str _) (.cons (.int _) .nil))) (dp_items h2)
theorem iD_lay {q : Str × Int} (h : PyData.strOk q.1 = true) : (iD q).canLay0 = true ∧ (iD q).depth ≤ 2 := by
  constructor
  · simp [iD, PyData.canLay0, PyData.canLayAll0, h]
  · simp only [iD, PyData.depth, PyData.depthAll]; omega
theorem lay_items {t : Str → Int} : ∀ {ns : List Str}, (∀ n ∈ ns, PyData.strOk n = true) → PyData.canLayAll0 (ns.map fun n => iD (n, t n)) = true ∧ PyData.depthAll (ns.map fun n => iD (n, t n)) ≤ 2
  | [], _ => by constructor <;> simp [PyData.canLayAll0, PyData.depthAll]
  | n :: r, h => by
    obtain ⟨a1, a2⟩ := iD_lay (q := (n, t n)) (h n (List.mem_cons_self ..))
    obtain ⟨b1, b2⟩ := lay_items (t := t) (ns := r) fun y hy => h y (List.mem_cons_of_mem _ hy)
    constructor
    · simp [PyData.canLayAll0, a1, b1]
    · simp only [List.map_cons, PyData.depthAll]; omega
theorem shaped_items {t : Str → Int} {ns : List Str} (h : ∀ n ∈ ns, PyData.strOk n = true) : SeqAt.shaped (.list (ns.map fun n => iD (n, t n))) = true := by
  obtain ⟨b1, b2⟩ := lay_items (t := t) h
  have e : PyData.depth (.list (ns.map fun n => iD (n, t n))) = PyData.depthAll (ns.map fun n => iD (n, t n)) + 1 := by simp only [PyData.depth]
  unfold SeqAt.shaped
  rw [e]
  simp only [PyData.canLay0, b1, Bool.true_and, decide_eq_true_eq]
  omega
theorem dN_same {ns : List Str} {t : Str → Int} : ∀ p ∈ dN ns t, valV (dN ns t) p.1 = some p.2 ∧ flatB p.2 = true := fun p hp => by
  unfold dN at hp
  obtain ⟨n, hn, rfl⟩ := List.mem_map.mp hp
  exact ⟨dN_get hn, rfl⟩
end Lw

set_option Elab.async false
set_option linter.all false
set_option maxRecDepth 100000
set_option maxHeartbeats 4000000
namespace Lw
open L2 hiding Ext
open PySem PySem.Spec PyProof.Rows Gn Gr Gk Go Gt Gf Gu
/-! ### balances raised by deposits -/
def getB (bs : List (Str × Int)) (n : Str) : Int := match bs.find? (fun p => decide (p.1 = n)) with
  | some p => p.2
  | none => 0
def growS (bs : List (Str × Int)) (c : Str × Int) : List (Str × Int) := putB bs c.1 (getB bs c.1 + c.2)
def growB (bs cs : List (Str × Int)) : List (Str × Int) := cs.foldl growS bs
theorem growB_take {bs cs : List (Str × Int)} {i : Nat} {c : Str × Int} (h : cs[i]? = some c) : growB bs (cs.take (i + 1)) = growS (growB bs (cs.take i)) c := by
  unfold growB
  rw [take_snoc h, List.foldl_append]
  rfl
theorem putB_n {rs : List FRow} {bs : List (Str × Int)} {n : Str} {z : Int} (h : BsN rs bs) (hn : n ∈ fNames rs) : BsN rs (putB bs n z) := by
  obtain ⟨h1, h2⟩ := h
  refine ⟨?_, fun q hq => ?_⟩
  · rw [putB_keys]
    by_cases e : n ∈ bs.map (·.1)
    · rw [if_pos e]; exact h1
    · rw [if_neg e]
      refine List.nodup_append.mpr ⟨h1, by simp, fun a ha a' ha' => ?_⟩
      rw [List.mem_singleton] at ha'
      subst ha'
      exact fun q => e (q ▸ ha)
  · rcases putB_mem hq with rfl | hq
    · exact hn
    · exact h2 q hq
theorem growB_n {rs : List FRow} : ∀ {cs bs : List (Str × Int)}, BsN rs bs → (∀ c ∈ cs, c.1 ∈ fNames rs) → BsN rs (growB bs cs)
  | [], _, h, _ => h
  | c :: r, bs, h, hc => growB_n (cs := r) (bs := growS bs c) (putB_n h (hc c (List.mem_cons_self ..))) fun x hx => hc x (List.mem_cons_of_mem _ hx)
theorem dB_getB {bs : List (Str × Int)} {n : Str} (h : (bs.map (·.1)).Nodup) : (valV (dB bs) (Sum.inr n : Key) = some (.int (getB bs n)) ∧ n ∈ bs.map (·.1)) ∨ (valV (dB bs) (Sum.inr n : Key) = none ∧ getB bs n = 0) := by
  unfold getB
  cases e : bs.find? (fun p => decide (p.1 = n)) with
  | some p =>
    have hm := List.mem_of_find?_eq_some e
    have hp : p.1 = n := by simpa using List.find?_some e
    subst hp
    exact .inl ⟨dB_get h hm, List.mem_map.mpr ⟨p, hm, rfl⟩⟩
  | none =>
    refine .inr ⟨dB_none ?_, rfl⟩
    intro hn
    obtain ⟨p, hp, rfl⟩ := List.mem_map.mp hn
    have := List.find?_eq_none.mp e p hp
    simp at this
/-! ### totals of raised balances -/
def sumI (f : Str × Int → Int) : List (Str × Int) → Int
  | [] => 0
  | c :: r => f c + sumI f r
theorem sumI_app (f : Str × Int → Int) : ∀ (a b : List (Str × Int)), sumI f (a ++ b) = sumI f a + sumI f b
  | [], b => by show sumI f b = 0 + sumI f b; omega
  | c :: r, b => by
    show f c + sumI f (r ++ b) = f c + sumI f r + sumI f b
    rw [sumI_app f r b]; omega
theorem sumI_perm {f : Str × Int → Int} {a b : List (Str × Int)} (h : a.Perm b) : sumI f a = sumI f b := by
  induction h with
  | nil => rfl
  | cons x _ ih => show f x + _ = f x + _; rw [ih]
  | swap x y l => show f y + (f x + _) = f x + (f y + _); omega
  | trans _ _ h1 h2 => rw [h1, h2]
theorem addL_at : ∀ (ns : List Str) (t : Str → Int) (z : Int) (m : Str), addL t ns z m = t m + ((ns.count m : Nat) : Int) * z
  | [], t, z, m => by show t m = t m + ((0 : Nat) : Int) * z; simp
  | n :: r, t, z, m => by
    show addL (at_ t n (t n + z)) r z m = _
    rw [addL_at r, List.count_cons]
    unfold at_
    by_cases e : m = n
    · subst e
      simp
      rw [Int.add_mul]
      omega
    · rw [if_neg e]
      have : (n == m) = false := by simp; exact fun q => e q.symm
      rw [this]
      simp
def wgt (rs : List FRow) (m : Str) (c : Str × Int) : Int := (((anc rs c.1).count m : Nat) : Int) * c.2
theorem totF_from (rs : List FRow) (m : Str) : ∀ (bs : List (Str × Int)) (t : Str → Int), (bs.foldl (fun t p => addL t (anc rs p.1) p.2) t) m = t m + sumI (wgt rs m) bs
  | [], t => by show t m = t m + 0; omega
  | c :: r, t => by
    show (r.foldl _ (addL t (anc rs c.1) c.2)) m = t m + (wgt rs m c + sumI (wgt rs m) r)
    rw [totF_from rs m r, addL_at]
    unfold wgt
    omega
theorem totF_sum (rs : List FRow) (bs : List (Str × Int)) (m : Str) : totF rs bs m = sumI (wgt rs m) bs := by
  unfold totF
  rw [totF_from]
  omega
theorem getB_none {bs : List (Str × Int)} {n : Str} (h : n ∉ bs.map (·.1)) : getB bs n = 0 := by
  unfold getB
  have : bs.find? (fun p => decide (p.1 = n)) = none := by
    rw [List.find?_eq_none]
    intro p hp
    simp
    exact fun e => h (List.mem_map.mpr ⟨p, hp, e⟩)
  rw [this]
theorem getB_cons (p : Str × Int) (r : List (Str × Int)) (n : Str) : getB (p :: r) n = if p.1 = n then p.2 else getB r n := by
  unfold getB
  rw [List.find?_cons]
  by_cases e : p.1 = n
  · rw [if_pos e, decide_eq_true e]
  · rw [if_neg e, decide_eq_false e]
theorem map_same {n : Str} {z : Int} : ∀ {r : List (Str × Int)}, n ∉ r.map (·.1) → r.map (fun p => if p.1 = n then (p.1, z) else p) = r
  | [], _ => rfl
  | p :: r, h => by
    rw [List.map_cons, List.mem_cons, not_or] at h
    rw [List.map_cons, map_same h.2, if_neg fun e => h.1 e.symm]
theorem sum_map {k : Str → Int} {n : Str} {z : Int} : ∀ {bs : List (Str × Int)}, (bs.map (·.1)).Nodup → n ∈ bs.map (·.1) →
    sumI (fun c => k c.1 * c.2) (bs.map (fun p => if p.1 = n then (p.1, z) else p)) = sumI (fun c => k c.1 * c.2) bs + k n * (z - getB bs n)
  | [], _, h => by cases h
  | p :: r, hd, h => by
    rw [List.map_cons, List.nodup_cons] at hd
    rw [List.map_cons, getB_cons]
    by_cases e : p.1 = n
    · rw [if_pos e, if_pos e, map_same (by rw [← e]; exact hd.1)]
      show k p.1 * z + _ = k p.1 * p.2 + _ + _
      rw [e, Int.mul_sub]
      omega
    · rw [if_neg e, if_neg e]
      rw [List.map_cons, List.mem_cons] at h
      have h := h.resolve_left fun q => e q.symm
      show k p.1 * p.2 + _ = k p.1 * p.2 + _ + _
      rw [sum_map hd.2 h]
      omega
theorem sum_put {k : Str → Int} {bs : List (Str × Int)} {c : Str × Int} (h : (bs.map (·.1)).Nodup) : sumI (fun c => k c.1 * c.2) (growS bs c) = sumI (fun c => k c.1 * c.2) bs + k c.1 * c.2 := by
  unfold growS putB
  by_cases e : c.1 ∈ bs.map (·.1)
  · rw [if_pos e, sum_map h e]
    congr 2
    omega
  · rw [if_neg e, sumI_app, getB_none e]
    show _ + (k c.1 * (0 + c.2) + 0) = _
    rw [Int.zero_add]
    omega
theorem sum_grow {rs : List FRow} {k : Str → Int} : ∀ {cs bs : List (Str × Int)}, BsN rs bs → (∀ c ∈ cs, c.1 ∈ fNames rs) → sumI (fun c => k c.1 * c.2) (growB bs cs) = sumI (fun c => k c.1 * c.2) bs + sumI (fun c => k c.1 * c.2) cs
  | [], bs, _, _ => by show _ = _ + 0; unfold growB; simp
  | c :: r, bs, h, hc => by
    show sumI _ (growB (growS bs c) r) = _ + (k c.1 * c.2 + _)
    rw [sum_grow (cs := r) (bs := growS bs c) (putB_n h (hc c (List.mem_cons_self ..))) (fun x hx => hc x (List.mem_cons_of_mem _ hx)), sum_put h.1]
    omega
theorem totF_grow {rs : List FRow} {cs bs : List (Str × Int)} (h : BsN rs bs) (hc : ∀ c ∈ cs, c.1 ∈ fNames rs) (m : Str) : totF rs (growB bs cs) m = totF rs bs m + sumI (wgt rs m) cs := by
  rw [totF_sum, totF_sum]
  exact sum_grow (rs := rs) (k := fun n => (((anc rs n).count m : Nat) : Int)) h hc
theorem ent_perm {rs : List FRow} {ws cs ds bs : List (Str × Int)} (h : BsN rs bs) (p : cs.Perm ds) (hc : ∀ c ∈ ds, c.1 ∈ fNames rs) : entF rs (growB bs cs) ws = entF rs (growB bs ds) ws := by
  unfold entF
  have : totF rs (growB bs cs) = totF rs (growB bs ds) := by
    funext m
    rw [totF_grow h (fun c q => hc c (p.mem_iff.mp q)), totF_grow h hc, sumI_perm p]
  rw [this]
end Lw

set_option Elab.async false
set_option linter.all false
set_option maxRecDepth 100000
set_option maxHeartbeats 4000000
namespace Lw
open L2 hiding Ext
open PySem PySem.Spec PyProof.Rows Gn Gr Gk Go Gt Gf Gu
/-! ### ancestors -/
theorem row_of {rs : List FRow} {n : Str} (h : n ∈ fNames rs) : ∃ (i : Nat) (r : FRow), rs[i]? = some r ∧ r.1 = n := by
  obtain ⟨r, hr, e⟩ := List.mem_map.mp h
  obtain ⟨i, hi⟩ := List.mem_iff_getElem?.mp hr
  exact ⟨i, r, hi, e⟩
theorem name_at {rs : List FRow} {i : Nat} {r : FRow} (h : rs[i]? = some r) : r.1 ∈ fNames rs := List.mem_map.mpr ⟨r, List.mem_of_getElem? h, rfl⟩
theorem idx_eq {rs : List FRow} (g : Good rs) {i j : Nat} {r r' : FRow} (hi : rs[i]? = some r) (hj : rs[j]? = some r') (e : r.1 = r'.1) : i = j := by
  have h := (good_nodup g.2.2).1
  have a : (fNames rs)[i]? = some r.1 := by unfold fNames; rw [List.getElem?_map, hi]; rfl
  have b : (fNames rs)[j]? = some r.1 := by unfold fNames; rw [List.getElem?_map, hj]; rw [e]; rfl
  have il := (List.getElem?_eq_some_iff.mp a).1
  exact (List.getElem?_inj il h).mp (a.trans b.symm)
theorem par_at {rs : List FRow} (g : Good rs) {i : Nat} {r : FRow} (h : rs[i]? = some r) : parOf rs r.1 = r.2 := parOf_at (good_nodup g.2.2).1 (List.mem_of_getElem? h)
theorem anc_root {rs : List FRow} (g : Good rs) {i : Nat} {r : FRow} (h : rs[i]? = some r) (e : r.2 = none) : anc rs r.1 = [r.1] := by
  show ancF rs (7 + 1) r.1 = _
  rw [ancF_s, par_at g h, e]
  rfl
theorem anc_step {rs : List FRow} (g : Good rs) {i : Nat} {r : FRow} (h : rs[i]? = some r) {p : Str} (e : r.2 = some p) : ∃ (j : Nat) (r' : FRow), j < i ∧ rs[j]? = some r' ∧ r'.1 = p ∧ anc rs r.1 = r.1 :: anc rs p := by
  obtain ⟨j, r', hj, hr, rfl⟩ := par_idx g.2.2 h e
  have il := (List.getElem?_eq_some_iff.mp h).1
  have l8 := g.2.1
  refine ⟨j, r', hj, hr, rfl, ?_⟩
  show ancF rs (7 + 1) r.1 = _ :: ancF rs 8 r'.1
  rw [ancF_s, par_at g h, e]
  show r.1 :: ancF rs 7 r'.1 = _
  rw [ancF_fuel g.2.2 7 8 j r' hr (by omega) (by omega)]
/-- the index of an ancestor is no greater -/
theorem anc_idx {rs : List FRow} (g : Good rs) : ∀ (n i : Nat) (r : FRow), i < n → rs[i]? = some r → ∀ m ∈ anc rs r.1, ∃ (j : Nat) (r' : FRow), j ≤ i ∧ rs[j]? = some r' ∧ r'.1 = m
  | 0, _, _, h, _, _, _ => by omega
  | n + 1, i, r, hn, h, m, hm => by
    cases e : r.2 with
    | none =>
      rw [anc_root g h e, List.mem_singleton] at hm
      exact ⟨i, r, Nat.le_refl _, h, hm.symm⟩
    | some p =>
      obtain ⟨j, r', hj, hr, rfl, ea⟩ := anc_step g h e
      rw [ea] at hm
      rcases List.mem_cons.mp hm with rfl | hm
      · exact ⟨i, r, Nat.le_refl _, h, rfl⟩
      · obtain ⟨j2, r2, h1, h2, h3⟩ := anc_idx g n j r' (by omega) hr m hm
        exact ⟨j2, r2, by omega, h2, h3⟩
theorem anc_self {rs : List FRow} (g : Good rs) {n : Str} (h : n ∈ fNames rs) : n ∈ anc rs n := by
  show n ∈ ancF rs (7 + 1) n
  rw [ancF_s]
  exact List.mem_cons_self ..
theorem anc_anti {rs : List FRow} (g : Good rs) {v w : Str} (hv : v ∈ fNames rs) (hw : w ∈ fNames rs) (h1 : w ∈ anc rs v) (h2 : v ∈ anc rs w) : w = v := by
  obtain ⟨i, r, hi, rfl⟩ := row_of hv
  obtain ⟨j, q, hj, rfl⟩ := row_of hw
  obtain ⟨j', q', a1, a2, a3⟩ := anc_idx g _ i r (Nat.lt_succ_self _) hi _ h1
  obtain ⟨i', r', b1, b2, b3⟩ := anc_idx g _ j q (Nat.lt_succ_self _) hj _ h2
  have e1 := idx_eq g a2 hj a3
  have e2 := idx_eq g b2 hi b3
  have : i = j := by omega
  subst this
  rw [hi] at hj
  cases hj
  rfl
theorem anc_trans {rs : List FRow} (g : Good rs) : ∀ (n i : Nat) (r : FRow), i < n → rs[i]? = some r → ∀ w ∈ anc rs r.1, ∀ v ∈ anc rs w, v ∈ anc rs r.1
  | 0, _, _, h, _, _, _, _, _ => by omega
  | n + 1, i, r, hn, h, w, hw, v, hv => by
    cases e : r.2 with
    | none =>
      rw [anc_root g h e, List.mem_singleton] at hw
      subst hw
      exact hv
    | some p =>
      obtain ⟨j, r', hj, hr, rfl, ea⟩ := anc_step g h e
      rw [ea] at hw
      rcases List.mem_cons.mp hw with rfl | hw
      · exact hv
      · rw [ea]
        exact List.mem_cons_of_mem _ (anc_trans g n j r' (by omega) hr w hw v hv)
theorem anc_chain {rs : List FRow} (g : Good rs) : ∀ (n i : Nat) (r : FRow), i < n → rs[i]? = some r → ∀ w ∈ anc rs r.1, ∀ v ∈ anc rs r.1, w ∈ anc rs v ∨ v ∈ anc rs w
  | 0, _, _, h, _, _, _, _, _ => by omega
  | n + 1, i, r, hn, h, w, hw, v, hv => by
    cases e : r.2 with
    | none =>
      have hr := anc_self g (name_at h)
      rw [anc_root g h e, List.mem_singleton] at hw hv
      subst hw
      subst hv
      exact .inl hr
    | some p =>
      obtain ⟨j, r', hj, hr, rfl, ea⟩ := anc_step g h e
      have hw0 := hw
      have hv0 := hv
      rw [ea] at hw hv
      rcases List.mem_cons.mp hw with rfl | hw
      · exact .inr hv0
      · rcases List.mem_cons.mp hv with rfl | hv
        · exact .inl hw0
        · exact anc_chain g n j r' (by omega) hr w hw v hv
theorem anc_nd {rs : List FRow} (g : Good rs) : ∀ (n i : Nat) (r : FRow), i < n → rs[i]? = some r → (anc rs r.1).Nodup
  | 0, _, _, h, _ => by omega
  | n + 1, i, r, hn, h => by
    cases e : r.2 with
    | none =>
      rw [anc_root g h e]
      exact List.nodup_cons.mpr ⟨(by intro h; cases h), List.nodup_nil⟩
    | some p =>
      obtain ⟨j, r', hj, hr, rfl, ea⟩ := anc_step g h e
      rw [ea]
      refine List.nodup_cons.mpr ⟨fun hm => ?_, anc_nd g n j r' (by omega) hr⟩
      obtain ⟨j2, r2, h1, h2, h3⟩ := anc_idx g _ j r' (Nat.lt_succ_self _) hr _ hm
      have := idx_eq g h2 h h3
      omega
theorem cnt_is {m : Str} : ∀ {l : List Str}, l.Nodup → (l.count m : Nat) = if m ∈ l then 1 else 0
  | [], _ => by simp
  | n :: r, hn => by
    obtain ⟨h1, h2⟩ := List.nodup_cons.mp hn
    have ih := cnt_is (m := m) h2
    by_cases e : m = n
    · subst e
      rw [List.count_cons_self, ih, if_neg h1, if_pos (List.mem_cons_self ..)]
    · rw [List.count_cons_of_ne (fun h => e h.symm), ih]
      by_cases hm : m ∈ r
      · rw [if_pos hm, if_pos (List.mem_cons_of_mem _ hm)]
      · rw [if_neg hm, if_neg (fun h => (List.mem_cons.mp h).elim e hm)]
theorem cnt_anc {rs : List FRow} (g : Good rs) {a : Str} (h : a ∈ fNames rs) (m : Str) : ((anc rs a).count m : Nat) = if m ∈ anc rs a then 1 else 0 := by
  obtain ⟨i, r, hi, rfl⟩ := row_of h
  exact cnt_is (anc_nd g _ i r (Nat.lt_succ_self _) hi)
/-! ### sums over the accounts just inside one, or over the roots -/
def sumS (f : Str → Int) : List Str → Int
  | [] => 0
  | c :: r => f c + sumS f r
theorem sumS_add (f g : Str → Int) : ∀ l, sumS (fun u => f u + g u) l = sumS f l + sumS g l
  | [] => rfl
  | c :: r => by
    show f c + g c + _ = f c + _ + (g c + _)
    rw [sumS_add f g r]
    omega
theorem sumS_le {f g : Str → Int} : ∀ {l : List Str}, (∀ u ∈ l, f u ≤ g u) → sumS f l ≤ sumS g l
  | [], _ => Int.le_refl _
  | c :: r, h => by
    show f c + _ ≤ g c + _
    have := h c (List.mem_cons_self ..)
    have := sumS_le (l := r) fun u hu => h u (List.mem_cons_of_mem _ hu)
    omega
theorem sumS_mul (f : Str → Int) (z : Int) : ∀ l, sumS (fun u => f u * z) l = sumS f l * z
  | [] => by show (0 : Int) = 0 * z; omega
  | c :: r => by
    show f c * z + _ = (f c + _) * z
    rw [sumS_mul f z r, Int.add_mul]
theorem sumS_congr {f g : Str → Int} : ∀ {l : List Str}, (∀ u ∈ l, f u = g u) → sumS f l = sumS g l
  | [], _ => rfl
  | c :: r, h => by
    show f c + _ = g c + _
    rw [h c (List.mem_cons_self ..), sumS_congr fun u hu => h u (List.mem_cons_of_mem _ hu)]
def chl (rs : List FRow) (o : Option Str) : List Str := (fNames rs).filter fun u => decide (parOf rs u = o)
theorem chl_one {rs : List FRow} (g : Good rs) {a : Str} (h : a ∈ fNames rs) (o : Option Str) : sumS (fun u => if u = a then 1 else 0) (chl rs o) = if parOf rs a = o then 1 else 0 := by
  have nd := (good_nodup g.2.2).1
  unfold chl
  generalize fNames rs = l at h nd
  induction l with
  | nil => cases h
  | cons x r ih =>
    obtain ⟨h1, h2⟩ := List.nodup_cons.mp nd
    have zero : ∀ {l' : List Str}, a ∉ l' → sumS (fun u => if u = a then (1 : Int) else 0) l' = 0 := by
      intro l' hl
      induction l' with
      | nil => rfl
      | cons y t iht =>
        rw [List.mem_cons, not_or] at hl
        show (if y = a then (1 : Int) else 0) + _ = 0
        rw [if_neg (fun e => hl.1 e.symm), iht hl.2]
        rfl
    rcases List.mem_cons.mp h with rfl | h
    · have z := zero (l' := r.filter fun u => decide (parOf rs u = o)) fun hm => h1 (List.mem_filter.mp hm).1
      by_cases e : parOf rs a = o
      · rw [List.filter_cons_of_pos (by simpa using e), if_pos e]
        show (if a = a then (1 : Int) else 0) + _ = 1
        rw [if_pos rfl, z]
        rfl
      · rw [List.filter_cons_of_neg (by simpa using e), if_neg e, z]
    · have ne : x ≠ a := fun e => h1 (e ▸ h)
      have := ih h h2
      by_cases e : parOf rs x = o
      · rw [List.filter_cons_of_pos (by simpa using e)]
        show (if x = a then (1 : Int) else 0) + _ = _
        rw [if_neg ne, this]
        omega
      · rw [List.filter_cons_of_neg (by simpa using e), this]
def ownO (o : Option Str) (a : Str) : Int := match o with
  | none => 0
  | some v => if a = v then 1 else 0
def cntO (rs : List FRow) (o : Option Str) (a : Str) : Int := match o with
  | none => 1
  | some v => (((anc rs a).count v : Nat) : Int)
theorem cnt_cons (x v : Str) (l : List Str) : (((x :: l).count v : Nat) : Int) = (if v = x then 1 else 0) + ((l.count v : Nat) : Int) := by
  by_cases e : v = x
  · subst e
    rw [List.count_cons_self, if_pos rfl]
    omega
  · rw [List.count_cons_of_ne (fun h => e h.symm), if_neg e]
    omega
/-- an account counts at another one directly, or by one of those just inside it -/
theorem cnt_split {rs : List FRow} (g : Good rs) (o : Option Str) : ∀ (n i : Nat) (r : FRow), i < n → rs[i]? = some r → cntO rs o r.1 = ownO o r.1 + sumS (fun u => (((anc rs r.1).count u : Nat) : Int)) (chl rs o)
  | 0, _, _, h, _ => by omega
  | n + 1, i, r, hn, h => by
    have hm := name_at h
    have one := chl_one g hm o
    rw [par_at g h] at one
    cases e : r.2 with
    | none =>
      rw [e] at one
      have ea := anc_root g h e
      have e2 : sumS (fun u => (((anc rs r.1).count u : Nat) : Int)) (chl rs o) = if none = o then 1 else 0 := by
        rw [← one]
        refine sumS_congr fun u _ => ?_
        rw [ea, cnt_cons]
        simp
      rw [e2]
      cases o with
      | none => rfl
      | some v =>
        show (((anc rs r.1).count v : Nat) : Int) = (if r.1 = v then 1 else 0) + _
        have z0 : (if (none : Option Str) = some v then (1 : Int) else 0) = 0 := if_neg (by intro h; cases h)
        rw [ea, cnt_cons, z0]
        by_cases ev : v = r.1
        · rw [if_pos ev, if_pos ev.symm]; simp
        · rw [if_neg ev, if_neg (fun h => ev h.symm)]; simp
    | some p =>
      obtain ⟨j, r', hj, hr, rfl, ea⟩ := anc_step g h e
      rw [e] at one
      have ih := cnt_split g o n j r' (by omega) hr
      have e2 : sumS (fun u => (((anc rs r.1).count u : Nat) : Int)) (chl rs o) = (if some r'.1 = o then 1 else 0) + sumS (fun u => (((anc rs r'.1).count u : Nat) : Int)) (chl rs o) := by
        rw [← one, ← sumS_add]
        refine sumS_congr fun u _ => ?_
        rw [ea, cnt_cons]
      rw [e2]
      cases o with
      | none =>
        show (1 : Int) = 0 + _
        have ih : (1 : Int) = 0 + _ := ih
        have z0 : (if some r'.1 = (none : Option Str) then (1 : Int) else 0) = 0 := if_neg (by intro h; cases h)
        rw [z0]
        omega
      | some v =>
        show (((anc rs r.1).count v : Nat) : Int) = (if r.1 = v then 1 else 0) + _
        have ih : (((anc rs r'.1).count v : Nat) : Int) = (if r'.1 = v then 1 else 0) + _ := ih
        rw [ea, cnt_cons, ih]
        have e3 : (if v = r.1 then (1 : Int) else 0) = if r.1 = v then 1 else 0 := by
          by_cases ev : v = r.1
          · rw [if_pos ev, if_pos ev.symm]
          · rw [if_neg ev, if_neg (fun h => ev h.symm)]
        have e4 : (if some r'.1 = some v then (1 : Int) else 0) = if r'.1 = v then 1 else 0 := by
          by_cases ev : r'.1 = v
          · rw [if_pos ev, if_pos (by rw [ev])]
          · rw [if_neg ev, if_neg (fun h => ev (Option.some.inj h))]
        rw [e3, e4]
def wO (rs : List FRow) (o : Option Str) (c : Str × Int) : Int := cntO rs o c.1 * c.2
def oO (o : Option Str) (c : Str × Int) : Int := ownO o c.1 * c.2
theorem sum_split {rs : List FRow} (g : Good rs) (o : Option Str) : ∀ {l : List (Str × Int)}, (∀ c ∈ l, c.1 ∈ fNames rs) → sumI (wO rs o) l = sumI (oO o) l + sumS (fun u => sumI (wgt rs u) l) (chl rs o)
  | [], _ => by
    show (0 : Int) = 0 + _
    have : ∀ l : List Str, sumS (fun u => sumI (wgt rs u) []) l = 0 := by
      intro l
      induction l with
      | nil => rfl
      | cons x r ih => show (0 : Int) + _ = 0; rw [ih]; rfl
    rw [this]
    rfl
  | c :: r, h => by
    obtain ⟨i, q, hi, e⟩ := row_of (h c (List.mem_cons_self ..))
    have k := cnt_split g o _ i q (Nat.lt_succ_self _) hi
    rw [e] at k
    have ih := sum_split g o (l := r) fun x hx => h x (List.mem_cons_of_mem _ hx)
    show wO rs o c + _ = oO o c + _ + sumS (fun u => wgt rs u c + sumI (wgt rs u) r) _
    rw [sumS_add, ih]
    have : wO rs o c = oO o c + sumS (fun u => wgt rs u c) (chl rs o) := by
      unfold wO oO
      rw [k, Int.add_mul, ← sumS_mul]
      rfl
    omega
end Lw

set_option Elab.async false
set_option linter.all false
set_option maxRecDepth 100000
set_option maxHeartbeats 4000000
namespace Lw
open L2 hiding Ext
open PySem PySem.Spec PyProof.Rows Gn Gr Gk Go Gt Gf Gu
/-! ### grants, with their accounts -/
def grF (rs : List FRow) : (Str → Int) → List (Str × Int) → List (Str × Int)
  | _, [] => []
  | t, c :: r => (c.1, minL c.2 ((anc rs c.1).map t)) :: grF rs (addL t (anc rs c.1) (-minL c.2 ((anc rs c.1).map t))) r
theorem run_gr (rs : List FRow) : ∀ (cs : List (Str × Int)) (t : Str → Int) (o : List Int), (cs.foldl (eStep rs) (t, o)).2 = o ++ (grF rs t cs).map (·.2)
  | [], t, o => by simp [grF]
  | c :: r, t, o => by
    show (r.foldl (eStep rs) (addL t (anc rs c.1) (-minL c.2 ((anc rs c.1).map t)), o ++ [minL c.2 ((anc rs c.1).map t)])).2 = o ++ (minL c.2 ((anc rs c.1).map t) :: (grF rs _ r).map (·.2))
    rw [run_gr rs r, List.append_assoc]
    rfl
theorem ent_gr (rs : List FRow) (bs cs : List (Str × Int)) : entF rs bs cs = (grF rs (totF rs bs) cs).map (·.2) := by
  unfold entF eRun
  rw [run_gr, List.nil_append]
theorem gr_fst (rs : List FRow) : ∀ (cs : List (Str × Int)) (t : Str → Int), (grF rs t cs).map (·.1) = cs.map (·.1)
  | [], _ => rfl
  | c :: r, t => by
    show c.1 :: _ = c.1 :: _
    rw [gr_fst rs r]
theorem gr_len (rs : List FRow) (cs : List (Str × Int)) (t : Str → Int) : (grF rs t cs).length = cs.length := by
  have := congrArg List.length (gr_fst rs cs t)
  rwa [List.length_map, List.length_map] at this
theorem gr_at {rs : List FRow} : ∀ {cs : List (Str × Int)} {t : Str → Int} {k : Nat} {c : Str × Int}, cs[k]? = some c →
    (grF rs t cs)[k]? = some (c.1, minL c.2 ((anc rs c.1).map fun m => t m - sumI (wgt rs m) ((grF rs t cs).take k)))
  | [], _, _, _, h => by cases h
  | a :: r, t, 0, c, h => by
    cases h
    show some (a.1, minL a.2 ((anc rs a.1).map t)) = some (a.1, minL a.2 ((anc rs a.1).map fun m => t m - 0))
    congr 4
    funext m
    omega
  | a :: r, t, k + 1, c, h => by
    have h : r[k]? = some c := by simpa using h
    have ih := gr_at (rs := rs) (t := addL t (anc rs a.1) (-minL a.2 ((anc rs a.1).map t))) h
    show (grF rs _ r)[k]? = _
    rw [ih]
    congr 4
    funext m
    show addL t (anc rs a.1) (-minL a.2 ((anc rs a.1).map t)) m - _ = t m - (wgt rs m (a.1, minL a.2 ((anc rs a.1).map t)) + _)
    rw [addL_at, Int.mul_neg]
    have z : ∀ A B C : Int, A + -B - C = A - (B + C) := by omega
    exact z _ _ _
theorem gr_pre {rs : List FRow} : ∀ (cs : List (Str × Int)) (t : Str → Int) (k : Nat), grF rs t (cs.take k) = (grF rs t cs).take k
  | [], t, k => by simp [grF]
  | c :: r, t, 0 => rfl
  | c :: r, t, k + 1 => by
    show _ :: grF rs _ (r.take k) = _ :: (grF rs _ r).take k
    rw [gr_pre r]
theorem sumI_snoc (f : Str × Int → Int) {l : List (Str × Int)} {k : Nat} {c : Str × Int} (h : l[k]? = some c) : sumI f (l.take (k + 1)) = sumI f (l.take k) + f c := by
  rw [take_snoc h, sumI_app]
  show _ + (f c + 0) = _
  omega
theorem sumI_up {f : Str × Int → Int} {l : List (Str × Int)} (h : ∀ c ∈ l, 0 ≤ f c) {k : Nat} : ∀ {d : Nat}, sumI f (l.take k) ≤ sumI f (l.take (k + d))
  | 0 => Int.le_refl _
  | d + 1 => by
    have ih := sumI_up h (k := k) (d := d)
    show _ ≤ sumI f (l.take (k + d + 1))
    cases e : l[k + d]? with
    | none =>
      have hl := List.getElem?_eq_none_iff.mp e
      rw [List.take_of_length_le hl] at ih
      rw [List.take_of_length_le (Nat.le_trans hl (Nat.le_succ _))]
      exact ih
    | some c =>
      rw [sumI_snoc f e]
      have := h c (List.mem_of_getElem? e)
      omega
theorem sumI_le2 {f : Str × Int → Int} : ∀ {xs ys : List (Str × Int)}, xs.length = ys.length → (∀ (q : Nat) p p', xs[q]? = some p → ys[q]? = some p' → f p' ≤ f p) → sumI f ys ≤ sumI f xs
  | [], [], _, _ => Int.le_refl _
  | [], _ :: _, h, _ => by cases h
  | _ :: _, [], h, _ => by cases h
  | x :: xs, y :: ys, h, k => by
    show f y + _ ≤ f x + _
    have := k 0 x y rfl rfl
    have := sumI_le2 (f := f) (xs := xs) (ys := ys) (by simpa using h) fun q p p' h1 h2 => k (q + 1) p p' (by simpa using h1) (by simpa using h2)
    omega
theorem sumI_nn {f : Str × Int → Int} : ∀ {l : List (Str × Int)}, (∀ c ∈ l, 0 ≤ f c) → 0 ≤ sumI f l
  | [], _ => Int.le_refl _
  | c :: r, h => by
    have := h c (List.mem_cons_self ..)
    have := sumI_nn (l := r) fun x hx => h x (List.mem_cons_of_mem _ hx)
    show 0 ≤ f c + _
    omega
theorem wgt_in {rs : List FRow} (g : Good rs) {a m : Str} {x : Int} (h : a ∈ fNames rs) (hm : m ∈ anc rs a) : wgt rs m (a, x) = x := by
  unfold wgt
  rw [cnt_anc g h, if_pos hm]
  show (1 : Int) * x = x
  omega
theorem wgt_out {rs : List FRow} (g : Good rs) {a m : Str} {x : Int} (h : a ∈ fNames rs) (hm : m ∉ anc rs a) : wgt rs m (a, x) = 0 := by
  unfold wgt
  rw [cnt_anc g h, if_neg hm]
  show (0 : Int) * x = 0
  omega
theorem gr_of {rs : List FRow} {cs : List (Str × Int)} {t : Str → Int} {k : Nat} {p : Str × Int} (h : (grF rs t cs)[k]? = some p) : ∃ c, cs[k]? = some c ∧ p = (c.1, minL c.2 ((anc rs c.1).map fun m => t m - sumI (wgt rs m) ((grF rs t cs).take k))) := by
  have hl := (List.getElem?_eq_some_iff.mp h).1
  rw [gr_len] at hl
  refine ⟨_, List.getElem?_eq_getElem hl, ?_⟩
  rw [gr_at (List.getElem?_eq_getElem hl)] at h
  exact (Option.some.inj h).symm
/-- no account is overdrawn, nothing below 0 is granted -/
theorem gr_feas {rs : List FRow} (g : Good rs) {cs : List (Str × Int)} {t : Str → Int} (ht : ∀ m, 0 ≤ t m) (hc : ∀ c ∈ cs, c.1 ∈ fNames rs ∧ 0 ≤ c.2) : ∀ k m, sumI (wgt rs m) ((grF rs t cs).take k) ≤ t m
  | 0, m => ht m
  | k + 1, m => by
    have ih := gr_feas g ht hc k
    cases e : (grF rs t cs)[k]? with
    | none =>
      have hl := List.getElem?_eq_none_iff.mp e
      have := ih m
      rw [List.take_of_length_le hl] at this
      rw [List.take_of_length_le (Nat.le_trans hl (Nat.le_succ _))]
      exact this
    | some p =>
      rw [sumI_snoc _ e]
      obtain ⟨c, h1, rfl⟩ := gr_of e
      have cm := (hc c (List.mem_of_getElem? h1)).1
      have := ih m
      by_cases hm : m ∈ anc rs c.1
      · rw [wgt_in g cm hm]
        have := (minL_le ((anc rs c.1).map fun m => t m - sumI (wgt rs m) ((grF rs t cs).take k)) c.2).2 _ (List.mem_map.mpr ⟨m, hm, rfl⟩)
        omega
      · rw [wgt_out g cm hm]
        omega
theorem gr_pos {rs : List FRow} (g : Good rs) {cs : List (Str × Int)} {t : Str → Int} (ht : ∀ m, 0 ≤ t m) (hc : ∀ c ∈ cs, c.1 ∈ fNames rs ∧ 0 ≤ c.2) : ∀ p ∈ grF rs t cs, p.1 ∈ fNames rs ∧ 0 ≤ p.2 := fun p hp => by
  obtain ⟨k, hk⟩ := List.mem_iff_getElem?.mp hp
  obtain ⟨c, h1, rfl⟩ := gr_of hk
  obtain ⟨cm, c0⟩ := hc c (List.mem_of_getElem? h1)
  refine ⟨cm, ?_⟩
  show 0 ≤ minL _ _
  rcases minL_mem ((anc rs c.1).map fun m => t m - sumI (wgt rs m) ((grF rs t cs).take k)) c.2 with e | e
  · rw [e]; exact c0
  · obtain ⟨m, _, e⟩ := List.mem_map.mp e
    rw [← e]
    have := gr_feas g ht hc k m
    omega
theorem wgt_nn {rs : List FRow} {l : List (Str × Int)} (h : ∀ p ∈ l, 0 ≤ p.2) (m : Str) : ∀ p ∈ l, 0 ≤ wgt rs m p := fun p hp => Int.mul_nonneg (Int.natCast_nonneg _) (h p hp)
/-! ### more money, smaller claims -/
section
variable {rs : List FRow} (g : Good rs) {t t' : Str → Int} {es cs cs' : List (Str × Int)}
include g in
/-- what the gainers gain at an account is no more than what is added there, if each of them was held at or inside it -/
theorem up_L {X Y : List (Str × Int)} (hl : Y.length = X.length) (hX : ∀ p ∈ X, p.1 ∈ fNames rs) (hY : ∀ p ∈ Y, p.1 ∈ fNames rs) (hE : ∀ p ∈ es, p.1 ∈ fNames rs ∧ 0 ≤ p.2) (hXY : ∀ (q : Nat) p p', X[q]? = some p → Y[q]? = some p' → p'.1 = p.1)
    (hf : ∀ m, sumI (wgt rs m) Y ≤ t m + sumI (wgt rs m) es) : ∀ (n i : Nat) (r : FRow), rs.length - i < n → rs[i]? = some r →
    (∀ (q : Nat) p p', X[q]? = some p → Y[q]? = some p' → r.1 ∈ anc rs p.1 → p.2 < p'.2 → ∃ w ∈ anc rs p.1, r.1 ∈ anc rs w ∧ sumI (wgt rs w) X = t w) →
    sumI (wgt rs r.1) Y ≤ sumI (wgt rs r.1) X + sumI (wgt rs r.1) es
  | 0, _, _, h, _, _ => by omega
  | n + 1, i, r, hn, hi, H => by
    by_cases ti : sumI (wgt rs r.1) X = t r.1
    · rw [ti]; exact hf r.1
    have hrn := name_at hi
    have eX : sumI (wgt rs r.1) X = sumI (oO (some r.1)) X + sumS (fun u => sumI (wgt rs u) X) (chl rs (some r.1)) := sum_split g (some r.1) hX
    have eY : sumI (wgt rs r.1) Y = sumI (oO (some r.1)) Y + sumS (fun u => sumI (wgt rs u) Y) (chl rs (some r.1)) := sum_split g (some r.1) hY
    have eE : sumI (wgt rs r.1) es = sumI (oO (some r.1)) es + sumS (fun u => sumI (wgt rs u) es) (chl rs (some r.1)) := sum_split g (some r.1) fun p hp => (hE p hp).1
    have own : sumI (oO (some r.1)) Y ≤ sumI (oO (some r.1)) X := sumI_le2 hl.symm fun q p p' h1 h2 => by
      have e := hXY q p p' h1 h2
      unfold oO
      rw [e]
      show (if p.1 = r.1 then (1 : Int) else 0) * p'.2 ≤ (if p.1 = r.1 then (1 : Int) else 0) * p.2
      by_cases ev : p.1 = r.1
      · rw [if_pos ev]
        by_cases lt : p.2 < p'.2
        · obtain ⟨w, w1, w2, w3⟩ := H q p p' h1 h2 (by rw [ev]; exact anc_self g hrn) lt
          rw [ev] at w1
          have wn : w ∈ fNames rs := by
            obtain ⟨j, r', _, hj, rfl⟩ := anc_idx g _ i r (Nat.lt_succ_self _) hi _ w1
            exact name_at hj
          have := anc_anti g hrn wn w1 w2
          subst this
          exact absurd w3 ti
        · omega
      · rw [if_neg ev]; omega
    have ownE : 0 ≤ sumI (oO (some r.1)) es := sumI_nn fun p hp => by
      show 0 ≤ (if p.1 = r.1 then (1 : Int) else 0) * p.2
      have := (hE p hp).2
      split <;> omega
    have chs : sumS (fun u => sumI (wgt rs u) Y) (chl rs (some r.1)) ≤ sumS (fun u => sumI (wgt rs u) X + sumI (wgt rs u) es) (chl rs (some r.1)) := sumS_le fun u hu => by
      obtain ⟨u1, u2⟩ := List.mem_filter.mp hu
      have u2 := of_decide_eq_true u2
      obtain ⟨j, r', hj, rfl⟩ := row_of u1
      rw [par_at g hj] at u2
      obtain ⟨i', r2, lt, h2, e2, ea⟩ := anc_step g hj u2
      have ii := idx_eq g h2 hi e2
      have jl := (List.getElem?_eq_some_iff.mp hj).1
      refine up_L hl hX hY hE hXY hf n j r' (by omega) hj fun q p p' h1 h2 hm lt2 => ?_
      have pn := hX p (List.mem_of_getElem? h1)
      obtain ⟨ip, rp, hip, ep⟩ := row_of pn
      have vm : r.1 ∈ anc rs p.1 := by
        rw [← ep] at hm ⊢
        exact anc_trans g _ ip rp (Nat.lt_succ_self _) hip r'.1 hm r.1 (by rw [ea]; exact List.mem_cons_of_mem _ (anc_self g hrn))
      obtain ⟨w, w1, w2, w3⟩ := H q p p' h1 h2 vm lt2
      have wn : w ∈ fNames rs := by
        rw [← ep] at w1
        obtain ⟨j, r', _, hj, rfl⟩ := anc_idx g _ ip rp (Nat.lt_succ_self _) hip _ w1
        exact name_at hj
      refine ⟨w, w1, ?_, w3⟩
      rw [← ep] at w1 hm
      rcases anc_chain g _ ip rp (Nat.lt_succ_self _) hip w w1 r'.1 hm with h | h
      · rw [ea] at h
        rcases List.mem_cons.mp h with rfl | h
        · exact anc_self g (name_at hj)
        · have := anc_anti g hrn wn h w2
          subst this
          exact absurd w3 ti
      · exact h
    rw [sumS_add] at chs
    omega
include g in
theorem up_tight {X : List (Str × Int)} (ht : ∀ m, 0 ≤ t m) (hc : ∀ c ∈ cs, c.1 ∈ fNames rs ∧ 0 ≤ c.2) {q k : Nat} {c : Str × Int} {x : Int} (hq : cs[q]? = some c) (hx : (grF rs t cs)[q]? = some (c.1, x)) (lt : x < c.2) (hk : q < k) :
    ∃ w ∈ anc rs c.1, sumI (wgt rs w) ((grF rs t cs).take k) = t w := by
  have cm := (hc c (List.mem_of_getElem? hq)).1
  have e := gr_at (t := t) (rs := rs) hq
  rw [hx] at e
  have e := (Prod.mk.inj (Option.some.inj e)).2
  rcases minL_mem ((anc rs c.1).map fun m => t m - sumI (wgt rs m) ((grF rs t cs).take q)) c.2 with h | h
  · omega
  · rw [← e] at h
    obtain ⟨w, w1, w2⟩ := List.mem_map.mp h
    refine ⟨w, w1, ?_⟩
    have s1 := sumI_snoc (wgt rs w) hx
    rw [wgt_in g cm w1] at s1
    have s2 := sumI_up (f := wgt rs w) (l := grF rs t cs) (wgt_nn (fun p hp => (gr_pos g ht hc p hp).2) w) (k := q + 1) (d := k - (q + 1))
    rw [show q + 1 + (k - (q + 1)) = k by omega] at s2
    have s3 := gr_feas g ht hc k w
    omega
include g in
/-- what all gainers gain is no more than what is added -/
theorem up_all {X Y : List (Str × Int)} (hl : Y.length = X.length) (hX : ∀ p ∈ X, p.1 ∈ fNames rs) (hY : ∀ p ∈ Y, p.1 ∈ fNames rs) (hE : ∀ p ∈ es, p.1 ∈ fNames rs ∧ 0 ≤ p.2) (hXY : ∀ (q : Nat) p p', X[q]? = some p → Y[q]? = some p' → p'.1 = p.1)
    (hf : ∀ m, sumI (wgt rs m) Y ≤ t m + sumI (wgt rs m) es) (H : ∀ (q : Nat) p p', X[q]? = some p → Y[q]? = some p' → p.2 < p'.2 → ∃ w ∈ anc rs p.1, sumI (wgt rs w) X = t w) :
    sumI (wO rs none) Y ≤ sumI (wO rs none) X + sumI (wO rs none) es := by
  have eX := sum_split g none hX
  have eY := sum_split g none hY
  have eE := sum_split g none fun p hp => (hE p hp).1
  have zero : ∀ l : List (Str × Int), sumI (oO none) l = 0 := by
    intro l
    induction l with
    | nil => rfl
    | cons c r ih =>
      show (0 : Int) * c.2 + _ = 0
      rw [ih]; omega
  rw [zero] at eX eY eE
  have chs : sumS (fun u => sumI (wgt rs u) Y) (chl rs none) ≤ sumS (fun u => sumI (wgt rs u) X + sumI (wgt rs u) es) (chl rs none) := sumS_le fun u hu => by
    obtain ⟨u1, u2⟩ := List.mem_filter.mp hu
    have u2 := of_decide_eq_true u2
    obtain ⟨j, r', hj, rfl⟩ := row_of u1
    rw [par_at g hj] at u2
    refine up_L g hl hX hY hE hXY hf _ j r' (Nat.lt_succ_self _) hj fun q p p' h1 h2 hm lt2 => ?_
    obtain ⟨w, w1, w3⟩ := H q p p' h1 h2 lt2
    refine ⟨w, w1, ?_, w3⟩
    obtain ⟨ip, rp, hip, ep⟩ := row_of (hX p (List.mem_of_getElem? h1))
    rw [← ep] at w1 hm
    rcases anc_chain g _ ip rp (Nat.lt_succ_self _) hip w w1 r'.1 hm with h | h
    · rw [anc_root g hj u2, List.mem_singleton] at h
      rw [h]
      exact anc_self g (name_at hj)
    · exact h
  rw [sumS_add] at chs
  omega
variable (ht : ∀ m, 0 ≤ t m) (hE : ∀ p ∈ es, p.1 ∈ fNames rs ∧ 0 ≤ p.2) (htt : ∀ m, t' m = t m + sumI (wgt rs m) es) (hc : ∀ c ∈ cs, c.1 ∈ fNames rs ∧ 0 ≤ c.2) (hc' : ∀ c ∈ cs', c.1 ∈ fNames rs ∧ 0 ≤ c.2) (hl : cs'.length = cs.length) (hcc : ∀ (i : Nat) c c', cs[i]? = some c → cs'[i]? = some c' → c'.1 = c.1 ∧ c'.2 ≤ c.2)
include ht hE htt in
theorem up_t' (m : Str) : 0 ≤ t' m := by
  rw [htt]
  have := ht m
  have := sumI_nn (wgt_nn (rs := rs) (fun p hp => (hE p hp).2) m)
  omega
include hcc in
theorem up_acc {k : Nat} (q : Nat) (p p' : Str × Int) (h1 : ((grF rs t cs).take k)[q]? = some p) (h2 : ((grF rs t' cs').take k)[q]? = some p') : p'.1 = p.1 ∧ q < k := by
  have hq : q < k := by
    have := (List.getElem?_eq_some_iff.mp h1).1
    rw [List.length_take] at this
    omega
  rw [List.getElem?_take_of_lt hq] at h1 h2
  obtain ⟨c, e1, rfl⟩ := gr_of h1
  obtain ⟨c', e2, rfl⟩ := gr_of h2
  exact ⟨(hcc q c c' e1 e2).1, hq⟩
include g ht hE htt hc hc' hl hcc in
theorem up_gain {k q : Nat} {p p' : Str × Int} (h1 : ((grF rs t cs).take k)[q]? = some p) (h2 : ((grF rs t' cs').take k)[q]? = some p') (lt : p.2 < p'.2) : ∃ w ∈ anc rs p.1, sumI (wgt rs w) ((grF rs t cs).take k) = t w := by
  obtain ⟨e, hq⟩ := up_acc hcc q p p' h1 h2
  rw [List.getElem?_take_of_lt hq] at h1 h2
  obtain ⟨c, e1, ep⟩ := gr_of h1
  obtain ⟨c', e2, ep'⟩ := gr_of h2
  have le : p'.2 ≤ c'.2 := by rw [ep']; exact (minL_le _ _).1
  have := (hcc q c c' e1 e2).2
  have ea : p.1 = c.1 := by rw [ep]
  rw [ea]
  exact up_tight (X := []) g ht hc e1 (x := p.2) (by rw [h1, ← ea]) (by omega) hq
include g ht hE htt hc hc' hl hcc in
/-- a claim that stays as it is gets no less -/
theorem ent_up {k : Nat} {c : Str × Int} {x y : Int} (hk : cs[k]? = some c) (hk' : cs'[k]? = some c) (hx : (grF rs t cs)[k]? = some (c.1, x)) (hy : (grF rs t' cs')[k]? = some (c.1, y)) : x ≤ y := by
  refine Int.not_lt.mp fun lt => ?_
  have ht' := up_t' ht hE htt
  have cm := (hc c (List.mem_of_getElem? hk)).1
  obtain ⟨i, r, hi, er⟩ := row_of cm
  have ex := gr_at (t := t) (rs := rs) hk
  rw [hx] at ex
  have ex := (Prod.mk.inj (Option.some.inj ex)).2
  have ey := gr_at (t := t') (rs := rs) hk'
  rw [hy] at ey
  have ey := (Prod.mk.inj (Option.some.inj ey)).2
  have xle := minL_le ((anc rs c.1).map fun m => t m - sumI (wgt rs m) ((grF rs t cs).take k)) c.2
  rw [← ex] at xle
  have y0 : 0 ≤ y := (gr_pos g ht' hc' _ (List.mem_of_getElem? hy)).2
  rcases minL_mem ((anc rs c.1).map fun m => t' m - sumI (wgt rs m) ((grF rs t' cs').take k)) c.2 with h | h
  · rw [← ey] at h
    omega
  · rw [← ey] at h
    obtain ⟨v, v1, v2⟩ := List.mem_map.mp h
    have xv := xle.2 _ (List.mem_map.mpr ⟨v, v1, rfl⟩)
    rw [htt] at v2
    obtain ⟨iv, rv, hiv, ev⟩ : ∃ (iv : Nat) (rv : FRow), rs[iv]? = some rv ∧ rv.1 = v := by
      rw [← er] at v1
      obtain ⟨j, r', _, hj, e⟩ := anc_idx g _ i r (Nat.lt_succ_self _) hi _ v1
      exact ⟨j, r', hj, e⟩
    subst ev
    have L := up_L (t := t) (es := es) (X := (grF rs t cs).take k) (Y := (grF rs t' cs').take k) g (by rw [List.length_take, List.length_take, gr_len, gr_len, hl]) (fun p hp => (gr_pos g ht hc p (List.mem_of_mem_take hp)).1) (fun p hp => (gr_pos g ht' hc' p (List.mem_of_mem_take hp)).1) hE (fun q p p' h1 h2 => (up_acc hcc q p p' h1 h2).1) (fun m => by rw [← htt]; exact gr_feas g ht' hc' k m) _ iv rv (Nat.lt_succ_self _) hiv fun q p p' h1 h2 hm lt2 => by
      obtain ⟨w, w1, w3⟩ := up_gain g ht hE htt hc hc' hl hcc h1 h2 lt2
      refine ⟨w, w1, ?_, w3⟩
      obtain ⟨ip, rp, hip, ep⟩ := row_of (gr_pos g ht hc p (List.mem_of_mem_take (List.mem_of_getElem? h1))).1
      rw [← ep] at w1 hm
      rcases anc_chain g _ ip rp (Nat.lt_succ_self _) hip w w1 rv.1 hm with h | h
      · exfalso
        have wa : w ∈ anc rs c.1 := by
          rw [← er] at v1 ⊢
          exact anc_trans g _ i r (Nat.lt_succ_self _) hi rv.1 v1 w h
        have := xle.2 _ (List.mem_map.mpr ⟨w, wa, rfl⟩)
        omega
      · exact h
    omega
theorem wO_none (rs : List FRow) : ∀ l : List (Str × Int), sumI (wO rs none) l = sumI (fun c => c.2) l
  | [] => rfl
  | c :: r => by
    show (1 : Int) * c.2 + _ = c.2 + _
    rw [wO_none rs r]; omega
include g ht hE htt hc hc' hl hcc in
/-- all together get no more than what is added -/
theorem ent_sum : sumI (fun c => c.2) (grF rs t' cs') ≤ sumI (fun c => c.2) (grF rs t cs) + sumI (fun c => c.2) es := by
  have ht' := up_t' ht hE htt
  have eX : (grF rs t cs).take cs.length = grF rs t cs := List.take_of_length_le (by rw [gr_len]; exact Nat.le_refl _)
  have eY : (grF rs t' cs').take cs.length = grF rs t' cs' := List.take_of_length_le (by rw [gr_len, hl]; exact Nat.le_refl _)
  have L := up_all (t := t) (es := es) (X := (grF rs t cs).take cs.length) (Y := (grF rs t' cs').take cs.length) g (by rw [List.length_take, List.length_take, gr_len, gr_len, hl]) (fun p hp => (gr_pos g ht hc p (List.mem_of_mem_take hp)).1) (fun p hp => (gr_pos g ht' hc' p (List.mem_of_mem_take hp)).1) hE (fun q p p' h1 h2 => (up_acc hcc q p p' h1 h2).1) (fun m => by rw [← htt]; exact gr_feas g ht' hc' _ m) fun q p p' h1 h2 lt => up_gain g ht hE htt hc hc' hl hcc h1 h2 lt
  rw [eX, eY, wO_none, wO_none, wO_none] at L
  exact L
end
end Lw

set_option Elab.async false
set_option linter.all false
set_option maxRecDepth 100000
set_option maxHeartbeats 4000000
/-! zip of two lists or of two tuples at two slots -/
namespace Gv
open L2 hiding Ext
open PySem PySem.Spec PyProof.Rows Gn Gk Gu
theorem walk_zipT {K : PySem.W.Frag} {a b : Addr} {xs ys : List V} {n : Nat} (h : n = min xs.length ys.length) : Walk (RZ.ItzT K a b) n (fun H => SqT K H a xs ∧ SqT K H b ys) (YPair (fun i => xs[i]?) fun i => ys[i]?) := by
  refine ⟨fun i H hi g => ?_, fun H g => ?_, fun i H x H' hi g y => ?_⟩
  · exact ⟨xs, ys, _, _, g.1, g.2, List.getElem?_eq_getElem (by omega), List.getElem?_eq_getElem (by omega)⟩
  · exact ⟨xs, ys, g.1, g.2, by omega⟩
  · obtain ⟨T, x1, x2, e, hT, e2, k1, k2⟩ := y
    exact ⟨T, x1, x2, e, hT, e2, k1 xs g.1, k2 ys g.2⟩
def SameK (H : Hp) (a b : Addr) (xs ys : List V) : Prop := (H a = some (.lst xs) ∧ H b = some (.lst ys)) ∨ (H a = some (.tup xs) ∧ H b = some (.tup ys))
theorem SameK.ext {H H' : Hp} {a b : Addr} {xs ys : List V} (h : SameK H a b xs ys) (k : Ext H H') : SameK H' a b xs ys := h.elim (fun e => .inl ⟨k _ _ e.1, k _ _ e.2⟩) (fun e => .inr ⟨k _ _ e.1, k _ _ e.2⟩)
theorem SameK.c1 {H : Hp} {a b : Addr} {xs ys : List V} (h : SameK H a b xs ys) : ClAt H a xs := h.elim (fun e => .inl e.1) (fun e => .inr e.1)
theorem SameK.c2 {H : Hp} {a b : Addr} {xs ys : List V} (h : SameK H a b xs ys) : ClAt H b ys := h.elim (fun e => .inl e.2) (fun e => .inr e.2)
def iZipV (i j : Nat) : TI := fun σ H R => ∃ (a b : Addr) (xs ys : List V), σ[i]? = some (some (.ref a)) ∧ σ[j]? = some (some (.ref b)) ∧ SameK H a b xs ys ∧ ∀ J, Walk J (min xs.length ys.length) (fun H' => H' a = H a ∧ H' b = H b) (YPair (fun i => xs[i]?) fun i => ys[i]?) → R J H
theorem iZip_ok {K : PySem.W.Frag} {i j : Nat} : ∀ (σ : L2.St) (H : Hp) (R : It → Hp → Prop), iZipV i j σ H R → RZ.iZipA K (tCons (tVar i) (tCons (tVar j) tNil)) σ H R := by
  rintro σ H R ⟨a, b, xs, ys, h1, h2, hc, k⟩
  rcases hc with ⟨h3, h4⟩ | ⟨h3, h4⟩
  · exact ⟨_, h1, _, h2, a, b, xs, ys, rfl, .inl ⟨SqL.of h3, SqL.of h4, k _ (wW (walk_zip rfl) fun H' e => ⟨SqL.of (e.1.trans h3), SqL.of (e.2.trans h4)⟩)⟩⟩
  · exact ⟨_, h1, _, h2, a, b, xs, ys, rfl, .inr ⟨SqT.of h3, SqT.of h4, k _ (wW (walk_zipT rfl) fun H' e => ⟨SqT.of (e.1.trans h3), SqT.of (e.2.trans h4)⟩)⟩⟩
end Gv

set_option Elab.async false
set_option linter.all false
set_option maxRecDepth 100000
set_option maxHeartbeats 4000000
namespace Lw
open L2 hiding Ext
open PySem PySem.Spec PyProof.Rows Gn Gr Gk Go Gt Gf Gu
/-! ### what is spent, account by account -/
def cStep (rs : List FRow) (t : Str → Int) (q : (Str × Int) × Int) : Str → Int := addL t (anc rs q.1.1) q.2
def cntF (rs : List FRow) (cs : List (Str × Int)) (ps : List Int) : Str → Int := (cs.zip ps).foldl (cStep rs) (fun _ => 0)
def cntT (rs : List FRow) (cs : List (Str × Int)) (ps : List Int) (i : Nat) : Str → Int := ((cs.zip ps).take i).foldl (cStep rs) (fun _ => 0)
theorem zip_at {cs : List (Str × Int)} {ps : List Int} {i : Nat} {c : Str × Int} {z : Int} (h1 : cs[i]? = some c) (h2 : ps[i]? = some z) : (cs.zip ps)[i]? = some (c, z) := by
  rw [List.getElem?_zip_eq_some]
  exact ⟨h1, h2⟩
theorem cntT_s {rs : List FRow} {cs : List (Str × Int)} {ps : List Int} {i : Nat} {c : Str × Int} {z : Int} (h1 : cs[i]? = some c) (h2 : ps[i]? = some z) : cntT rs cs ps (i + 1) = addL (cntT rs cs ps i) (anc rs c.1) z := by
  unfold cntT
  rw [take_snoc (zip_at h1 h2), List.foldl_append]
  rfl
def overF (rs : List FRow) (bs cs : List (Str × Int)) (ps : List Int) : Option Str := (fNames rs).find? fun n => decide (totF rs bs n < cntF rs cs ps n)
theorem filter_head {α : Type} (p : α → Bool) : ∀ l : List α, l.find? p = (l.filter p).head?
  | [] => rfl
  | a :: r => by
    cases h : p a
    · rw [List.find?_cons_of_neg (by rw [h]; simp), List.filter_cons_of_neg (by rw [h]; simp)]
      exact filter_head p r
    · rw [List.find?_cons_of_pos h, List.filter_cons_of_pos h]
      rfl
section
variable {P : Program} {w : World} {K : PySem.W.Frag} {mg : Str → Option Value} {base : Heap}
end
end Lw

set_option Elab.async false
set_option linter.all false
set_option maxRecDepth 100000
set_option maxHeartbeats 4000000
namespace Lw
open L2 hiding Ext
open PySem PySem.Spec PyProof.Rows Gn Gr Gk Go Gt Gf Gu
/-! ### what one claim is paid -/
def payR : (Str → Int) → List Str → Int → (Str → Int) × Int × List (Str × Int)
  | t, [], z => (t, z, [])
  | t, n :: r, z => if 0 < min (t n) z then ((payR (at_ t n (t n - min (t n) z)) r (z - min (t n) z)).1, (payR (at_ t n (t n - min (t n) z)) r (z - min (t n) z)).2.1, (n, min (t n) z) :: (payR (at_ t n (t n - min (t n) z)) r (z - min (t n) z)).2.2) else payR t r z
def atN (m : Str) (c : Str × Int) : Int := if c.1 = m then c.2 else 0
theorem at_is (t : Str → Int) (n : Str) (z : Int) (m : Str) : at_ t n z m = if m = n then z else t m := by
  by_cases e : m = n
  · subst e; rw [at_same, if_pos rfl]
  · rw [at_ne e, if_neg e]
structure PayOk (t : Str → Int) (ns : List Str) (z : Int) (q : (Str → Int) × Int × List (Str × Int)) : Prop where
  nn : ∀ m, 0 ≤ q.1 m
  z0 : 0 ≤ q.2.1
  left : ∀ m, q.1 m = t m - sumI (atN m) q.2.2
  part : ∀ c ∈ q.2.2, c.1 ∈ ns ∧ 1 ≤ c.2
  sum : sumI (fun c => c.2) q.2.2 = z - q.2.1
  sub : (q.2.2.map (·.1)).Sublist ns
theorem pay_ok : ∀ {ns : List Str} {t : Str → Int} {z : Int}, (∀ m, 0 ≤ t m) → 0 ≤ z → PayOk t ns z (payR t ns z)
  | [], t, z, ht, hz => ⟨ht, hz, (fun m => by show t m = t m - 0; omega), (fun c h => by cases h), (by show (0 : Int) = z - z; omega), List.nil_sublist _⟩
  | n :: r, t, z, ht, hz => by
    unfold payR
    by_cases h : 0 < min (t n) z
    · rw [if_pos h]
      have hn := ht n
      have ih := pay_ok (ns := r) (t := at_ t n (t n - min (t n) z)) (z := z - min (t n) z) (fun m => by
        rw [at_is]
        have := ht m
        split <;> omega) (by omega)
      refine ⟨ih.nn, ih.z0, fun m => ?_, fun c hc => ?_, ?_, ?_⟩
      · show (payR _ r _).1 m = t m - (atN m (n, min (t n) z) + sumI (atN m) _)
        rw [ih.left m, at_is]
        unfold atN
        by_cases e : m = n
        · subst e
          rw [if_pos rfl, if_pos rfl]
          show _ = _ - (min (t m) z + _)
          omega
        · rw [if_neg e, if_neg (fun k => e k.symm)]
          omega
      · rcases List.mem_cons.mp hc with rfl | hc
        · exact ⟨List.mem_cons_self .., by show 1 ≤ min (t n) z; omega⟩
        · exact ⟨List.mem_cons_of_mem _ (ih.part c hc).1, (ih.part c hc).2⟩
      · show min (t n) z + sumI _ _ = z - (payR _ r _).2.1
        rw [ih.sum]
        omega
      · exact ih.sub.cons_cons n
    · rw [if_neg h]
      have ih := pay_ok (ns := r) ht hz
      exact ⟨ih.nn, ih.z0, ih.left, fun c hc => ⟨List.mem_cons_of_mem _ (ih.part c hc).1, (ih.part c hc).2⟩, ih.sum, ih.sub.cons n⟩
theorem sumS_nn {f : Str → Int} : ∀ {l : List Str}, (∀ u ∈ l, 0 ≤ f u) → 0 ≤ sumS f l
  | [], _ => Int.le_refl _
  | c :: r, h => by
    have := h c (List.mem_cons_self ..)
    have := sumS_nn (l := r) fun u hu => h u (List.mem_cons_of_mem _ hu)
    show 0 ≤ f c + _
    omega
/-- what is due is paid if there is enough -/
theorem pay_all : ∀ {ns : List Str} {t : Str → Int} {z : Int}, ns.Nodup → (∀ m, 0 ≤ t m) → 0 ≤ z → z ≤ sumS t ns → (payR t ns z).2.1 = 0
  | [], t, z, _, _, hz, h => by
    have h : z ≤ 0 := h
    show z = 0
    omega
  | n :: r, t, z, hd, ht, hz, h => by
    obtain ⟨h1, h2⟩ := List.nodup_cons.mp hd
    have h : z ≤ t n + sumS t r := h
    have hn := ht n
    unfold payR
    by_cases hp : 0 < min (t n) z
    · rw [if_pos hp]
      refine pay_all (ns := r) h2 (fun m => ?_) (by omega) ?_
      · rw [at_is]
        have := ht m
        split <;> omega
      · have e : sumS (at_ t n (t n - min (t n) z)) r = sumS t r := sumS_congr fun u hu => by rw [at_is, if_neg (fun e : u = n => h1 (by rw [← e]; exact hu))]
        rw [e]
        by_cases h3 : t n ≤ z
        · rw [Int.min_eq_left h3]; omega
        · have s0 := sumS_nn (f := t) (l := r) fun u _ => ht u
          rw [Int.min_eq_right (by omega)]; omega
    · rw [if_neg hp]
      have s0 := sumS_nn (f := t) (l := r) fun u _ => ht u
      exact pay_all (ns := r) h2 ht hz (by omega)
/-! ### what stands at an account and inside it -/
def inS (rs : List FRow) (b : Str) (t : Str → Int) : Int := sumS (fun n => if b ∈ anc rs n then t n else 0) (fNames rs)
def subN (rs : List FRow) (a : Str) : List Str := (fNames rs).filter fun m => decide (a ∈ anc rs m)
theorem sum_filter (f : Str → Int) (p : Str → Prop) [DecidablePred p] : ∀ l : List Str, sumS f (l.filter fun n => decide (p n)) = sumS (fun n => if p n then f n else 0) l
  | [] => rfl
  | n :: r => by
    by_cases h : p n
    · rw [List.filter_cons_of_pos (by simpa using h)]
      show f n + _ = (if p n then f n else 0) + _
      rw [if_pos h, sum_filter f p r]
    · rw [List.filter_cons_of_neg (by simpa using h)]
      show _ = (if p n then f n else 0) + _
      rw [if_neg h, sum_filter f p r]
      omega
theorem inS_sub (rs : List FRow) (a : Str) (t : Str → Int) : inS rs a t = sumS t (subN rs a) := (sum_filter t (fun m => a ∈ anc rs m) (fNames rs)).symm
theorem sumS_zero : ∀ l : List Str, sumS (fun _ => 0) l = 0
  | [] => rfl
  | _ :: r => by show (0 : Int) + _ = 0; rw [sumS_zero r]; rfl
theorem sum_one (k : Str → Int) (z : Int) {n : Str} : ∀ {l : List Str}, l.Nodup → n ∈ l → sumS (fun u => k u * if n = u then z else 0) l = k n * z
  | [], _, h => by cases h
  | u :: r, hd, h => by
    obtain ⟨h1, h2⟩ := List.nodup_cons.mp hd
    show k u * (if n = u then z else 0) + _ = _
    by_cases e : n = u
    · subst e
      have : sumS (fun u => k u * if n = u then z else 0) r = 0 := by
        have : sumS (fun u => k u * if n = u then z else 0) r = sumS (fun _ => 0) r := sumS_congr fun x hx => by rw [if_neg (fun e : n = x => h1 (by rw [e]; exact hx))]; omega
        rw [this]
        exact sumS_zero r
      rw [this, if_pos rfl]
      omega
    · rw [if_neg e, sum_one k z h2 ((List.mem_cons.mp h).resolve_left e)]
      omega
theorem sum_bal (k : Str → Int) {ns : List Str} (hd : ns.Nodup) : ∀ {bs : List (Str × Int)}, (bs.map (·.1)).Nodup → (∀ p ∈ bs, p.1 ∈ ns) → sumS (fun n => k n * getB bs n) ns = sumI (fun p => k p.1 * p.2) bs
  | [], _, _ => by
    have : ∀ l : List Str, sumS (fun n => k n * getB [] n) l = 0 := by
      intro l
      induction l with
      | nil => rfl
      | cons x r ih => show k x * 0 + _ = 0; rw [ih]; omega
    exact this ns
  | p :: r, hn, hm => by
    obtain ⟨h1, h2⟩ := List.nodup_cons.mp (show (p.1 :: r.map (·.1)).Nodup from hn)
    have ih := sum_bal k hd (bs := r) h2 fun q hq => hm q (List.mem_cons_of_mem _ hq)
    have e : sumS (fun n => k n * getB (p :: r) n) ns = sumS (fun n => (k n * if p.1 = n then p.2 else 0) + k n * getB r n) ns := sumS_congr fun n _ => by
      rw [getB_cons]
      by_cases e : p.1 = n
      · subst e
        rw [if_pos rfl, if_pos rfl, getB_none h1]
        omega
      · rw [if_neg e, if_neg e]
        omega
    show _ = k p.1 * p.2 + _
    rw [e, sumS_add, ih, sum_one k p.2 hd (hm p (List.mem_cons_self ..))]
theorem inS_tot {rs : List FRow} (g : Good rs) {bs : List (Str × Int)} (h : BsN rs bs) (b : Str) : inS rs b (getB bs) = totF rs bs b := by
  have nd := (good_nodup g.2.2).1
  rw [totF_sum]
  have := sum_bal (fun n => (((anc rs n).count b : Nat) : Int)) nd h.1 h.2
  unfold inS
  show _ = sumI (fun p => (((anc rs p.1).count b : Nat) : Int) * p.2) bs
  rw [← this]
  refine sumS_congr fun n hn => ?_
  rw [cnt_anc g hn]
  by_cases hb : b ∈ anc rs n
  · rw [if_pos hb, if_pos hb]
    show _ = (1 : Int) * _
    omega
  · rw [if_neg hb, if_neg hb]
    show _ = (0 : Int) * _
    omega
theorem inS_sub2 {rs : List FRow} {b : Str} {t u : Str → Int} (f : Str → Int) (h : ∀ n, u n = t n - f n) : inS rs b u = inS rs b t - sumS (fun n => if b ∈ anc rs n then f n else 0) (fNames rs) := by
  unfold inS
  have e : sumS (fun n => if b ∈ anc rs n then t n else 0) (fNames rs) = sumS (fun n => (if b ∈ anc rs n then u n else 0) + (if b ∈ anc rs n then f n else 0)) (fNames rs) := sumS_congr fun n _ => by
    rw [h n]
    split <;> omega
  rw [e, sumS_add]
  omega
/-- what was paid from b and inside it -/
theorem paid_in {rs : List FRow} (g : Good rs) (b : Str) : ∀ {ps : List (Str × Int)}, (∀ p ∈ ps, p.1 ∈ fNames rs) → sumS (fun n => if b ∈ anc rs n then sumI (atN n) ps else 0) (fNames rs) = sumI (fun p => if b ∈ anc rs p.1 then p.2 else 0) ps
  | [], _ => by
    have : ∀ l : List Str, sumS (fun n => if b ∈ anc rs n then sumI (atN n) [] else 0) l = 0 := by
      intro l
      induction l with
      | nil => rfl
      | cons x r ih =>
        show (if b ∈ anc rs x then (0 : Int) else 0) + _ = 0
        rw [ih]
        split <;> rfl
    exact this _
  | p :: r, h => by
    have nd := (good_nodup g.2.2).1
    have ih := paid_in g b (ps := r) fun q hq => h q (List.mem_cons_of_mem _ hq)
    have e : sumS (fun n => if b ∈ anc rs n then sumI (atN n) (p :: r) else 0) (fNames rs) = sumS (fun n => ((if b ∈ anc rs n then 1 else 0) * if p.1 = n then p.2 else 0) + (if b ∈ anc rs n then sumI (atN n) r else 0)) (fNames rs) := sumS_congr fun n _ => by
      show (if b ∈ anc rs n then atN n p + sumI (atN n) r else 0) = _
      unfold atN
      by_cases hb : b ∈ anc rs n
      · rw [if_pos hb, if_pos hb, if_pos hb]
        split <;> omega
      · rw [if_neg hb, if_neg hb, if_neg hb]
        omega
    show _ = (if b ∈ anc rs p.1 then p.2 else 0) + _
    rw [e, sumS_add, ih, sum_one (fun n => if b ∈ anc rs n then 1 else 0) p.2 nd (h p (List.mem_cons_self ..))]
    split <;> omega
theorem sumI_all {f : Str × Int → Int} {l : List (Str × Int)} (h : ∀ c ∈ l, f c = c.2) : sumI f l = sumI (fun c => c.2) l := by
  induction l with
  | nil => rfl
  | cons c r ih =>
    show f c + _ = c.2 + _
    rw [h c (List.mem_cons_self ..), ih fun x hx => h x (List.mem_cons_of_mem _ hx)]
theorem sumI_zero {f : Str × Int → Int} {l : List (Str × Int)} (h : ∀ c ∈ l, f c = 0) : sumI f l = 0 := by
  induction l with
  | nil => rfl
  | cons c r ih =>
    show f c + _ = 0
    rw [h c (List.mem_cons_self ..), ih fun x hx => h x (List.mem_cons_of_mem _ hx)]
    rfl
theorem sumI_set (f : Str × Int → Int) : ∀ {l : List (Str × Int)} {k : Nat} {c c' : Str × Int}, l[k]? = some c → sumI f (l.set k c') = sumI f l - f c + f c'
  | [], _, _, _, h => by cases h
  | x :: r, 0, c, c', h => by
    cases h
    show f c' + sumI f r = f x + sumI f r - f x + f c'
    omega
  | x :: r, k + 1, c, c', h => by
    show f x + sumI f (r.set k c') = f x + sumI f r - f c + f c'
    rw [sumI_set f (l := r) (by simpa using h)]
    omega
end Lw

set_option Elab.async false
set_option linter.all false
set_option maxRecDepth 100000
set_option maxHeartbeats 4000000
namespace Lw
open L2 hiding Ext
open PySem PySem.Spec PyProof.Rows Gn Gr Gk Go Gt Gf Gu
abbrev T3 := Nat × Str × Int
def sumT (f : T3 → Int) : List T3 → Int
  | [] => 0
  | x :: r => f x + sumT f r
theorem sumT_app (f : T3 → Int) : ∀ a b : List T3, sumT f (a ++ b) = sumT f a + sumT f b
  | [], b => by show sumT f b = 0 + sumT f b; omega
  | x :: r, b => by
    show f x + sumT f (r ++ b) = f x + sumT f r + sumT f b
    rw [sumT_app f r b]; omega
theorem sumT_perm {f : T3 → Int} {a b : List T3} (h : a.Perm b) : sumT f a = sumT f b := by
  induction h with
  | nil => rfl
  | cons x _ ih => show f x + _ = f x + _; rw [ih]
  | swap x y l => show f y + (f x + _) = f x + (f y + _); omega
  | trans _ _ h1 h2 => rw [h1, h2]
def rk (r : Nat) (x : T3) : Int := if x.1 = r then x.2.2 else 0
def nm (n : Str) (x : T3) : Int := if x.2.1 = n then x.2.2 else 0
def tri (k : Nat) (p : Str × Int) : T3 := (k, p.1, p.2)
theorem sum_nm (m : Str) (k : Nat) : ∀ ps : List (Str × Int), sumT (nm m) (ps.map (tri k)) = sumI (atN m) ps
  | [] => rfl
  | p :: r => by
    show nm m (tri k p) + sumT _ _ = atN m p + _
    rw [sum_nm m k r]
    rfl
theorem sum_rk (j k : Nat) : ∀ ps : List (Str × Int), sumT (rk j) (ps.map (tri k)) = if k = j then sumI (fun c => c.2) ps else 0
  | [] => by
    show (0 : Int) = if k = j then 0 else 0
    split <;> rfl
  | p :: r => by
    show rk j (tri k p) + sumT _ _ = if k = j then p.2 + _ else 0
    rw [sum_rk j k r]
    unfold rk tri
    by_cases e : k = j
    · rw [if_pos e, if_pos e, if_pos e]
    · rw [if_neg e, if_neg e, if_neg e]; rfl
def plStep (rs : List FRow) (cs : List (Str × Int)) (ps : List Int) (a : Str) (s : (Str → Int) × List T3) (k : Nat) : (Str → Int) × List T3 :=
  match cs[k]?, ps[k]? with
  | some c, some z => if c.1 = a then ((payR s.1 (subN rs a) z).1, s.2 ++ (payR s.1 (subN rs a) z).2.2.map (tri k)) else s
  | _, _ => s
def plA (rs : List FRow) (cs : List (Str × Int)) (ps : List Int) (a : Str) : Nat → (Str → Int) × List T3 → (Str → Int) × List T3
  | 0, s => s
  | k + 1, s => plStep rs cs ps a (plA rs cs ps a k s) k
def plO (rs : List FRow) (cs : List (Str × Int)) (ps : List Int) : Nat → (Str → Int) × List T3 → (Str → Int) × List T3
  | 0, s => s
  | j + 1, s => match (fNames rs).reverse[j]? with
    | some a => plA rs cs ps a cs.length (plO rs cs ps j s)
    | none => plO rs cs ps j s
def planF (rs : List FRow) (bs cs : List (Str × Int)) (ps : List Int) : List T3 := (plO rs cs ps (fNames rs).length (getB bs, [])).2
structure PI (rs : List FRow) (bs cs : List (Str × Int)) (ps : List Int) (U : List Str) (Dn : Nat → Prop) (es : List (Str × Int)) (s : (Str → Int) × List T3) : Prop where
  len : es.length = cs.length
  own : ∀ (k : Nat) c e, cs[k]? = some c → es[k]? = some e → e.1 = c.1 ∧ 0 ≤ e.2
  nn : ∀ m, 0 ≤ s.1 m
  need : ∀ b ∈ U, sumI (wgt rs b) es ≤ inS rs b s.1
  left : ∀ m, s.1 m = getB bs m - sumT (nm m) s.2
  parts : ∀ x ∈ s.2, 1 ≤ x.2.2 ∧ x.2.1 ∈ fNames rs ∧ (∃ c, cs[x.1]? = some c ∧ c.1 ∈ anc rs x.2.1) ∧ Dn x.1
  nd : (s.2.map fun x => (x.1, x.2.1)).Nodup
  paid : ∀ (k : Nat) e z, es[k]? = some e → ps[k]? = some z → sumT (rk k) s.2 = z - e.2
  es : ∀ (k : Nat) e z, es[k]? = some e → ps[k]? = some z → (Dn k → e.2 = 0) ∧ (¬ Dn k → e.2 = z)
theorem sumI_ge {f : Str × Int → Int} : ∀ {l : List (Str × Int)}, (∀ c ∈ l, 0 ≤ f c) → ∀ {c}, c ∈ l → f c ≤ sumI f l
  | [], _, _, h => by cases h
  | x :: r, hp, c, h => by
    have h0 := hp x (List.mem_cons_self ..)
    have hr := sumI_nn (l := r) fun y hy => hp y (List.mem_cons_of_mem _ hy)
    rcases List.mem_cons.mp h with rfl | h
    · show f c ≤ f c + _
      omega
    · have := sumI_ge (l := r) (fun y hy => hp y (List.mem_cons_of_mem _ hy)) h
      show f c ≤ f x + _
      omega
theorem subN_mem {rs : List FRow} {a m : Str} (h : m ∈ subN rs a) : m ∈ fNames rs ∧ a ∈ anc rs m := by
  obtain ⟨h1, h2⟩ := List.mem_filter.mp h
  exact ⟨h1, of_decide_eq_true h2⟩
section
variable {rs : List FRow} (g : Good rs) {bs cs : List (Str × Int)} {ps : List Int} {U : List Str} {Dn : Nat → Prop} {es : List (Str × Int)} {s : (Str → Int) × List T3}
include g in
theorem pi_step (h : PI rs bs cs ps U Dn es s) {a : Str} {k : Nat} {c : Str × Int} {z : Int} (ha : a ∈ fNames rs) (haU : a ∈ U) (hU : ∀ b ∈ U, b ∈ fNames rs ∧ (a ∈ anc rs b → b = a)) (hc : cs[k]? = some c) (hca : c.1 = a) (hz : ps[k]? = some z) (hd : ¬ Dn k) :
    PI rs bs cs ps U (fun j => Dn j ∨ j = k) (es.set k (a, 0)) ((payR s.1 (subN rs a) z).1, s.2 ++ (payR s.1 (subN rs a) z).2.2.map (tri k)) := by
  have nd := (good_nodup g.2.2).1
  have kl : k < es.length := by rw [h.len]; exact (List.getElem?_eq_some_iff.mp hc).1
  have he := List.getElem?_eq_getElem kl
  generalize es[k] = e at he
  obtain ⟨o1, o2⟩ := h.own k c e hc he
  have ez := (h.es k e z he hz).2 hd
  have ee : e = (a, z) := by rw [← hca, ← o1, ← ez]
  have z0 : 0 ≤ z := by rw [← ez]; exact o2
  have enn : ∀ b, ∀ x ∈ es, 0 ≤ wgt rs b x := fun b x hx => by
    obtain ⟨j, hj⟩ := List.mem_iff_getElem?.mp hx
    have jl : j < cs.length := by rw [← h.len]; exact (List.getElem?_eq_some_iff.mp hj).1
    exact Int.mul_nonneg (Int.natCast_nonneg _) (h.own j _ x (List.getElem?_eq_getElem jl) hj).2
  have Q := pay_ok (ns := subN rs a) (t := s.1) (z := z) h.nn z0
  have all : (payR s.1 (subN rs a) z).2.1 = 0 := pay_all (nd.filter _) h.nn z0 (by
    rw [← inS_sub]
    have h1 := h.need a haU
    have h2 := sumI_ge (enn a) (List.mem_of_getElem? he)
    rw [ee, wgt_in g ha (anc_self g ha)] at h2
    omega)
  generalize payR s.1 (subN rs a) z = q at Q all
  obtain ⟨t', z', pq⟩ := q
  have all : z' = 0 := all
  subst all
  have pqn : ∀ p ∈ pq, p.1 ∈ fNames rs ∧ a ∈ anc rs p.1 ∧ 1 ≤ p.2 := fun p hp => ⟨(subN_mem (Q.part p hp).1).1, (subN_mem (Q.part p hp).1).2, (Q.part p hp).2⟩
  have qs : sumI (fun c => c.2) pq = z := by
    have := Q.sum
    show sumI (fun c => c.2) pq = z
    rw [this]
    show z - 0 = z
    omega
  refine ⟨by rw [List.length_set]; exact h.len, fun j c' e' hc' he' => ?_, Q.nn, fun b hb => ?_, fun m => ?_, fun x hx => ?_, ?_, fun j e' z' he' hz' => ?_, fun j e' z' he' hz' => ?_⟩
  · rw [List.getElem?_set] at he'
    by_cases ej : k = j
    · subst ej
      rw [if_pos rfl, if_pos kl] at he'
      cases he'
      rw [hc] at hc'
      cases hc'
      exact ⟨hca.symm, Int.le_refl _⟩
    · rw [if_neg ej] at he'
      exact h.own j c' e' hc' he'
  · have hb' := hU b hb
    have nb := h.need b hb
    rw [sumI_set _ he, ee]
    rw [inS_sub2 (t := s.1) (u := t') (fun n => sumI (atN n) pq) Q.left, paid_in g b fun p hp => (pqn p hp).1]
    by_cases hba : b ∈ anc rs a
    · have e1 : sumI (fun p => if b ∈ anc rs p.1 then p.2 else 0) pq = sumI (fun c => c.2) pq := sumI_all fun p hp => by
        obtain ⟨ip, rp, hip, ep⟩ := row_of (pqn p hp).1
        have hap := (pqn p hp).2.1
        rw [← ep] at hap ⊢
        rw [if_pos (anc_trans g _ ip rp (Nat.lt_succ_self _) hip a hap b hba)]
      rw [e1, qs, wgt_in g ha hba, wgt_in g ha hba]
      omega
    · have e1 : sumI (fun p => if b ∈ anc rs p.1 then p.2 else 0) pq = 0 := sumI_zero fun p hp => by
        obtain ⟨ip, rp, hip, ep⟩ := row_of (pqn p hp).1
        have hap := (pqn p hp).2.1
        rw [← ep] at hap ⊢
        refine if_neg fun hbp => ?_
        rcases anc_chain g _ ip rp (Nat.lt_succ_self _) hip a hap b hbp with h' | h'
        · exact hba (hb'.2 h' ▸ anc_self g hb'.1)
        · exact hba h'
      rw [e1, wgt_out g ha hba, wgt_out g ha hba]
      omega
  · show t' m = getB bs m - sumT (nm m) (s.2 ++ pq.map (tri k))
    rw [sumT_app, sum_nm]
    have h1 := h.left m
    have h2 : t' m = s.1 m - sumI (atN m) pq := Q.left m
    omega
  · rcases List.mem_append.mp hx with hx | hx
    · obtain ⟨a1, a2, a3, a4⟩ := h.parts x hx
      exact ⟨a1, a2, a3, .inl a4⟩
    · obtain ⟨p, hp, rfl⟩ := List.mem_map.mp hx
      exact ⟨(pqn p hp).2.2, (pqn p hp).1, ⟨c, hc, by rw [hca]; exact (pqn p hp).2.1⟩, .inr rfl⟩
  · show ((s.2 ++ pq.map (tri k)).map fun x => (x.1, x.2.1)).Nodup
    rw [List.map_append]
    refine List.nodup_append.mpr ⟨h.nd, ?_, fun u hu v hv e => ?_⟩
    · have e : (pq.map (tri k)).map (fun x => (x.1, x.2.1)) = (pq.map (·.1)).map fun n => (k, n) := by rw [List.map_map, List.map_map]; rfl
      rw [e]
      have nn : (pq.map (·.1)).Nodup := Q.sub.nodup (nd.filter _)
      generalize pq.map (·.1) = l at nn
      clear e
      induction l with
      | nil => exact List.nodup_nil
      | cons x r ih =>
        obtain ⟨n1, n2⟩ := List.nodup_cons.mp nn
        refine List.nodup_cons.mpr ⟨fun hm => ?_, ih n2⟩
        obtain ⟨y, hy, e⟩ := List.mem_map.mp hm
        injection e with _ e
        exact n1 (e ▸ hy)
    · subst e
      obtain ⟨x, hx, rfl⟩ := List.mem_map.mp hu
      obtain ⟨y, hy, e⟩ := List.mem_map.mp hv
      obtain ⟨p, _, rfl⟩ := List.mem_map.mp hy
      injection e with e _
      have dx := (h.parts x hx).2.2.2
      have e : k = x.1 := e
      exact hd (by rw [e]; exact dx)
  · show sumT (rk j) (s.2 ++ pq.map (tri k)) = _
    rw [sumT_app, sum_rk]
    rw [List.getElem?_set] at he'
    by_cases ej : k = j
    · subst ej
      rw [if_pos rfl, if_pos kl] at he'
      cases he'
      rw [hz] at hz'
      cases hz'
      have h1 := h.paid k e z he hz
      rw [if_pos rfl, qs, h1, ez]
      show z - z + z = z - 0
      omega
    · rw [if_neg ej] at he'
      rw [if_neg ej, h.paid j e' z' he' hz']
      omega
  · rw [List.getElem?_set] at he'
    by_cases ej : k = j
    · subst ej
      rw [if_pos rfl, if_pos kl] at he'
      cases he'
      exact ⟨fun _ => rfl, fun n => absurd (.inr rfl) n⟩
    · rw [if_neg ej] at he'
      obtain ⟨a1, a2⟩ := h.es j e' z' he' hz'
      exact ⟨fun d => a1 (d.resolve_right fun e => ej e.symm), fun n => a2 fun d => n (.inl d)⟩
theorem PI.cong {Dn' : Nat → Prop} (h : PI rs bs cs ps U Dn es s) (e : ∀ k, k < cs.length → (Dn k ↔ Dn' k)) : PI rs bs cs ps U Dn' es s :=
  ⟨h.len, h.own, h.nn, h.need, h.left, fun x hx => by
    obtain ⟨a1, a2, ⟨c, a3, a4⟩, a5⟩ := h.parts x hx
    exact ⟨a1, a2, ⟨c, a3, a4⟩, (e _ (List.getElem?_eq_some_iff.mp a3).1).mp a5⟩, h.nd, h.paid, fun k e' z h1 h2 => by
    obtain ⟨a1, a2⟩ := h.es k e' z h1 h2
    have kl : k < cs.length := by rw [← h.len]; exact (List.getElem?_eq_some_iff.mp h1).1
    exact ⟨fun d => a1 ((e k kl).mpr d), fun n => a2 fun d => n ((e k kl).mp d)⟩⟩
theorem PI.less {U' : List Str} (h : PI rs bs cs ps U Dn es s) (e : ∀ b ∈ U', b ∈ U) : PI rs bs cs ps U' Dn es s := ⟨h.len, h.own, h.nn, fun b hb => h.need b (e b hb), h.left, h.parts, h.nd, h.paid, h.es⟩
def ownD (cs : List (Str × Int)) (a : Str) (i : Nat) (k : Nat) : Prop := k < i ∧ ∃ c, cs[k]? = some c ∧ c.1 = a
include g in
theorem pi_acc (hl : ps.length = cs.length) {a : Str} (ha : a ∈ fNames rs) (haU : a ∈ U) (hU : ∀ b ∈ U, b ∈ fNames rs ∧ (a ∈ anc rs b → b = a)) (hD : ∀ k c, cs[k]? = some c → c.1 = a → ¬ Dn k) (h : PI rs bs cs ps U Dn es s) :
    ∀ i, i ≤ cs.length → ∃ es', PI rs bs cs ps U (fun k => Dn k ∨ ownD cs a i k) es' (plA rs cs ps a i s)
  | 0, _ => ⟨es, h.cong fun k _ => ⟨.inl, fun d => d.resolve_right fun o => absurd o.1 (Nat.not_lt_zero _)⟩⟩
  | i + 1, hi => by
    obtain ⟨es', ih⟩ := pi_acc hl ha haU hU hD h i (by omega)
    have hc := List.getElem?_eq_getElem (l := cs) (i := i) (by omega)
    generalize cs[i] = c at hc
    have hz := List.getElem?_eq_getElem (l := ps) (i := i) (by omega)
    generalize ps[i] = z at hz
    show ∃ es', PI rs bs cs ps U (fun k => Dn k ∨ ownD cs a (i + 1) k) es' (plStep rs cs ps a (plA rs cs ps a i s) i)
    unfold plStep
    rw [hc, hz]
    show ∃ es', PI rs bs cs ps U _ es' (if c.1 = a then _ else _)
    by_cases hca : c.1 = a
    · rw [if_pos hca]
      have nD : ¬ (Dn i ∨ ownD cs a i i) := fun d => d.elim (hD i c hc hca) fun o => Nat.lt_irrefl _ o.1
      refine ⟨_, (pi_step g ih ha haU hU hc hca hz nD).cong fun k hk => ⟨fun d => ?_, fun d => ?_⟩⟩
      · rcases d with (d | d) | rfl
        · exact .inl d
        · exact .inr ⟨Nat.lt_succ_of_lt d.1, d.2⟩
        · exact .inr ⟨Nat.lt_succ_self _, c, hc, hca⟩
      · rcases d with d | d
        · exact .inl (.inl d)
        · rcases Nat.lt_succ_iff_lt_or_eq.mp d.1 with d1 | d1
          · exact .inl (.inr ⟨d1, d.2⟩)
          · exact .inr d1
    · rw [if_neg hca]
      refine ⟨_, ih.cong fun k hk => ⟨fun d => d.elim .inl fun o => .inr ⟨Nat.lt_succ_of_lt o.1, o.2⟩, fun d => d.elim .inl fun o => ?_⟩⟩
      rcases Nat.lt_succ_iff_lt_or_eq.mp o.1 with d1 | rfl
      · exact .inr ⟨d1, o.2⟩
      · obtain ⟨c', h1, h2⟩ := o.2
        rw [hc] at h1
        cases h1
        exact absurd h2 hca
def dropD (rs : List FRow) (cs : List (Str × Int)) (j k : Nat) : Prop := ∃ c, cs[k]? = some c ∧ c.1 ∈ (fNames rs).drop ((fNames rs).length - j)
include g in
theorem pi_outer (hl : ps.length = cs.length) (h0 : PI rs bs cs ps (fNames rs) (fun _ => False) es s) : ∀ j, j ≤ (fNames rs).length → ∃ es', PI rs bs cs ps ((fNames rs).take ((fNames rs).length - j)) (dropD rs cs j) es' (plO rs cs ps j s)
  | 0, _ => ⟨es, (h0.less fun b hb => List.mem_of_mem_take hb).cong fun k _ => ⟨fun d => d.elim, fun ⟨c, _, hc⟩ => by rw [Nat.sub_zero, List.drop_length] at hc; cases hc⟩⟩
  | j + 1, hj => by
    obtain ⟨es', ih⟩ := pi_outer hl h0 j (by omega)
    have nd := (good_nodup g.2.2).1
    have hi := List.getElem?_eq_getElem (l := fNames rs) (i := (fNames rs).length - 1 - j) (by omega)
    generalize hav : (fNames rs)[(fNames rs).length - 1 - j] = a at hi
    have hrev : (fNames rs).reverse[j]? = some a := by rw [List.getElem?_reverse (by omega)]; exact hi
    have ha := List.mem_of_getElem? hi
    have hat : ((fNames rs).take ((fNames rs).length - j))[(fNames rs).length - 1 - j]? = some a := by rw [List.getElem?_take_of_lt (by omega)]; exact hi
    have haU := List.mem_of_getElem? hat
    obtain ⟨ra, hra, era⟩ : ∃ r, rs[(fNames rs).length - 1 - j]? = some r ∧ r.1 = a := by
      unfold fNames at hi
      rw [List.getElem?_map] at hi
      obtain ⟨r, h1, h2⟩ := Option.map_eq_some_iff.mp hi
      unfold fNames
      exact ⟨r, h1, h2⟩
    have hU : ∀ b ∈ (fNames rs).take ((fNames rs).length - j), b ∈ fNames rs ∧ (a ∈ anc rs b → b = a) := fun b hb => by
      refine ⟨List.mem_of_mem_take hb, fun hab => ?_⟩
      obtain ⟨ib, hib⟩ := List.mem_iff_getElem?.mp hb
      have ibl := (List.getElem?_eq_some_iff.mp hib).1
      rw [List.length_take] at ibl
      rw [List.getElem?_take_of_lt (by omega)] at hib
      unfold fNames at hib
      rw [List.getElem?_map] at hib
      obtain ⟨rb, hrb, erb⟩ := Option.map_eq_some_iff.mp hib
      rw [← erb] at hab
      obtain ⟨j2, r2, l2, h2, e2⟩ := anc_idx g _ ib rb (Nat.lt_succ_self _) hrb _ hab
      have := idx_eq g h2 hra (e2.trans era.symm)
      have : ib = (fNames rs).length - 1 - j := by omega
      rw [this] at hrb
      rw [hra] at hrb
      cases hrb
      rw [← erb]
      exact era
    have hD : ∀ k c, cs[k]? = some c → c.1 = a → ¬ dropD rs cs j k := fun k c hc hca ⟨c', hc', hm⟩ => by
      rw [hc] at hc'
      cases hc'
      rw [hca] at hm
      have := nd
      rw [← List.take_append_drop ((fNames rs).length - j) (fNames rs)] at this
      exact (List.nodup_append.mp this).2.2 a haU a hm rfl
    obtain ⟨es2, h2⟩ := pi_acc g hl ha haU hU hD ih cs.length (Nat.le_refl _)
    show ∃ es', PI rs bs cs ps _ _ es' (match (fNames rs).reverse[j]? with | some a => plA rs cs ps a cs.length (plO rs cs ps j s) | none => plO rs cs ps j s)
    rw [hrev]
    have edr : (fNames rs).drop ((fNames rs).length - (j + 1)) = a :: (fNames rs).drop ((fNames rs).length - j) := by
      have e1 : (fNames rs).length - (j + 1) = (fNames rs).length - 1 - j := by omega
      rw [e1, List.drop_eq_getElem_cons (by omega), hav]
      congr 2
      omega
    refine ⟨es2, (h2.less fun b hb => ?_).cong fun k hk => ⟨fun d => ?_, fun d => ?_⟩⟩
    · obtain ⟨ib, hib⟩ := List.mem_iff_getElem?.mp hb
      have ibl := (List.getElem?_eq_some_iff.mp hib).1
      rw [List.length_take] at ibl
      rw [List.getElem?_take_of_lt (by omega)] at hib
      exact List.mem_of_getElem? (i := ib) (by rw [List.getElem?_take_of_lt (by omega)]; exact hib)
    · unfold dropD
      rw [edr]
      rcases d with ⟨c, h1, h3⟩ | ⟨_, c, h1, h3⟩
      · exact ⟨c, h1, List.mem_cons_of_mem _ h3⟩
      · exact ⟨c, h1, by rw [h3]; exact List.mem_cons_self ..⟩
    · unfold dropD at d
      rw [edr] at d
      obtain ⟨c, h1, h3⟩ := d
      rcases List.mem_cons.mp h3 with h3 | h3
      · exact .inr ⟨hk, c, h1, h3⟩
      · exact .inl ⟨c, h1, h3⟩
end
structure PlanOk (rs : List FRow) (bs cs : List (Str × Int)) (ps : List Int) (P : List T3) : Prop where
  parts : ∀ x ∈ P, 1 ≤ x.2.2 ∧ x.2.1 ∈ fNames rs ∧ ∃ c, cs[x.1]? = some c ∧ c.1 ∈ anc rs x.2.1
  nd : (P.map fun x => (x.1, x.2.1)).Nodup
  paid : ∀ (k : Nat) z, ps[k]? = some z → sumT (rk k) P = z
  held : ∀ n, sumT (nm n) P ≤ getB bs n
theorem PlanOk.perm {rs : List FRow} {bs cs : List (Str × Int)} {ps : List Int} {P P' : List T3} (h : PlanOk rs bs cs ps P) (p : P'.Perm P) : PlanOk rs bs cs ps P' :=
  ⟨fun x hx => h.parts x (p.mem_iff.mp hx), (p.map _).nodup_iff.mpr h.nd, fun k z hz => by rw [sumT_perm p]; exact h.paid k z hz, fun n => by rw [sumT_perm p]; exact h.held n⟩
theorem cnt_sum (rs : List FRow) (m : Str) : ∀ (L : List ((Str × Int) × Int)) (t : Str → Int), (L.foldl (cStep rs) t) m = t m + sumI (wgt rs m) (L.map fun q => (q.1.1, q.2))
  | [], t => by show t m = t m + 0; omega
  | q :: r, t => by
    show (r.foldl (cStep rs) (cStep rs t q)) m = t m + (wgt rs m (q.1.1, q.2) + sumI _ _)
    rw [cnt_sum rs m r]
    unfold cStep
    rw [addL_at]
    show t m + (((anc rs q.1.1).count m : Nat) : Int) * q.2 + sumI (wgt rs m) _ = t m + ((((anc rs q.1.1).count m : Nat) : Int) * q.2 + sumI (wgt rs m) _)
    omega
theorem plan_ok {rs : List FRow} (g : Good rs) {bs cs : List (Str × Int)} {ps : List Int} (hB : BsN rs bs) (hb : ∀ p ∈ bs, 0 ≤ p.2) (hc : ∀ c ∈ cs, c.1 ∈ fNames rs) (hl : ps.length = cs.length) (hp : ∀ z ∈ ps, 0 ≤ z) (ho : ∀ n ∈ fNames rs, cntF rs cs ps n ≤ totF rs bs n) : PlanOk rs bs cs ps (planF rs bs cs ps) := by
  have es0 : ∀ (k : Nat) e, ((cs.zip ps).map fun q => ((q.1.1, q.2) : Str × Int))[k]? = some e → ∃ c z, cs[k]? = some c ∧ ps[k]? = some z ∧ e = (c.1, z) := fun k e he => by
    rw [List.getElem?_map] at he
    obtain ⟨q, hq, rfl⟩ := Option.map_eq_some_iff.mp he
    obtain ⟨h1, h2⟩ := List.getElem?_zip_eq_some.mp hq
    exact ⟨q.1, q.2, h1, h2, rfl⟩
  have h0 : PI rs bs cs ps (fNames rs) (fun _ => False) ((cs.zip ps).map fun q => (q.1.1, q.2)) (getB bs, []) := by
    refine ⟨by rw [List.length_map, List.length_zip]; omega, fun k c e h1 h2 => ?_, fun m => ?_, fun b hbn => ?_, fun m => ?_, (fun x hx => by cases hx), List.nodup_nil, fun k e z h1 h2 => ?_, fun k e z h1 h2 => ?_⟩
    · obtain ⟨c', z, a1, a2, rfl⟩ := es0 k e h2
      rw [h1] at a1
      cases a1
      exact ⟨rfl, hp z (List.mem_of_getElem? a2)⟩
    · show 0 ≤ getB bs m
      unfold getB
      cases e : bs.find? (fun p => decide (p.1 = m)) with
      | some q => exact hb q (List.mem_of_find?_eq_some e)
      | none => exact Int.le_refl _
    · show _ ≤ inS rs b (getB bs)
      rw [inS_tot g hB]
      have := ho b hbn
      unfold cntF at this
      rw [cnt_sum] at this
      omega
    · show getB bs m = getB bs m - 0
      omega
    · obtain ⟨c', z', a1, a2, rfl⟩ := es0 k e h1
      rw [h2] at a2
      cases a2
      show (0 : Int) = z - z
      omega
    · obtain ⟨c', z', a1, a2, rfl⟩ := es0 k e h1
      rw [h2] at a2
      cases a2
      exact ⟨fun d => d.elim, fun _ => rfl⟩
  obtain ⟨es, h⟩ := pi_outer g hl h0 (fNames rs).length (Nat.le_refl _)
  unfold planF
  refine ⟨fun x hx => ⟨(h.parts x hx).1, (h.parts x hx).2.1, (h.parts x hx).2.2.1⟩, h.nd, fun k z hz => ?_, fun n => ?_⟩
  · have kl : k < cs.length := by rw [← hl]; exact (List.getElem?_eq_some_iff.mp hz).1
    have he := List.getElem?_eq_getElem (l := es) (i := k) (by rw [h.len]; exact kl)
    have hcc := List.getElem?_eq_getElem kl
    have d : dropD rs cs (fNames rs).length k := ⟨_, hcc, by rw [Nat.sub_self, List.drop_zero]; exact hc _ (List.mem_of_getElem? hcc)⟩
    rw [h.paid k _ z he hz, (h.es k _ z he hz).1 d]
    omega
  · have := h.nn n
    rw [h.left n] at this
    omega
end Lw

set_option Elab.async false
set_option linter.all false
set_option maxRecDepth 100000
set_option maxHeartbeats 4000000
/-! sorted(a list of tuples of ints and texts); (i, x) <= (j, y) -/
namespace Gc
open L2
open PySem PySem.Spec PyProof.Rows
abbrev It := Int ⊕ List Nat
def kD : Key → It
  | .inl i => .inl i
  | .inr x => .inr x.cps.toList
def Fits (shape : Nat → Bool) : Nat → List Key → Prop
  | _, [] => True
  | i, .inl _ :: r => shape i = false ∧ Fits shape (i + 1) r
  | i, .inr _ :: r => shape i = true ∧ Fits shape (i + 1) r
theorem items_fit {shape : Nat → Bool} : ∀ {ks : List Key} {us : List Value} {i : Nat}, Vals (ks.map kV) us → Fits shape i ks → PyProof.Rows.tupItems shape i us = some (ks.map kD)
  | [], _, _, .nil, _ => rfl
  | .inl z :: r, _, i, .cons h a, f => by
    obtain ⟨t, rfl⟩ := h
    have ih := items_fit (ks := r) a f.2
    show (if shape i = true then none else (PyProof.Rows.tupItems shape (i + 1) _).map (Sum.inl z :: ·)) = _
    rw [f.1, ih]
    rfl
  | .inr x :: r, _, i, .cons h a, f => by
    obtain ⟨t, rfl⟩ := h
    have ih := items_fit (ks := r) a f.2
    show (if shape i = true then (PyProof.Rows.tupItems shape (i + 1) _).map (Sum.inr x.cps.toList :: ·) else none) = _
    rw [f.1, ih]
    rfl
theorem perm_inv {α β : Type} {f : α → β} {l l' : List β} (h : l.Perm l') : ∀ {L : List α}, l = L.map f → ∃ L' : List α, L'.Perm L ∧ l' = L'.map f := by
  induction h with
  | nil =>
    intro L e
    cases L with
    | nil => exact ⟨[], List.Perm.refl _, rfl⟩
    | cons _ _ => cases e
  | cons x _ ih =>
    intro L e
    cases L with
    | nil => cases e
    | cons a r =>
      injection e with e1 e2
      obtain ⟨L', p, q⟩ := ih e2
      exact ⟨a :: L', p.cons a, by rw [List.map_cons, ← q, e1]⟩
  | swap x y l =>
    intro L e
    cases L with
    | nil => cases e
    | cons a r => cases r with
      | nil => injection e with _ e2; cases e2
      | cons b r =>
        injection e with e1 e2
        injection e2 with e2 e3
        exact ⟨b :: a :: r, List.Perm.swap a b r, by rw [List.map_cons, List.map_cons, ← e1, ← e2, ← e3]⟩
  | trans _ _ h1 h2 =>
    intro L e
    obtain ⟨L1, p1, q1⟩ := h1 e
    obtain ⟨L2', p2, q2⟩ := h2 q1
    exact ⟨L2', p2.trans p1, q2⟩
section
variable {X : Cx}
def vR (q : Addr × List Key) : V := .ref q.1
def uR (q : Addr × List Key) : Value := .ref q.1
theorem vals_rs : ∀ {L : List (Addr × List Key)} {us : List Value}, Vals (L.map vR) us → us = L.map uR
  | [], _, .nil => rfl
  | q :: r, _, .cons h a => by
    cases h
    rw [vals_rs a]
    rfl
/-- is the second not below the first -/
def leT (q r : Addr × List Key) : Prop := PyProof.Rows.lexLt PyProof.Rows.itemOrd (r.2.map kD) (q.2.map kD) = false
def rSortK (shape : Nat → Bool) (K : PySem.W.Frag) : List V → Hp → VK → Prop := fun vs H Q => ∃ (a : Addr) (L : List (Addr × List Key)), vs = [V.ref a] ∧ SqL K H a (L.map vR) ∧ (∀ q ∈ L, H q.1 = some (.tup (q.2.map kV)) ∧ q.2 ≠ [] ∧ Fits shape 0 q.2) ∧
  ∀ (L' : List (Addr × List Key)) (p : Addr), L'.Perm L → L'.Pairwise leT → H p = none → Q (.ref p) (upd H p (.lst (L'.map vR)))
theorem tup_here {shape : Nat → Bool} {pins : List (Addr × Obj)} {σ : L2.St} {H : Hp} {s : Shared} (I : Inv X pins σ H s) {t : Addr} {ks : List Key} (h : H t = some (.tup (ks.map kV))) (hne : ks ≠ []) (hf : Fits shape 0 ks) :
    PyProof.Rows.G.tupKeyC s.heap shape (.ref t) = some (ks.map kD) ∧ ∃ f, PyProof.Rows.TupOf s.heap shape (.ref t) f := by
  obtain ⟨_, its, r, o, ho, hc, n, hd⟩ := I.hok _ _ h
  have e := items_fit r hf
  refine ⟨?_, ?_⟩
  · have h1 : PyProof.Rows.G.isTupObj s.heap (.ref t) = true := by
      show (match s.heap.get? t with | some o => (match o.cls with | .type n => n == "tuple" | _ => false) | none => false) = true
      rw [ho]
      show (match o.cls with | .type n => n == "tuple" | _ => false) = true
      rw [hc]
      rfl
    unfold PyProof.Rows.G.tupKeyC
    rw [if_pos h1]
    show (match s.heap.get? t with | some o => (match o.data with | .seq xs _ => PyProof.Rows.tupItems shape 0 xs.toList | _ => none) | none => none) = _
    rw [ho]
    show (match o.data with | .seq xs _ => PyProof.Rows.tupItems shape 0 xs.toList | _ => none) = _
    rw [hd]
    exact e
  · cases ks with
    | nil => exact absurd rfl hne
    | cons k r' =>
      cases r with
      | cons rk ra =>
        rename_i u us
        refine ⟨u, t, o, _, n, rfl, ho, hc, hd, rfl, fun hs => ?_, fun hs => ?_⟩
        · cases k with
          | inl z => obtain ⟨t', rfl⟩ := rk; exact ⟨_, _, rfl⟩
          | inr x => rw [hf.1] at hs; cases hs
        · cases k with
          | inl z => rw [hf.1] at hs; cases hs
          | inr x => obtain ⟨t', rfl⟩ := rk; exact ⟨_, _, rfl⟩
theorem cr_sortK (shape : Nat → Bool) : CallR X (.builtin "sorted") (rSortK shape X.K) := by
  intro pins s σ H vs us Q I r h
  obtain ⟨a, L, rfl, hs, hx, q⟩ := h
  obtain ⟨its, rv, hl, hz⟩ := I.list hs
  obtain ⟨u, rfl, ru⟩ := vals1 r
  obtain rfl : u = Value.ref a := ru
  have ei := vals_rs rv
  subst ei
  have key : ∀ q ∈ L, PyProof.Rows.G.tupKeyC s.heap shape (uR q) = some (q.2.map kD) := fun q hq => (tup_here I (hx q hq).1 (hx q hq).2.1 (hx q hq).2.2).1
  obtain ⟨fs, ht⟩ : ∃ fs, PyProof.Rows.TupsOf s.heap shape (L.map uR) fs := by
    have : ∀ L' : List (Addr × List Key), (∀ q ∈ L', q ∈ L) → ∃ fs, PyProof.Rows.TupsOf s.heap shape (L'.map uR) fs := by
      intro L'
      induction L' with
      | nil => intro _; exact ⟨[], .nil⟩
      | cons q r ih =>
        intro hm
        obtain ⟨fs, hfs⟩ := ih fun x hx => hm x (List.mem_cons_of_mem _ hx)
        have hq := hm q (List.mem_cons_self ..)
        obtain ⟨f, hf⟩ := (tup_here I (hx q hq).1 (hx q hq).2.1 (hx q hq).2.2).2
        exact ⟨f :: fs, .cons hf hfs⟩
    exact this L fun q h => h
  refine PyProof.Rows.G.sorted_tups hl.isList ht (fun v hv => ?_) (by rw [List.length_map]; rw [List.length_map] at hz; exact hz) fun st' hp hst hstb => ?_
  · obtain ⟨q, hq, rfl⟩ := List.mem_map.mp hv
    exact ⟨_, key q hq⟩
  · generalize harr : arrOf st' = arr at hp hst
    have hpl : arr.toList.Perm ((L.map uR).zip (L.map uR)) := by
      have := hp.toList
      rwa [pairsOf_toList] at this
    obtain ⟨L', pL, eL⟩ : ∃ L' : List (Addr × List Key), L'.Perm L ∧ arr.toList = L'.map fun q => (uR q, uR q) := perm_inv (f := fun q => (uR q, uR q)) hpl.symm (by
      clear hx q key ht hz hs rv r hl hpl hp hst hstb harr
      induction L with
      | nil => rfl
      | cons a b ih => show (uR a, uR a) :: _ = (uR a, uR a) :: _; rw [← ih]; rfl)
    have out : (arr.map (·.2)).toList = L'.map uR := by rw [Array.toList_map, eL, List.map_map]; rfl
    have sz : (pairsOf (L.map uR)).size = L'.length := by rw [pairsOf_size, List.length_map, pL.length_eq]
    obtain ⟨n, hn⟩ := sortedAll_at s.heap (L.map uR) (arr.map (·.2))
    have vals : Vals (L'.map vR) (L'.map uR) := by
      clear hx q key ht hz hs rv r hl hpl hp hst harr pL eL out sz hn
      induction L' with
      | nil => exact .nil
      | cons a b ih => exact .cons rfl ih
    refine ⟨.ref (s.heap.objs.size + 1), upd H (s.heap.objs.size + 1) (.lst (L'.map vR)), I.laid (t' := s.toks) (fun b o e => sortedAll_old e) (Nat.le_succ _) ⟨?_, L'.map uR, n, vals, ?_⟩, rfl, q L' _ pL ?_ (I.hok.fresh (Nat.le_succ _))⟩
    · rw [List.length_map, pL.length_eq]; rw [List.length_map] at hz; exact hz
    · have eA : arr.map (·.2) = (L'.map uR).toArray := by rw [← out]
      exact hn.trans (by rw [eA])
    · rw [List.pairwise_iff_getElem]
      intro i j hi hj hij
      have := hst i j (Nat.le_of_lt hij) (by rw [sz]; exact hj)
      have kk : ∀ k (hk : k < L'.length), KK (PyProof.Rows.G.tupKindC s.heap shape) arr k = (L'[k].2.map kD) := fun k hk => by
        have e : arr[k]? = some (uR L'[k], uR L'[k]) := by
          rw [← Array.getElem?_toList, eL, List.getElem?_map, List.getElem?_eq_getElem hk]
          rfl
        unfold KK
        rw [e]
        show (PyProof.Rows.G.tupKeyC s.heap shape (uR L'[k])).getD [] = _
        rw [key _ (pL.mem_iff.mp (List.getElem_mem hk))]
        rfl
      rw [kk i hi, kk j hj] at this
      exact this
/-- (i, x) <= (j, y) -/
def leP (i : Int) (m : Str) (j : Int) (n : Str) : Bool := if i = j then !decide (n.cps.toList < m.cps.toList) else decide (i ≤ j)
def rLeP (K : PySem.W.Frag) : R2 := fun x y H Q => ∃ (a b : Addr) (i j : Int) (m n : Str), x = .ref a ∧ y = .ref b ∧ SqT K H a [.int i, .str m] ∧ SqT K H b [.int j, .str n] ∧ Q (.bl (leP i m j n)) H
theorem list_irr : ∀ l : List Nat, ¬ l < l
  | [] => fun h => by cases h
  | a :: r => fun h => by
    rcases List.cons_lt_cons_iff.mp h with h | ⟨_, h⟩
    · exact Nat.lt_irrefl _ h
    · exact list_irr r h
theorem op_leP (hu : X.A.units < cLine) : OpR X (compareOp .LtE) (rLeP X.K) := by
  intro pins s σ H x y v u Q I rx ry h
  obtain ⟨a, b, i, j, m, n, rfl, rfl, ha, hb, q⟩ := h
  cases rx
  cases ry
  obtain ⟨its, r1, p1, _⟩ := I.tuple ha
  obtain ⟨its2, r2, p2, _⟩ := I.tuple hb
  obtain ⟨u1, u2, rfl, ri, rm⟩ := vals2 r1
  obtain ⟨w1, w2, rfl, rj, rn⟩ := vals2 r2
  obtain ⟨t1, rfl⟩ := ri
  obtain ⟨t2, rfl⟩ := rm
  obtain ⟨t3, rfl⟩ := rj
  obtain ⟨t4, rfl⟩ := rn
  have R := Ob.RcOp.tuples_le (A := X.A) (s := s) (e := fun k => if k = 0 then (i == j) else (m == n)) (r := fun k => if k = 0 then decide (i ≤ j) else !decide (n.cps.toList < m.cps.toList)) p1 p2 hu (fun k h1 h2 => by
    match k, h1, h2 with
    | 0, _, _ => exact SeqAt.EqAt.int_int _ _ _ _
    | 1, _, _ => exact SeqAt.EqAt.str_str _ _ _ _
    | k + 2, h1, _ => exact absurd h1 (by simp)) (fun k h1 h2 _ => by
    match k, h1, h2 with
    | 0, _, _ => exact Ob.RcOp.le_int _ _ _ _
    | 1, _, _ => exact fun _ _ _ _ h => PySem.P.le_str h
    | k + 2, h1, _ => exact absurd h1 (by simp))
  have z : wpAny (model X.prog X.w) X.A (compareOp .LtE (.ref a) (.ref b)) (EP X pins σ Q) X.xe s := R X.prog X.w X.xe (EP X pins σ Q) ⟨.bl _, H, I, rfl, by
    have e : Ob.lexAt (fun k => if k = 0 then (i == j) else (m == n)) (fun k => if k = 0 then decide (i ≤ j) else !decide (n.cps.toList < m.cps.toList)) (decide (2 ≤ 2)) 0 2 = leP i m j n := by
      show (if (i == j) = true then (if (m == n) = true then true else !decide (n.cps.toList < m.cps.toList)) else decide (i ≤ j)) = _
      unfold leP
      by_cases h : i = j
      · rw [if_pos (beq_iff_eq.mpr h), if_pos h]
        by_cases k : m = n
        · subst k
          rw [if_pos (beq_iff_eq.mpr rfl), decide_eq_false (list_irr _)]
          rfl
        · rw [if_neg (fun z => k (beq_iff_eq.mp z))]
      · rw [if_neg (fun z => h (beq_iff_eq.mp z)), if_neg h]
    show Q (.bl (Ob.lexAt _ _ (decide (2 ≤ 2)) 0 (min 2 2))) H
    rw [show min 2 2 = 2 from rfl, e]
    exact q⟩
  exact z
end
end Gc

set_option Elab.async false
set_option linter.all false
set_option maxRecDepth 100000
set_option maxHeartbeats 4000000
/-! zip of two lists, of two tuples, or of a tuple and a list -/
namespace Gm
open L2 hiding Ext
open PySem PySem.Spec PyProof.Rows Gn Gk Gu
def ItM (K : PySem.W.Frag) (a b : Addr) : It where
  go := fun i H => ∃ xs ys x y, SqT K H a xs ∧ SqL K H b ys ∧ xs[i]? = some x ∧ ys[i]? = some y
  yld := fun i H v H' => ∃ T x y, v = V.ref T ∧ H T = none ∧ H' = upd H T (.tup [x, y]) ∧ (∀ xs, SqT K H a xs → xs[i]? = some x) ∧ ∀ ys, SqL K H b ys → ys[i]? = some y
  stop := fun i H => ∃ xs ys, SqT K H a xs ∧ SqL K H b ys ∧ i = min xs.length ys.length
def tnM (a b z TI TO i1 i2 : Addr) (i : Nat) (h : Heap) : Prop :=
  IsZip h z TI TO Value.none ∧ IsTupOf2 h TI (Value.ref i1) (Value.ref i2) ∧ (∃ x y, IsTupOf2 h TO x y) ∧ h.IsTupleIter i1 a i ∧ h.IsListIter i2 b i
theorem lt_of_get {h : Heap} {a : Addr} {o : Obj} (e : h.get? a = some o) : a < h.objs.size := Heap.lt_size e
theorem turn_zipM {P : Program} {w : World} {K : PySem.W.Frag} {elts : List Expr} {kk : Nat} {tpos : Pos} {a b z TI TO i1 i2 : Addr} (h : ZipApart z TI TO i1 i2 a b) :
    Turn P w K (Expr.Tuple elts kk tpos) (ItM K a b) [z, TI, TO, i1, i2] z (tnM a b z TI TO i1 i2) := by
  have sep : ZipSep2 z TI TO i1 i2 [i1, a] [i2, b] := by
    refine ⟨h.TIz, h.TOz, h.TITO, h.TIi1, by simp, ?_, ?_, h.TIi2, by simp, ?_, ?_, ?_, ?_⟩ <;>
      simp only [List.mem_cons, List.not_mem_nil, or_false, not_or]
    · exact ⟨h.i1z.symm, h.l1z.symm⟩
    · exact ⟨h.TOi1, h.l1TO.symm⟩
    · exact ⟨h.i2z.symm, h.l2z.symm⟩
    · exact ⟨h.TOi2, h.l2TO.symm⟩
    · exact ⟨h.i12, h.l2i1.symm⟩
    · exact ⟨h.i12.symm, h.l1i2.symm⟩
  refine ⟨by simp, ?_, ?_, ?_, ?_, ?_⟩
  · rintro i hp ⟨h1, h2, ⟨x, y, h3⟩, ⟨o4, h4, _, d4⟩, ⟨o5, h5, _, d5⟩⟩ b' hb
    simp only [List.mem_cons, List.not_mem_nil, or_false] at hb
    rcases hb with rfl | rfl | rfl | rfl | rfl
    · exact ⟨_, h1, fun v e => by cases e⟩
    · exact ⟨_, h2, fun v e => by cases e⟩
    · exact ⟨_, h3, fun v e => by cases e⟩
    · exact ⟨_, h4, fun v e => by rw [d4] at e; cases e⟩
    · exact ⟨_, h5, fun v e => by rw [d5] at e; cases e⟩
  · rintro i hp hp' ⟨h1, h2, ⟨x, y, h3⟩, ⟨o4, h4, c4, d4⟩, ⟨o5, h5, c5, d5⟩⟩ k
    exact ⟨k _ (by simp) _ h1, k _ (by simp) _ h2, ⟨x, y, k _ (by simp) _ h3⟩, ⟨o4, k _ (by simp) _ h4, c4, d4⟩, ⟨o5, k _ (by simp) _ h5, c5, d5⟩⟩
  · rintro X rfl rfl rfl hc i pins s σ H E I fp ⟨t1, t2, t3, t4, t5⟩ ⟨xs, ys, x, y, hx, hy, ex, ey⟩
    obtain ⟨its1, v1, p1, _⟩ := I.tuple hx
    obtain ⟨its2, v2, p2, _⟩ := I.list hy
    have hd : X.A.in1.handled = none := I.ok.hd hc
    have G := GoesN.zip2 (elts := elts) (x1 := kk) (pos := tpos) sep (Draws.tuple (prog := X.prog) (w := X.w) hd i1 a h.l1i1 its1.toArray) (Draws.list (prog := X.prog) (w := X.w) hd i2 b h.l2i2 its2.toArray)
    have hi1 := (List.getElem?_eq_some_iff.mp ex).1
    have hi2 := (List.getElem?_eq_some_iff.mp ey).1
    have l1 := v1.length
    have l2 := v2.length
    refine G.goes i s (fun u s2 => ∃ x H', L2.Inv X pins σ H' s2 ∧ L2.RelV x u ∧ (ItM X.K a b).yld i H x H' ∧ tnM a b z TI TO i1 i2 (i + 1) s2.heap ∧ ∀ b ∈ [z, TI, TO, i1, i2], H' b = none) E (by simp; omega) ⟨t1, t2, t3, ⟨t4, p1⟩, ⟨t5, p2.isList⟩⟩ ?_
    rintro v h' tk ⟨T, x', y', rfl, hT, e1, e2, tup⟩ ⟨s1, s2, s3, ⟨s4, _⟩, ⟨s5, _⟩⟩ keep _
    obtain ⟨u1, g1, r1⟩ := v1.get ex
    obtain ⟨u2, g2, r2⟩ := v2.get ey
    have e1 : its1[i]? = some x' := by simpa using e1
    have e2 : its2[i]? = some y' := by simpa using e2
    rw [g1] at e1
    rw [g2] at e2
    cases e1
    cases e2
    have fr := I.hok.fresh hT
    refine ⟨V.ref T, upd H T (.tup [x, y]), ?_, rfl, ⟨T, x, y, rfl, fr, rfl, fun xs' hx' => ?_, fun ys' hy' => ?_⟩, ⟨s1, s2, s3, s4, s5⟩, fun b' hb' => ?_⟩
    · refine I.turnedNew keep (fun b' hb' => fp b' ?_) hT ?_
      · simp only [List.mem_cons, List.not_mem_nil, or_false] at hb' ⊢
        rcases hb' with rfl | rfl | rfl | rfl <;> simp
      · exact ⟨by show 2 ≤ sizeLine; decide, _, .cons r1 (.cons r2 .nil), tup⟩
    · rw [I.tuple_inj hx' hx]; exact ex
    · rw [I.list_inj hy' hy]; exact ey
    · have : b' < s.heap.objs.size := by
        obtain ⟨x, y, t3⟩ := t3
        obtain ⟨o4, t4, _, _⟩ := t4
        obtain ⟨o5, t5, _, _⟩ := t5
        simp only [List.mem_cons, List.not_mem_nil, or_false] at hb'
        rcases hb' with rfl | rfl | rfl | rfl | rfl
        · exact lt_of_get t1
        · exact lt_of_get t2
        · exact lt_of_get t3
        · exact lt_of_get t4
        · exact lt_of_get t5
      rw [upd_ne (Nat.ne_of_lt (Nat.lt_of_lt_of_le this hT))]
      exact (fp b' hb').1
  · rintro X rfl rfl rfl hc i pins s σ H E I fp ⟨t1, t2, t3, t4, t5⟩ ⟨xs, ys, hx, hy, rfl⟩
    obtain ⟨its1, v1, p1, _⟩ := I.tuple hx
    obtain ⟨its2, v2, p2, _⟩ := I.list hy
    have hd : X.A.in1.handled = none := I.ok.hd hc
    have G := GoesN.zip2 (elts := elts) (x1 := kk) (pos := tpos) sep (Draws.tuple (prog := X.prog) (w := X.w) hd i1 a h.l1i1 its1.toArray) (Draws.list (prog := X.prog) (w := X.w) hd i2 b h.l2i2 its2.toArray)
    have l1 := v1.length
    have l2 := v2.length
    have en : min its1.toArray.size its2.toArray.size = min xs.length ys.length := by simp; omega
    rw [en] at G
    refine G.stops s (fun s1 => L2.Inv X pins σ H s1) E ⟨t1, t2, t3, ⟨t4, p1⟩, ⟨t5, p2.isList⟩⟩ fun h' tk keep _ => ?_
    exact I.turnedL keep fun b' hb' => fp b' (by
      simp only [List.mem_cons, List.not_mem_nil, or_false] at hb' ⊢
      rcases hb' with rfl | rfl | rfl | rfl <;> simp)
  · rintro A i s Q E ⟨t1, _⟩ q
    exact wpAny_pyIter_zip t1 q
/-- two lists, two tuples, or a tuple and a list -/
def iZipM (K : PySem.W.Frag) (ta : TA) : TI := fun σ H R => ta σ H fun vs H1 => ∃ a b xs ys, vs = [V.ref a, V.ref b] ∧
  ((SqL K H1 a xs ∧ SqL K H1 b ys ∧ R (Itz K a b) H1) ∨ (SqT K H1 a xs ∧ SqT K H1 b ys ∧ R (RZ.ItzT K a b) H1) ∨ (SqT K H1 a xs ∧ SqL K H1 b ys ∧ R (ItM K a b) H1))
theorem fp5 {X : Cx} {pins : List (Addr × Obj)} {σ : L2.St} {H : Hp} {s : Shared} (I : L2.Inv X pins σ H s) : ∀ b ∈ [s.heap.objs.size + 4, s.heap.objs.size + 2, s.heap.objs.size + 3, s.heap.objs.size, s.heap.objs.size + 1], FpOk X pins H b := fun b hb => by
  simp only [List.mem_cons, List.not_mem_nil, or_false] at hb
  have h : s.heap.objs.size ≤ b := by rcases hb with rfl | rfl | rfl | rfl | rfl <;> first | exact Nat.le_add_right _ _ | exact Nat.le_refl _
  exact I.fpOk h (I.hok.fresh h)
theorem pi_zipM {X : Cx} {e e2 : Expr} {ta : TA} {p pos tpos : Pos} {elts : List Expr} {kk : Nat} (hg : Gl X "zip") (hm : X.mg "zip" = none) (ha : PA X [e, e2] ta)
    (hs : starEach [e, e2] X.env = (false, eval e X.env) :: starEach [e2] X.env := by rfl) (hpl : ((backTo pos (starEach [e2] X.env)).any fun x => x.1) = false := by rfl) :
    PI X (Expr.Tuple elts kk tpos) ((Expr.Name "zip" p).Call [e, e2] [] pos) (iZipM X.K ta) := by
  refine ⟨fun pins s σ H R I h => Call_ (ld_blt I hg hm boot_zip (PyProof.Rows.callWith_type1 (thn (ha.run pos pins s σ H _ I h) ?_) hs hpl))⟩
  rintro us s1 ⟨vs, H1, I1, r1, a, b, xs, ys, rfl, q1⟩
  cases r1 with
  | cons r1 rr => cases rr with
    | cons r2 rr =>
      cases rr
      cases r1
      cases r2
      rcases q1 with ⟨hx, hy, hR⟩ | ⟨hx, hy, hR⟩ | ⟨hx, hy, hR⟩
      · obtain ⟨its1, v1, p1, _⟩ := I1.list hx
        obtain ⟨its2, v2, p2, _⟩ := I1.list hy
        refine zip_begins2 (begins_list a its1.toArray) (begins_list b its2.toArray) p1.isList p2.isList fun h' z1 z2 z3 z4 z5 z6 z7 => wpAny_pyIter_zip z1 ?_
        exact ⟨_, _, _, _, H1, rfl, I1.kept z7, turn_zip (PySem.W.ktu_apart _ a b p1.lt p2.lt), ⟨z1, z2, ⟨_, _, z3⟩, ⟨_, z4, rfl, rfl⟩, ⟨_, z5, rfl, rfl⟩⟩, fp5 I1, hR⟩
      · obtain ⟨its1, v1, p1, _⟩ := I1.tuple hx
        obtain ⟨its2, v2, p2, _⟩ := I1.tuple hy
        refine zip_begins2 (begins_tuple a its1.toArray) (begins_tuple b its2.toArray) p1 p2 fun h' z1 z2 z3 z4 z5 z6 z7 => wpAny_pyIter_zip z1 ?_
        obtain ⟨o1, g1, _⟩ := p1
        obtain ⟨o2, g2, _⟩ := p2
        exact ⟨_, _, _, _, H1, rfl, I1.kept z7, RZ.turn_zipT (PySem.W.ktu_apart _ a b (lt_of_get g1) (lt_of_get g2)), ⟨z1, z2, ⟨_, _, z3⟩, ⟨_, z4, rfl, rfl⟩, ⟨_, z5, rfl, rfl⟩⟩, fp5 I1, hR⟩
      · obtain ⟨its1, v1, p1, _⟩ := I1.tuple hx
        obtain ⟨its2, v2, p2, _⟩ := I1.list hy
        refine zip_begins2 (begins_tuple a its1.toArray) (begins_list b its2.toArray) p1 p2.isList fun h' z1 z2 z3 z4 z5 z6 z7 => wpAny_pyIter_zip z1 ?_
        obtain ⟨o1, g1, _⟩ := p1
        exact ⟨_, _, _, _, H1, rfl, I1.kept z7, turn_zipM (PySem.W.ktu_apart _ a b (lt_of_get g1) p2.lt), ⟨z1, z2, ⟨_, _, z3⟩, ⟨_, z4, rfl, rfl⟩, ⟨_, z5, rfl, rfl⟩⟩, fp5 I1, hR⟩
theorem walk_zipM {K : PySem.W.Frag} {a b : Addr} {xs ys : List V} {n : Nat} (h : n = min xs.length ys.length) : Walk (ItM K a b) n (fun H => SqT K H a xs ∧ SqL K H b ys) (YPair (fun i => xs[i]?) fun i => ys[i]?) := by
  refine ⟨fun i H hi g => ?_, fun H g => ?_, fun i H x H' hi g y => ?_⟩
  · exact ⟨xs, ys, _, _, g.1, g.2, List.getElem?_eq_getElem (by omega), List.getElem?_eq_getElem (by omega)⟩
  · exact ⟨xs, ys, g.1, g.2, h⟩
  · obtain ⟨T, x1, x2, e, hT, e2, k1, k2⟩ := y
    exact ⟨T, x1, x2, e, hT, e2, k1 xs g.1, k2 ys g.2⟩
/-- of one kind, or a tuple beside a list -/
def Mix (H : Hp) (a b : Addr) (xs ys : List V) : Prop := Gv.SameK H a b xs ys ∨ (H a = some (.tup xs) ∧ H b = some (.lst ys))
theorem Mix.ext {H H' : Hp} {a b : Addr} {xs ys : List V} (h : Mix H a b xs ys) (k : Ext H H') : Mix H' a b xs ys := h.elim (fun e => .inl (e.ext k)) (fun e => .inr ⟨k _ _ e.1, k _ _ e.2⟩)
def iZipV (i j : Nat) : TI := fun σ H R => ∃ (a b : Addr) (xs ys : List V), σ[i]? = some (some (.ref a)) ∧ σ[j]? = some (some (.ref b)) ∧ Mix H a b xs ys ∧ ∀ J, Walk J (min xs.length ys.length) (fun H' => H' a = H a ∧ H' b = H b) (YPair (fun i => xs[i]?) fun i => ys[i]?) → R J H
theorem iZip_ok {K : PySem.W.Frag} {i j : Nat} : ∀ (σ : L2.St) (H : Hp) (R : It → Hp → Prop), iZipV i j σ H R → iZipM K (tCons (tVar i) (tCons (tVar j) tNil)) σ H R := by
  rintro σ H R ⟨a, b, xs, ys, h1, h2, hc, k⟩
  rcases hc with (⟨h3, h4⟩ | ⟨h3, h4⟩) | ⟨h3, h4⟩
  · exact ⟨_, h1, _, h2, a, b, xs, ys, rfl, .inl ⟨SqL.of h3, SqL.of h4, k _ (wW (walk_zip rfl) fun H' e => ⟨SqL.of (e.1.trans h3), SqL.of (e.2.trans h4)⟩)⟩⟩
  · exact ⟨_, h1, _, h2, a, b, xs, ys, rfl, .inr (.inl ⟨SqT.of h3, SqT.of h4, k _ (wW (Gv.walk_zipT rfl) fun H' e => ⟨SqT.of (e.1.trans h3), SqT.of (e.2.trans h4)⟩)⟩)⟩
  · exact ⟨_, h1, _, h2, a, b, xs, ys, rfl, .inr (.inr ⟨SqT.of h3, SqL.of h4, k _ (wW (walk_zipM rfl) fun H' e => ⟨SqT.of (e.1.trans h3), SqL.of (e.2.trans h4)⟩)⟩)⟩
end Gm

set_option Elab.async false
set_option linter.all false
set_option maxRecDepth 100000
set_option maxHeartbeats 4000000
/-! enumerate of a list or of a tuple; `is not` of two truth values -/
namespace Gq
open L2 hiding Ext
open PySem PySem.Spec PyProof.Rows Gn Gk Gu
theorem wp_ite {α : Type} {M : Model} {A : Around} {E : Value → Shared → Prop} {s : Shared} {c : Prop} [Decidable c] {a b : Sem α} {Q : α → Shared → Prop} (h1 : wpAny M A a Q E s) (h2 : wpAny M A b Q E s) : wpAny M A (if c then a else b) Q E s := by
  by_cases h : c
  · rw [if_pos h]; exact h1
  · rw [if_neg h]; exact h2
theorem meets_enum1 {v : Value} {o : Obj} {H : Heap → Prop} (B : Begins v o H) :
    Meets (Builtin.«enumerate.__new__» { pos := [Value.type "enumerate", v] }) fun x R s =>
          H s.heap ∧
            R (Except.ok (Flow.ret (Value.ref (s.heap.push o).objs.size)))
              { heap := (s.heap.push o).push { cls := Value.type "enumerate", data := Data.fields #[Value.none, Value.bool false, Value.ref s.heap.objs.size, rawInt 0, Value.none, Value.none] },
                gens := s.gens, drawn := s.drawn, toks := s.toks, os := s.os } := by
  refine Meets.of_wp fun prog w A R s h => ?_
  obtain ⟨hp, g, d, tk, os⟩ := s
  obtain ⟨h1, h⟩ := h
  have q1 := fun {A'} {E Q} q => B.iter prog w A' E { heap := hp, gens := g, drawn := d, toks := tk, os := os } Q h1 q
  have hsub := sub_enumerate
  refine wpAny_bind ?_
  unfold Builtin.SmallTypes.newClass
  refine wpAny_bind ?_
  refine wpAny_pure ?_
  refine wpAny_ite_false rfl ?_
  refine wpAny_bind ?_
  refine wpAny_of_eq hsub ?_
  refine wpAny_ite_false rfl ?_
  refine wpAny_pure ?_
  refine wpAny_ite_true rfl ?_
  refine wpAny_bind ?_
  unfold Builtin.SmallTypes.calledThroughType
  refine wpAny_bind ?_
  refine wpAny_stack_any fun st => wpAny_pure ?_
  refine wp_ite ?_ ?_
  all_goals
    refine wpAny_bind ?_
    refine wpAny_pure ?_
    refine wpAny_bind (q1 ?_)
    refine wpAny_bind ?_
    unfold Builtin.SmallTypes.newRecord
    unfold newObj
    refine wpAny_bind (wpAny_alloc ?_)
    refine wpAny_pure ?_
    refine wpAny_pure ?_
    exact ⟨_, rfl, h⟩
theorem call_enum1 {prog : Program} {w : World} {A : Around} {E : Value → Shared → Prop} {s : Shared} {v : Value} {o : Obj} {H : Heap → Prop} {Q : Value → Shared → Prop} (B : Begins v o H) (h1 : H s.heap)
    (h : ∀ h' : Heap, IsEnum h' (s.heap.objs.size + 1) s.heap.objs.size 0 Value.none → h'.get? s.heap.objs.size = some o → h'.objs.size = s.heap.objs.size + 2 → (∀ (b : Addr) (o : Obj), s.heap.get? b = some o → h'.get? b = some o) →
      Q (Value.ref (s.heap.objs.size + 1)) { heap := h', gens := s.gens, drawn := s.drawn, toks := s.toks, os := s.os }) : wpAny (model prog w) A (call (Value.type "enumerate") [v]) Q E s := by
  refine callType_new F.called_enumerate (by decide) (F.typeCall_enumerate_1 v) (F.newCall_enumerate_1 v) (fun obj => F.args_object_init_2 obj v) F.entry_enumerate_new (meets_enum1 B) ⟨h1, ?_⟩
  have hz := Heap.size_push s.heap o
  have he : ((s.heap.push o).push { cls := Value.type "enumerate", data := Data.fields #[Value.none, Value.bool false, Value.ref s.heap.objs.size, rawInt 0, Value.none, Value.none] }).get? (s.heap.push o).objs.size = some { cls := Value.type "enumerate", data := Data.fields #[Value.none, Value.bool false, Value.ref s.heap.objs.size, rawInt 0, Value.none, Value.none] } := Heap.get?_push_size (s.heap.push o) rfl
  show _ ∧ _
  rw [hz] at he ⊢
  refine ⟨⟨_, he, rfl⟩, h _ he (Heap.get?_push_of_some _ (Heap.get?_push_size s.heap B.free)) (by rw [Heap.size_push, hz]) fun b o' x => Heap.get?_push_of_some _ (Heap.get?_push_of_some o x)⟩
def ItE (K : PySem.W.Frag) (a : Addr) : It where
  go := fun i H => ∃ xs x, SqT K H a xs ∧ xs[i]? = some x
  yld := fun i H v H' => ∃ T x, v = V.ref T ∧ H T = none ∧ H' = upd H T (.tup [.int (i : Nat), x]) ∧ ∀ xs, SqT K H a xs → xs[i]? = some x
  stop := fun i H => ∃ xs, SqT K H a xs ∧ i = xs.length
def tnE (a e it : Addr) (i : Nat) (h : Heap) : Prop := (∃ old, IsEnum h e it ((0 : Int) + (i : Nat)) old) ∧ h.IsTupleIter it a i
theorem turn_enumT {P : Program} {w : World} {K : PySem.W.Frag} {elts : List Expr} {kk : Nat} {tpos : Pos} {a e it : Addr} (h1 : e ≠ it) (h2 : a ≠ e) (h3 : a ≠ it) :
    Turn P w K (Expr.Tuple elts kk tpos) (ItE K a) [e, it] e (tnE a e it) := by
  refine ⟨by simp, ?_, ?_, ?_, ?_, ?_⟩
  · rintro i hp ⟨⟨old, h1⟩, ⟨o4, h4, _, d4⟩⟩ b' hb
    simp only [List.mem_cons, List.not_mem_nil, or_false] at hb
    rcases hb with rfl | rfl
    · exact ⟨_, h1, fun v e => by cases e⟩
    · exact ⟨_, h4, fun v e => by rw [d4] at e; cases e⟩
  · rintro i hp hp' ⟨⟨old, h1⟩, ⟨o4, h4, c4, d4⟩⟩ k
    exact ⟨⟨old, k _ (by simp) _ h1⟩, ⟨o4, k _ (by simp) _ h4, c4, d4⟩⟩
  · rintro X rfl rfl rfl hc i pins s σ H E I fp ⟨t1, t4⟩ ⟨xs, x, hx, ex⟩
    obtain ⟨its1, v1, p1, _⟩ := I.tuple hx
    have hd : X.A.in1.handled = none := I.ok.hd hc
    have G := GoesN.enumFrom (elts := elts) (x1 := kk) (pos := tpos) 0 (Draws.tuple (prog := X.prog) (w := X.w) hd it a h3 its1.toArray) e h1 (by simp only [List.mem_cons, List.not_mem_nil, or_false, not_or]; exact ⟨h1, h2.symm⟩) (by simp)
    have hi1 := (List.getElem?_eq_some_iff.mp ex).1
    have l1 := v1.length
    refine G.goes i s (fun u s2 => ∃ x H', L2.Inv X pins σ H' s2 ∧ L2.RelV x u ∧ (ItE X.K a).yld i H x H' ∧ tnE a e it (i + 1) s2.heap ∧ ∀ b ∈ [e, it], H' b = none) E (by simp; omega) ⟨t1, t4, p1⟩ ?_
    rintro v h' tk ⟨T, t, x', rfl, hT, e1, tup⟩ ⟨s1, s4, _⟩ keep _
    obtain ⟨u1, g1, r1⟩ := v1.get ex
    have e1 : its1[i]? = some x' := by simpa using e1
    rw [g1] at e1
    cases e1
    have fr := I.hok.fresh hT
    refine ⟨V.ref T, upd H T (.tup [.int (i : Nat), x]), ?_, rfl, ⟨T, x, rfl, fr, rfl, fun xs' hx' => ?_⟩, ⟨s1, s4⟩, fun b' hb' => ?_⟩
    · refine I.turnedNew keep (fun b' hb' => fp b' hb') hT ?_
      refine ⟨by show 2 ≤ sizeLine; decide, _, .cons (b := Value.int (0 + (i : Nat)) t) ⟨t, ?_⟩ (.cons r1 .nil), tup⟩
      rw [Int.zero_add]
    · rw [I.tuple_inj hx' hx]; exact ex
    · have : b' < s.heap.objs.size := by
        obtain ⟨old, t1⟩ := t1
        obtain ⟨o4, t4, _, _⟩ := t4
        simp only [List.mem_cons, List.not_mem_nil, or_false] at hb'
        rcases hb' with rfl | rfl
        · exact Gm.lt_of_get t1
        · exact Gm.lt_of_get t4
      rw [upd_ne (Nat.ne_of_lt (Nat.lt_of_lt_of_le this hT))]
      exact (fp b' hb').1
  · rintro X rfl rfl rfl hc i pins s σ H E I fp ⟨t1, t4⟩ ⟨xs, hx, rfl⟩
    obtain ⟨its1, v1, p1, _⟩ := I.tuple hx
    have hd : X.A.in1.handled = none := I.ok.hd hc
    have G := GoesN.enumFrom (elts := elts) (x1 := kk) (pos := tpos) 0 (Draws.tuple (prog := X.prog) (w := X.w) hd it a h3 its1.toArray) e h1 (by simp only [List.mem_cons, List.not_mem_nil, or_false, not_or]; exact ⟨h1, h2.symm⟩) (by simp)
    have l1 := v1.length
    have en : its1.toArray.size = xs.length := by simp; omega
    rw [en] at G
    refine G.stops s (fun s1 => L2.Inv X pins σ H s1) E ⟨t1, t4, p1⟩ fun h' tk keep _ => ?_
    exact I.turnedL keep fun b' hb' => fp b' hb'
  · rintro A i s Q E ⟨⟨old, t1⟩, _⟩ q
    exact wpAny_pyIter_enum t1 q
theorem fp2 {X : Cx} {pins : List (Addr × Obj)} {σ : L2.St} {H : Hp} {s : Shared} (I : L2.Inv X pins σ H s) : ∀ b ∈ [s.heap.objs.size + 1, s.heap.objs.size], FpOk X pins H b := fun b hb => by
  simp only [List.mem_cons, List.not_mem_nil, or_false] at hb
  have h : s.heap.objs.size ≤ b := by rcases hb with rfl | rfl <;> first | exact Nat.le_add_right _ _ | exact Nat.le_refl _
  exact I.fpOk h (I.hok.fresh h)
/-- a list or a tuple -/
def iEnumM (K : PySem.W.Frag) (ta : TA) : TI := fun σ H R => ta σ H fun vs H1 => ∃ a xs, vs = [V.ref a] ∧ ((SqL K H1 a xs ∧ R (Ite K a) H1) ∨ (SqT K H1 a xs ∧ R (ItE K a) H1))
theorem ne_lt {a N : Nat} (h : a < N) : a ≠ N + 1 ∧ a ≠ N := by omega
theorem pi_enumM {X : Cx} {e : Expr} {ta : TA} {p pos tpos : Pos} {elts : List Expr} {kk : Nat} (hg : Gl X "enumerate") (hm : X.mg "enumerate" = none) (ha : PA X [e] ta)
    (hs : starEach [e] X.env = (false, eval e X.env) :: starEach [] X.env := by rfl) (hpl : ((backTo pos (starEach [] X.env)).any fun x => x.1) = false := by rfl) :
    PI X (Expr.Tuple elts kk tpos) ((Expr.Name "enumerate" p).Call [e] [] pos) (iEnumM X.K ta) := by
  refine ⟨fun pins s σ H R I h => Call_ (ld_blt I hg hm boot_enumerate (PyProof.Rows.callWith_type1 (thn (ha.run pos pins s σ H _ I h) ?_) hs hpl))⟩
  rintro us s1 ⟨vs, H1, I1, r1, a, xs, rfl, q1⟩
  cases r1 with
  | cons r1 rr =>
    cases rr
    cases r1
    rcases q1 with ⟨hx, hR⟩ | ⟨hx, hR⟩
    · obtain ⟨its1, v1, p1, _⟩ := I1.list hx
      refine call_enum1 (begins_list a its1.toArray) p1.isList fun h' z1 z2 z3 z4 => wpAny_pyIter_enum z1 ?_
      exact ⟨_, _, _, _, H1, rfl, I1.kept z4, turn_enum a _ _, ⟨⟨_, z1⟩, ⟨_, z2, rfl, rfl⟩, Nat.succ_ne_self _⟩, fp2 I1, hR⟩
    · obtain ⟨its1, v1, p1, _⟩ := I1.tuple hx
      refine call_enum1 (begins_tuple a its1.toArray) p1 fun h' z1 z2 z3 z4 => wpAny_pyIter_enum z1 ?_
      obtain ⟨o1, g1, _⟩ := p1
      obtain ⟨n1, n2⟩ := ne_lt (Gm.lt_of_get g1)
      exact ⟨_, _, _, _, H1, rfl, I1.kept z4, turn_enumT (Nat.succ_ne_self _) n1 n2, ⟨⟨_, z1⟩, ⟨_, z2, rfl, rfl⟩⟩, fp2 I1, hR⟩
theorem walk_enumT {K : PySem.W.Frag} {a : Addr} {xs : List V} : Walk (ItE K a) xs.length (fun H => SqT K H a xs) (YPair (fun i => some (V.int (i : Nat))) fun i => xs[i]?) := by
  refine ⟨fun i H hi g => ?_, fun H g => ?_, fun i H x H' hi g y => ?_⟩
  · exact ⟨xs, _, g, List.getElem?_eq_getElem (by omega)⟩
  · exact ⟨xs, g, rfl⟩
  · obtain ⟨T, x1, e, hT, e2, k1⟩ := y
    exact ⟨T, _, x1, e, hT, e2, rfl, k1 xs g⟩
def iEnumV (i : Nat) : TI := fun σ H R => ∃ (a : Addr) (xs : List V), σ[i]? = some (some (.ref a)) ∧ ClAt H a xs ∧ ∀ J, Walk J xs.length (fun H' => H' a = H a) (YPair (fun i => some (V.int (i : Nat))) fun i => xs[i]?) → R J H
theorem iEnum_ok {K : PySem.W.Frag} {i : Nat} : ∀ (σ : L2.St) (H : Hp) (R : It → Hp → Prop), iEnumV i σ H R → iEnumM K (tCons (tVar i) tNil) σ H R := by
  rintro σ H R ⟨a, xs, h1, hc, k⟩
  rcases hc with h3 | h3
  · exact ⟨_, h1, a, xs, rfl, .inl ⟨SqL.of h3, k _ (wW walk_enum fun H' e => SqL.of (e.trans h3))⟩⟩
  · exact ⟨_, h1, a, xs, rfl, .inr ⟨SqT.of h3, k _ (wW walk_enumT fun H' e => SqT.of (e.trans h3))⟩⟩
theorem same_bool (b c : Bool) : isSame (Value.bool b) (Value.bool c) = pure (b == c) := by cases b <;> cases c <;> rfl
theorem op_isnotB {X : Cx} : OpR X (compareOp CmpOp.IsNot) fun x y H Q => ∃ b c, x = V.bl b ∧ y = V.bl c ∧ Q (V.bl (!(b == c))) H := by
  rintro pins s σ H x y v u Q I r1 r2 ⟨b, c, rfl, rfl, q⟩
  cases r1
  cases r2
  unfold compareOp
  refine wpAny_bind ?_
  refine wpAny_of_eq (same_bool b c) ?_
  refine wpAny_pure ?_
  exact fin_bl I q rfl
end Gq

set_option Elab.async false
set_option linter.all false
set_option maxRecDepth 100000
set_option maxHeartbeats 4000000
namespace Lw
open L2 hiding Ext
open PySem PySem.Spec PyProof.Rows Gn Gr Gk Go Gt Gf Gu
abbrev PQ := (Str → Int) × Int × List (Str × Int)
def payS (q : PQ) (n : Str) : PQ := if 0 < min (q.1 n) q.2.1 then (at_ q.1 n (q.1 n - min (q.1 n) q.2.1), q.2.1 - min (q.1 n) q.2.1, q.2.2 ++ [(n, min (q.1 n) q.2.1)]) else q
theorem payR_snoc : ∀ (a : List Str) (n : Str) (t : Str → Int) (z : Int), payR t (a ++ [n]) z = payS (payR t a z) n
  | [], n, t, z => by
    show (if 0 < min (t n) z then _ else payR t [] z) = payS (t, z, []) n
    unfold payS
    by_cases h : 0 < min (t n) z
    · rw [if_pos h, if_pos h]; rfl
    · rw [if_neg h, if_neg h]; rfl
  | m :: r, n, t, z => by
    show payR t (m :: (r ++ [n])) z = _
    unfold payR
    by_cases h : 0 < min (t m) z
    · rw [if_pos h, if_pos h, payR_snoc r n]
      generalize payR (at_ t m (t m - min (t m) z)) r (z - min (t m) z) = q
      unfold payS
      by_cases h2 : 0 < min (q.1 n) q.2.1
      · rw [if_pos h2, if_pos h2]; rfl
      · rw [if_neg h2, if_neg h2]
    · rw [if_neg h, if_neg h]
      exact payR_snoc r n t z
theorem payR_len : ∀ (a : List Str) (t : Str → Int) (z : Int), (payR t a z).2.2.length ≤ a.length
  | [], t, z => Nat.le_refl _
  | m :: r, t, z => by
    unfold payR
    by_cases h : 0 < min (t m) z
    · rw [if_pos h]
      exact Nat.succ_le_succ (payR_len r _ _)
    · rw [if_neg h]
      exact Nat.le_succ_of_le (payR_len r _ _)
theorem cs_snoc {H H' : Hp} {xs : List V} {cs : List (Str × Int)} {p : Addr} {c : Str × Int} (h : CsAt H xs cs) (k : ∀ q u, H q = some (.tup u) → H' q = some (.tup u)) (hp : H' p = some (.tup [.str c.1, .int c.2])) : CsAt H' (xs ++ [.ref p]) (cs ++ [c]) := by
  refine ⟨by rw [List.length_append, List.length_append, h.1]; rfl, fun i c' hc => ?_⟩
  by_cases hi : i < cs.length
  · rw [List.getElem?_append_left hi] at hc
    obtain ⟨q, h1, h2⟩ := h.2 i c' hc
    exact ⟨q, by rw [List.getElem?_append_left (by rw [h.1]; exact hi)]; exact h1, k _ _ h2⟩
  · rw [List.getElem?_append_right (by omega)] at hc
    obtain ⟨rfl, rfl⟩ : i = cs.length ∧ c' = c := by
      have hl := (List.getElem?_eq_some_iff.mp hc).1
      have hl : i - cs.length < 1 := hl
      have e : i = cs.length := by omega
      subst e
      rw [Nat.sub_self] at hc
      cases hc
      exact ⟨rfl, rfl⟩
    exact ⟨p, by rw [List.getElem?_append_right (by rw [h.1]; exact Nat.le_refl _), h.1, Nat.sub_self]; rfl, hp⟩
section
variable {P : Program} {w : World} {K : PySem.W.Frag} {mg : Str → Option Value} {base : Heap} {C fI pN fN fA : Addr} {mc : Value} {fdN fdA : FuncData}
/-! ### pay -/
abbrev nPay : List Str := ["left", "names", "due", "pairs", "name", "part"]
def spPay : Sp := fun vs H Q _ => ∃ (b l : Addr) (ns ws : List Str) (t : Str → Int) (z : Int), vs = [.ref b, .ref l, .int z] ∧ H b = some (.dK (dN ns t)) ∧ H l = some (.lst (ws.map V.str)) ∧ (∀ n ∈ ws, n ∈ ns) ∧ ns.length ≤ 8 ∧ ws.length ≤ 8 ∧
  ∀ H' p xs, ExtD b H H' → H p = none → H' p = some (.lst xs) → CsAt H' xs (payR t ws z).2.2 → H' b = some (.dK (dN ns (payR t ws z).1)) → Q (.ref p) H'
theorem scPay : FnScope nPay ["left", "names", "due"] (defScope sPay) := ⟨rfl, rfl, rfl, by decide +kernel, rfl, by decide +kernel, by decide +kernel⟩
theorem ok_pay {f : Addr} {fd : FuncData} (F : Fun K "pay" "pay" sPay f fd) (T : Names mg) : FnOk P w K mg base CX0 1 f fd ["left", "names", "due"] spPay := by
  refine F.ok scPay (fun vs H Q E h => ?_) (fun cdv A outer s H vs Q E hr h => ?_)
  · obtain ⟨b, l, ns, ws, t, z, rfl, _⟩ := h
    rfl
  · obtain ⟨b, l, ns, ws, t, z, rfl, hb, hl, hn, hns, hws, k⟩ := h
    have hu := hu_of hr
    have nd := scPay.nd
    refine ⟨_, pss_cons (ps_set (i := 3) nd rfl (.inl rfl) (pe_lst pa_nil))
(pss_cons (ps_for PassesOwn.never rfl (pi_list (pv 1)) (pg_name (i := 4) nd rfl (.inl rfl))
(pss_cons (ps_set (i := 5) nd rfl (.inl rfl) (pe_callB (call_min2 rfl) rfl T.min (by decide +kernel) (pa_cons (pe_dget hu (pv 0) (pv 4) (fun _ _ => rfl)) (pa_cons (pv 2) pa_nil))))
(pss_one (ps_if (pt_cmpR op_gt (pv 5) pe_int (nomark _)) (pss_cons (ps_daug hu (pv 0) (pv 4) (pv 5) in_sub (fun _ _ _ => rfl))
(pss_cons (ps_aug (i := 2) nd rfl (.inl rfl) (pv 5) ip_sub)
(pss_one (ps_expr (pe_bm PySem.F.plainAttrs_list PySem.F.slot_list_append PySem.F.type_list_append mt_append (pv 3) (pa_cons (pe_tup (pa_cons (pv 4) (pa_cons (pv 5) pa_nil))) pa_nil)))))) pss_nil))))
(pss_one (ps_ret (pv 3)))), ?_⟩
    refine ⟨Nat.zero_le _, fun p hp => ?_⟩
    have hpb : p ≠ b := (ne_of_none hb hp).symm
    have hlb : l ≠ b := ne_of hl hb (by intro e; cases e)
    have hlp : l ≠ p := ne_of_none hl hp
    have b1 := new_same (o := .lst []) hp _ _ hb
    have l1 := new_same (o := .lst []) hp _ _ hl
    have p1 : (upd H p (.lst [])) p = some (.lst []) := upd_same
    have k1 : Ext H (upd H p (.lst [])) := Ext.new hp
    generalize upd H p (.lst []) = H1 at b1 l1 p1 k1 ⊢
    refine ⟨_, rfl, l, rfl, ⟨_, SqL.of l1⟩, ?_⟩
    refine for_it walk_list (fun i σ H' => ∃ (v4 v5 : Option V) (xs : List V), σ = [some (.ref b), some (.ref l), some (.int (payR t (ws.take i) z).2.1), some (.ref p), v4, v5] ∧
        H' b = some (.dK (dN ns (payR t (ws.take i) z).1)) ∧ H' p = some (.lst xs) ∧ CsAt H' xs (payR t (ws.take i) z).2.2 ∧ Ext2 b p H1 H')
      ⟨none, none, [], rfl, b1, p1, ⟨rfl, fun i c h => by cases h⟩, Ext2.refl⟩ (fun i σ H' _ ⟨_, _, _, _, _, _, _, e⟩ => SqL.of (e _ _ hlb hlp l1)) ?_ ?_
    · rintro i y σ H2 H2' hi ⟨v4, v5, xs, rfl, b2, p2, c2, k2⟩ ⟨rfl, hy⟩
      rw [List.getElem?_map] at hy
      obtain ⟨n, hn1, rfl⟩ := Option.map_eq_some_iff.mp hy
      have hnn := hn n (List.mem_of_getElem? hn1)
      have es := payR_snoc (ws.take i) n t z
      rw [← take_snoc hn1] at es
      have el := payR_len (ws.take i) t z
      rw [List.length_take] at el
      generalize payR t (ws.take (i + 1)) z = q2 at es ⊢
      generalize payR t (ws.take i) z = q at b2 c2 el es ⊢
      obtain ⟨tt, zz, cc⟩ := q
      obtain ⟨t2, z2, c3⟩ := q2
      unfold payS at es
      have es : (t2, z2, c3) = if 0 < min (tt n) zz then (at_ tt n (tt n - min (tt n) zz), zz - min (tt n) zz, cc ++ [(n, min (tt n) zz)]) else (tt, zz, cc) := es
      have xl : xs.length ≤ 8 := by
        rw [c2.1]
        have el : cc.length ≤ min i ws.length := el
        show cc.length ≤ 8
        omega
      refine ⟨_, rfl, _, rfl, b, _, rfl, get_dN (.inl b2) hnn, _, rfl, _, _, rfl, ?_⟩
      have em : (if zz < tt n then zz else tt n) = min (tt n) zz := by
        by_cases h : zz < tt n
        · rw [if_pos h]; omega
        · rw [if_neg h]; omega
      rw [em]
      refine ⟨_, rfl, _, _, rfl, rfl, _, rfl, ?_⟩
      show if decide (0 < min (tt n) zz) = true then _ else _
      refine ite2 (fun e => ?_) (fun e => ?_)
      · have e := of_decide_eq_true e
        rw [if_pos e] at es
        cases es
        refine ⟨_, rfl, _, rfl, b, _, rfl, get_dN (.inl b2) hnn, _, rfl, _, _, rfl, rfl, _, put_dN b2 hnn hns, ?_⟩
        have p3 : (upd H2' b (.dK (dN ns (at_ tt n (tt n - min (tt n) zz))))) p = some (.lst xs) := by rw [upd_ne hpb]; exact p2
        refine ⟨_, rfl, _, rfl, _, _, rfl, rfl, ?_⟩
        refine ⟨_, rfl, .inl ⟨rfl, _, SqL.of p3⟩, _, rfl, _, rfl, by show 2 ≤ sizeLine; decide, fun u hu => ?_⟩
        have b3 := new_same (o := .tup [.str n, .int (min (tt n) zz)]) hu _ _ (upd_same (H := H2') (a := b) (o := .dK (dN ns (at_ tt n (tt n - min (tt n) zz)))))
        have p4 := new_same (o := .tup [.str n, .int (min (tt n) zz)]) hu _ _ p3
        have u4 : (upd (upd H2' b (.dK (dN ns (at_ tt n (tt n - min (tt n) zz))))) u (.tup [.str n, .int (min (tt n) zz)])) u = some (.tup [.str n, .int (min (tt n) zz)]) := upd_same
        have kt : ∀ q o, q ≠ b → H2' q = some o → (upd (upd H2' b (.dK (dN ns (at_ tt n (tt n - min (tt n) zz))))) u (.tup [.str n, .int (min (tt n) zz)])) q = some o := fun q o hq e => by
          refine new_same (o := .tup [.str n, .int (min (tt n) zz)]) hu _ _ ?_
          rw [upd_ne hq]
          exact e
        generalize upd (upd H2' b (.dK (dN ns (at_ tt n (tt n - min (tt n) zz))))) u (.tup [.str n, .int (min (tt n) zz)]) = H4 at b3 p4 u4 kt ⊢
        refine ⟨p, xs, _, rfl, rfl, p4, small1000 (by omega), ?_⟩
        have up : u ≠ p := ne_of u4 p4 (by intro e; cases e)
        refine ⟨_, _, _, rfl, ?_, upd_same, cs_snoc c2 (fun q o hq => ?_) (by rw [upd_ne up]; exact u4), fun x o n1 n2 hx => ?_⟩
        · rw [upd_ne hpb.symm]
          exact b3
        · have hqb : q ≠ b := ne_of hq b2 (by intro e; cases e)
          have hqp : q ≠ p := ne_of hq p2 (by intro e; cases e)
          rw [upd_ne hqp]
          exact kt _ _ hqb hq
        · rw [upd_ne n2]
          exact kt _ _ n1 (k2 _ _ n1 n2 hx)
      · have e : ¬ 0 < min (tt n) zz := fun h => e (decide_eq_true h)
        rw [if_neg e] at es
        cases es
        exact ⟨_, _, xs, rfl, b2, p2, c2, k2⟩
    · rintro σ H2 ⟨v4, v5, xs, rfl, b2, p2, c2, k2⟩
      rw [List.length_map, List.take_length] at b2 c2
      exact ⟨_, rfl, k H2 p xs (fun x o n1 hx => k2 _ _ n1 (ne_of_none hx hp) (k1 _ _ hx)) hp p2 c2 b2⟩
end
end Lw

set_option Elab.async false
set_option linter.all false
set_option maxRecDepth 100000
set_option maxHeartbeats 4000000
namespace Lw
open L2 hiding Ext
open PySem PySem.Spec PyProof.Rows Gn Gr Gk Go Gt Gf Gu
/-! ### the mathematics of what is left -/
theorem addL_is : ∀ (ns : List Str) (t : Str → Int) (z : Int) (m : Str), addL t ns z m = t m + (ns.count m : Nat) * z
  | [], t, z, m => by simp [addL]
  | n :: r, t, z, m => by
    show addL (at_ t n (t n + z)) r z m = _
    rw [addL_is r]
    by_cases e : m = n
    · subst e
      rw [at_same, List.count_cons_self]
      have : ((r.count m + 1 : Nat) : Int) * z = (r.count m : Nat) * z + z := by rw [Int.natCast_add, Int.add_mul]; simp
      omega
    · rw [at_ne e, List.count_cons_of_ne (fun h => e h.symm)]
def uStep (rs : List FRow) (t : Str → Int) (q : (Str × Int) × Int) : Str → Int := addL t (anc rs q.1.1) (-q.2)
def unsF (rs : List FRow) (bs cs : List (Str × Int)) (ps : List Int) : Str → Int := (cs.zip ps).foldl (uStep rs) (totF rs bs)
def unsT (rs : List FRow) (bs cs : List (Str × Int)) (ps : List Int) (i : Nat) : Str → Int := ((cs.zip ps).take i).foldl (uStep rs) (totF rs bs)
theorem unsT_s {rs : List FRow} {bs cs : List (Str × Int)} {ps : List Int} {i : Nat} {c : Str × Int} {z : Int} (h1 : cs[i]? = some c) (h2 : ps[i]? = some z) : unsT rs bs cs ps (i + 1) = addL (unsT rs bs cs ps i) (anc rs c.1) (-z) := by
  unfold unsT
  rw [take_snoc (zip_at h1 h2), List.foldl_append]
  rfl
theorem uns_gen (rs : List FRow) (m : Str) : ∀ (L : List ((Str × Int) × Int)) (t1 t2 : Str → Int), (L.foldl (uStep rs) t1) m = t1 m - ((L.foldl (cStep rs) t2) m - t2 m)
  | [], t1, t2 => by show t1 m = t1 m - (t2 m - t2 m); omega
  | q :: r, t1, t2 => by
    show (r.foldl (uStep rs) (uStep rs t1 q)) m = t1 m - ((r.foldl (cStep rs) (cStep rs t2 q)) m - t2 m)
    rw [uns_gen rs m r (uStep rs t1 q) (cStep rs t2 q)]
    have a := addL_is (anc rs q.1.1) t1 (-q.2) m
    have b := addL_is (anc rs q.1.1) t2 q.2 m
    rw [Int.mul_neg] at a
    unfold uStep cStep
    omega
theorem uns_is (rs : List FRow) (bs cs : List (Str × Int)) (ps : List Int) (m : Str) : unsF rs bs cs ps m = totF rs bs m - cntF rs cs ps m := by
  have := uns_gen rs m (cs.zip ps) (totF rs bs) (fun _ => 0)
  unfold unsF cntF
  rw [this]
  show _ - (_ - (0 : Int)) = _
  omega
theorem over_is (rs : List FRow) (bs cs : List (Str × Int)) (ps : List Int) : ((fNames rs).find? fun n => decide (unsF rs bs cs ps n < 0)) = overF rs bs cs ps := by
  unfold overF
  congr 1
  funext n
  rw [uns_is]
  exact decide_eq_decide.mpr ⟨fun h => by omega, fun h => by omega⟩
def SpOk (cs : List (Str × Int)) (ps : List Int) : Prop := ps.length = cs.length ∧ ∀ z ∈ ps, 0 ≤ z
section
variable {P : Program} {w : World} {K : PySem.W.Frag} {mg : Str → Option Value} {base : Heap} {C fI pN fN fA : Addr} {mc : Value} {fdN fdA : FuncData}
/-! ### check_spent -/
abbrev nCkSp : List Str := ["claims", "spent", "number"]
def spCkSp : Sp := fun vs H Q _ => ∃ (cl sl : Addr) (xs : List V) (ps : List Int), vs = [.ref cl, .ref sl] ∧ ClAt H cl xs ∧ ClAt H sl (ps.map V.int) ∧ ps.length = xs.length ∧ (∀ z ∈ ps, 0 ≤ z) ∧ ps.length ≤ 900 ∧ ∀ H', Ext H H' → Q .non H'
theorem scCkSp : FnScope nCkSp ["claims", "spent"] (defScope sCheckSpent) := ⟨rfl, rfl, rfl, by decide +kernel, rfl, by decide +kernel, by decide +kernel⟩
theorem ok_ckSp {f fJ : Addr} {fd fdJ : FuncData} (F : Fun K "check_spent" "check_spent" sCheckSpent f fd) (T : Names mg)
    (GI : FnOk P w K mg base CX0 1 fJ fdJ ["value"] spInt) (bI : Binds K fdJ ["value"] []) (kI : PySem.W.keepIn K (.ref fJ) = true) (mI : mg "is_int" = some (.ref fJ)) : FnOk P w K mg base CX0 2 f fd ["claims", "spent"] spCkSp := by
  refine F.ok scCkSp (fun vs H Q E h => ?_) (fun cdv A outer s H vs Q E hr h => ?_)
  · obtain ⟨cl, sl, xs, ps, rfl, _⟩ := h
    rfl
  · obtain ⟨cl, sl, xs, ps, rfl, hcl, hsl, hl, h0, h9, k⟩ := h
    have hu := hu_of hr
    have nd := scCkSp.nd
    refine ⟨_, pss_cons (ps_if (pt_not (pt_val (pe_callB call_isiT rfl T.isi (by decide +kernel) (pa_cons (pv 1) (pa_cons (pe_tup (pa_cons (pe_bltn (v := .ty "list") rfl T.list (by decide +kernel) rfl) (pa_cons (pe_bltn (v := .ty "tuple") rfl T.tuple (by decide +kernel) rfl) pa_nil))) pa_nil))))) (pss_never) pss_nil)
(pss_cons (ps_if (pt_cmpR op_ne (pe_callB call_len_seq rfl T.len PySem.boot_len (pa_cons (pv 1) pa_nil)) (pe_callB call_len_seq rfl T.len PySem.boot_len (pa_cons (pv 0) pa_nil)) (nomark _)) (pss_never) pss_nil)
(pss_one (ps_if (pt_not (pt_val (pe_callB (cr_all rfl) rfl T.all (by decide +kernel) (pa_cons (pe_lc (own := [("number", 2)]) (g := gName 2) (tt := tYes) rfl nd (pi_seqV (pv 1)) (blkOk_by (N := nCkSp) (sc := defScope sCheckSpent) (by decide +kernel))
(fun _ _ _ _ _ => pg_name (i := 2) nd rfl (.inl rfl)) (fun _ _ _ _ _ => pts_nil) (fun _ _ _ _ _ => (pe_and (pe_call GI hr rfl mI kI bI .nil pass0 (pa_cons (pv 2) pa_nil)) (pe_one (pe_cmpR op_ge (pv 2) pe_int (nomark _)))))) pa_nil)))) (pss_never) pss_nil))), ?_⟩
    refine ⟨_, rfl, by show 2 ≤ sizeLine; decide, fun tp htp => ?_⟩
    have k1 : Ext H (upd H tp (.tup [.ty "list", .ty "tuple"])) := Ext.new htp
    have t1 : (upd H tp (.tup [.ty "list", .ty "tuple"])) tp = some (.tup [.ty "list", .ty "tuple"]) := upd_same
    generalize upd H tp (.tup [.ty "list", .ty "tuple"]) = H1 at k1 t1 ⊢
    have c1 := hsl.ext k1
    obtain ⟨ty, hty, hkit⟩ := ty_seq (K := K) c1
    refine ⟨_, tp, _, _, [.type "list", .type "tuple"], true, rfl, t1, .cons (.ty _) (.cons (.ty _) .nil), hty, hkit, true, rfl, iteF ?_⟩
    refine ⟨_, rfl, sl, _, rfl, c1.sq, _, rfl, cl, _, rfl, (hcl.ext k1).sq, rfl, _, rfl, ?_⟩
    refine iteNS (by rw [List.length_map, hl]) ?_
    refine ⟨sl, _, rfl, c1, fun J hJ D hD => ?_⟩
    refine lc_it hJ (fun i H' => H' D = some (.lst ((List.replicate i true).map V.bl)) ∧ Ext H1 H') ⟨upd_same, Ext.new hD⟩ (fun i H' _ ⟨_, e⟩ => ?_) ?_ ?_
    · rcases c1 with h | h
      · exact (e _ _ h).trans h.symm
      · exact (e _ _ h).trans h.symm
    · rintro i y H2 H2' hi ⟨d2, k2⟩ ⟨rfl, hy⟩
      rw [List.length_map] at hi
      rw [List.getElem?_map] at hy
      obtain ⟨z, hz, rfl⟩ := Option.map_eq_some_iff.mp hy
      have z0 := h0 z (List.mem_of_getElem? hz)
      refine ⟨rfl, yes_of ?_⟩
      refine ⟨_, rfl, _, _, rfl, .inl ⟨z, rfl, rfl⟩, true, rfl, iteT ?_⟩
      refine ⟨_, rfl, _, _, rfl, rfl, ?_⟩
      have e1 : V.bl (decide ((0 : Int) ≤ z)) = V.bl true := by rw [decide_eq_true z0]
      refine ⟨_, d2, ?_, ?_, fun x o e => ?_⟩
      · rw [List.length_map, List.length_replicate]
        exact small1000 (by omega)
      · rw [upd_same, List.replicate_succ', List.map_append]
        show some (HO.lst (_ ++ [V.bl (decide ((0 : Int) ≤ z))])) = _
        rw [e1]
        rfl
      · rw [upd_ne (ne_of_none e hD)]
        exact k2 _ _ e
    rintro H2 ⟨d2, k2⟩
    refine ⟨D, _, rfl, SqL.of d2, ?_⟩
    rw [all_true]
    exact ⟨true, rfl, iteF (k H2 (k1.trans k2))⟩
/-! ### unspent, first_overdrawn -/
abbrev nUnsp : List Str := ["forest", "claims", "spent", "balances", "left", "account", "_", "amount", "name"]
def spUnsp (C : Addr) : Sp := fun vs H Q _ => ∃ (a cl sl b : Addr) (rs : List FRow) (bs cs : List (Str × Int)) (xs : List V) (ps : List Int), vs = [.ref a, .ref cl, .ref sl, .ref b] ∧ FoAt C H a rs ∧ Good rs ∧ Gv.SameK H cl sl xs (ps.map V.int) ∧ CsAt H xs cs ∧ (∀ c ∈ cs, c.1 ∈ fNames rs) ∧ H b = some (.dK (dB bs)) ∧ BsN rs bs ∧
  ∀ H' q, Ext H H' → H q = none → H' q = some (.dK (dN (fNames rs) (unsF rs bs cs ps))) → Q (.ref q) H'
theorem scUnsp : FnScope nUnsp ["forest", "claims", "spent", "balances"] (defScope sUnspent) := ⟨rfl, rfl, rfl, by decide +kernel, rfl, by decide +kernel, by decide +kernel⟩
theorem ok_unsp {f fT : Addr} {fd fdT : FuncData} (F : Fun K "unspent" "unspent" sUnspent f fd) (T : Names mg) (Z : Fo P w K mg base C fI pN fN fA mc fdN fdA)
    (GT : FnOk P w K mg base CX0 4 fT fdT ["forest", "balances"] (spTotOf C)) (bT : Binds K fdT ["forest", "balances"] []) (kT : PySem.W.keepIn K (.ref fT) = true) (mT : mg "totals_of" = some (.ref fT)) :
    FnOk P w K mg base CX0 5 f fd ["forest", "claims", "spent", "balances"] (spUnsp C) := by
  refine F.ok scUnsp (fun vs H Q E h => ?_) (fun cdv A outer s H vs Q E hr h => ?_)
  · obtain ⟨a, cl, sl, b, rs, bs, cs, xs, ps, rfl, _⟩ := h
    rfl
  · obtain ⟨a, cl, sl, b, rs, bs, cs, xs, ps, rfl, hF, hG, hsk, hcs, hcn, hb, hB, k⟩ := h
    have hu := hu_of hr
    have nd := scUnsp.nd
    have hrA : Room 3 (A.deeper (envOfC "unspent" (defScope sUnspent) s.heap.objs.size f cdv)) := hr.mono (by decide)
    refine ⟨_, pss_cons (ps_set (i := 4) nd rfl (.inl rfl) (pe_call GT hr rfl mT kT bT .nil pass0 (pa_cons (pv 0) (pa_cons (pv 3) pa_nil))))
(pss_cons (ps_for PassesOwn.never rfl (wI (t' := Gv.iZipV 1 2) (RZ.pi_zipA rfl T.zip (pa_cons (pv 1) (pa_cons (pv 2) pa_nil))) Gv.iZip_ok) (by exact (pg_tup rfl (pgs_cons (by exact (pg_tup rfl (pgs_cons (pg_name (i := 5) nd rfl (.inl rfl)) (pgs_cons (pg_name (i := 6) nd rfl (.inl rfl)) pgs_nil)))) (pgs_cons (pg_name (i := 7) nd rfl (.inl rfl)) pgs_nil))))
(pss_one (ps_for PassesOwn.never rfl (pi_list (pe_meth (pv 0) Z.Z.cl Z.mA Z.GA hrA Z.bA .nil pass0 (pa_cons (pv 5) pa_nil))) (pg_name (i := 8) nd rfl (.inl rfl))
(pss_one (ps_daug hu (pv 4) (pv 8) (pv 7) in_sub (fun _ _ _ => rfl))))))
(pss_one (ps_ret (pv 4)))), ?_⟩
    have hlen : (fNames rs).length ≤ 8 := by rw [fNames, List.length_map]; exact hG.2.1
    refine ⟨_, rfl, _, rfl, a, b, rs, bs, rfl, hF, hG, hb, hB, fun H1 q k1 hq0 hq => ?_⟩
    have q1 : H1 q = some (.dK (dN (fNames rs) (unsT rs bs cs ps 0))) := hq
    have keep : ∀ {H' : Hp}, ExtD q H1 H' → ∀ x o, H x = some o → H' x = some o := fun e x o hx => e x o (ne_of_none hx hq0) (k1 _ _ hx)
    refine ⟨cl, sl, xs, _, rfl, rfl, hsk.ext k1, fun J hJ => ?_⟩
    refine for_it hJ (fun i σ H' => ∃ (v5 v6 v7 v8 : Option V), σ = [some (.ref a), some (.ref cl), some (.ref sl), some (.ref b), some (.ref q), v5, v6, v7, v8] ∧ H' q = some (.dK (dN (fNames rs) (unsT rs bs cs ps i))) ∧ ExtD q H1 H')
      ⟨none, none, none, none, rfl, q1, ExtD.refl⟩ (fun i σ H' _ ⟨_, _, _, _, _, _, e⟩ => ?_) ?_ ?_
    · rcases hsk with ⟨h1, h2⟩ | ⟨h1, h2⟩
      · exact ⟨(keep e _ _ h1).trans (k1 _ _ h1).symm, (keep e _ _ h2).trans (k1 _ _ h2).symm⟩
      · exact ⟨(keep e _ _ h1).trans (k1 _ _ h1).symm, (keep e _ _ h2).trans (k1 _ _ h2).symm⟩
    · rintro i x σ H5 H6 hi ⟨v5, v6, v7, v8, rfl, d5, k5⟩ ⟨t, x1, x2, rfl, ht, rfl, e1, e2⟩
      have e1 : xs[i]? = some x1 := e1
      have e2 : (ps.map V.int)[i]? = some x2 := e2
      obtain ⟨cc, p, hc, rfl, hp⟩ := hcs.get e1
      rw [List.getElem?_map] at e2
      obtain ⟨z, hz, rfl⟩ := Option.map_eq_some_iff.mp e2
      have hcm := hcn cc (List.mem_of_getElem? hc)
      have k6 : ExtD q H1 (upd H5 t (.tup [.ref p, .int z])) := k5.trans (ExtD.of (Ext.new ht))
      have d6 := new_same (o := .tup [.ref p, .int z]) ht _ _ d5
      have p6 := keep k6 _ _ hp
      refine ⟨t, _, rfl, SqT.of upd_same, rfl, _, _, rfl, p, _, rfl, SqT.of p6, rfl, _, _, rfl, _, _, rfl, rfl, _, _, rfl, rfl, ?_⟩
      generalize upd H5 t (.tup [.ref p, .int z]) = H6 at k6 d6 p6 ⊢
      obtain ⟨dx, q6, g1, g2⟩ := id hF
      obtain ⟨j, r, hj, hr1, hanc⟩ := anc_call hG hcm
      refine ⟨_, rfl, a, dx, _, rfl, keep k6 _ _ g1, rfl, _, rfl, a, rs, j, r, by rw [hr1]; rfl, ⟨dx, q6, keep k6 _ _ g1, keep k6 _ _ g2⟩, hG, hj, fun H7 l k7 hl0 hl => ?_⟩
      rw [hanc] at hl
      have d7 := k7 _ _ d6
      have hlq : l ≠ q := fun e => by rw [e, d6] at hl0; cases hl0
      refine ⟨l, rfl, ⟨_, SqL.of hl⟩, ?_⟩
      refine for_it walk_list (fun i' σ H' => ∃ (v8 : Option V), σ = [some (.ref a), some (.ref cl), some (.ref sl), some (.ref b), some (.ref q), some (.str cc.1), some (.int cc.2), some (.int z), v8] ∧ H' q = some (.dK (dN (fNames rs) (addL (unsT rs bs cs ps i) ((anc rs cc.1).take i') (-z)))) ∧ ExtD q H7 H')
        ⟨v8, rfl, d7, ExtD.refl⟩ (fun i' σ H' _ ⟨_, _, _, e⟩ => SqL.of (e _ _ hlq hl)) ?_ ?_
      · rintro i' y σ H8 H9 hi' ⟨v8, rfl, d8, k8⟩ ⟨rfl, hy⟩
        rw [List.getElem?_map] at hy
        obtain ⟨m, hm, rfl⟩ := Option.map_eq_some_iff.mp hy
        have hmn := anc_mem hG hcm (List.mem_of_getElem? hm)
        refine ⟨_, rfl, _, rfl, q, _, rfl, get_dN (.inl d8) hmn, _, rfl, _, _, rfl, rfl, _, put_dN d8 hmn hlen, ?_⟩
        refine ⟨_, rfl, ?_, k8.trans ExtD.at⟩
        rw [upd_same, addL_take hm, ← Int.sub_eq_add_neg]
      · rintro σ H8 ⟨v8, rfl, d8, k8⟩
        rw [List.length_map, List.take_length] at d8
        refine ⟨_, _, _, _, rfl, ?_, (k6.trans (ExtD.of k7)).trans k8⟩
        rw [unsT_s hc hz]
        exact d8
    · rintro σ H5 ⟨v5, v6, v7, v8, rfl, d5, k5⟩
      refine ⟨_, rfl, k _ q (fun x o hx => keep k5 x o hx) hq0 ?_⟩
      have e : unsT rs bs cs ps (min xs.length (ps.map V.int).length) = unsF rs bs cs ps := by
        unfold unsT unsF
        rw [List.length_map, hcs.1, ← List.length_zip, List.take_length]
      rw [← e]
      exact d5
abbrev nFirst : List Str := ["forest", "claims", "spent", "balances", "left", "name"]
def spFirst (C : Addr) : Sp := fun vs H Q _ => ∃ (a cl sl b : Addr) (rs : List FRow) (bs cs : List (Str × Int)) (xs : List V) (ps : List Int), vs = [.ref a, .ref cl, .ref sl, .ref b] ∧ FoAt C H a rs ∧ Good rs ∧ Gv.SameK H cl sl xs (ps.map V.int) ∧ CsAt H xs cs ∧ (∀ c ∈ cs, c.1 ∈ fNames rs) ∧ H b = some (.dK (dB bs)) ∧ BsN rs bs ∧
  ∀ H', Ext H H' → Q (parV (overF rs bs cs ps)) H'
theorem scFirst : FnScope nFirst ["forest", "claims", "spent", "balances"] (defScope sFirstOverdrawn) := ⟨rfl, rfl, rfl, by decide +kernel, rfl, by decide +kernel, by decide +kernel⟩
theorem ok_first {f fU : Addr} {fd fdU : FuncData} (F : Fun K "first_overdrawn" "first_overdrawn" sFirstOverdrawn f fd) (T : Names mg) (Z : Fo P w K mg base C fI pN fN fA mc fdN fdA)
    (GU : FnOk P w K mg base CX0 5 fU fdU ["forest", "claims", "spent", "balances"] (spUnsp C)) (bU : Binds K fdU ["forest", "claims", "spent", "balances"] []) (kU : PySem.W.keepIn K (.ref fU) = true) (mU : mg "unspent" = some (.ref fU)) :
    FnOk P w K mg base CX0 6 f fd ["forest", "claims", "spent", "balances"] (spFirst C) := by
  refine F.ok scFirst (fun vs H Q E h => ?_) (fun cdv A outer s H vs Q E hr h => ?_)
  · obtain ⟨a, cl, sl, b, rs, bs, cs, xs, ps, rfl, _⟩ := h
    rfl
  · obtain ⟨a, cl, sl, b, rs, bs, cs, xs, ps, rfl, hF, hG, hsk, hcs, hcn, hb, hB, k⟩ := h
    have hu := hu_of hr
    have nd := scFirst.nd
    have hrN : Room 2 (A.deeper (envOfC "first_overdrawn" (defScope sFirstOverdrawn) s.heap.objs.size f cdv)) := hr.mono (by decide)
    refine ⟨_, pss_cons (ps_set (i := 4) nd rfl (.inl rfl) (pe_call GU hr rfl mU kU bU .nil pass0 (pa_cons (pv 0) (pa_cons (pv 1) (pa_cons (pv 2) (pa_cons (pv 3) pa_nil))))))
(pss_cons (ps_for PassesOwn.never rfl (pi_tup (pe_prop (pv 0) Z.Z.cl Z.hpN Z.GN hrN Z.bN .nil pass0 rfl)) (pg_name (i := 5) nd rfl (.inl rfl))
(pss_one (ps_if (pt_cmpR op_lt (pe_dget hu (pv 4) (pv 5) (fun _ _ => rfl)) pe_int (nomark _)) (pss_one (ps_ret (pv 5))) pss_nil)))
(pss_one (ps_ret pe_non))), ?_⟩
    rw [← over_is] at k
    generalize hpr : (fun n => decide (unsF rs bs cs ps n < 0)) = pr at k
    refine ⟨_, rfl, _, rfl, _, rfl, _, rfl, a, cl, sl, b, rs, bs, cs, xs, ps, rfl, hF, hG, hsk, hcs, hcn, hb, hB, fun H1 q k1 hq0 hq => ?_⟩
    obtain ⟨dx, q6, g1, g2⟩ := id (hF.ext k1)
    refine ⟨_, rfl, a, dx, _, rfl, g1, a, rs, rfl, hF.ext k1, fun H2 t k2 _ ht => ?_⟩
    refine ⟨t, rfl, ⟨_, SqT.of ht⟩, ?_⟩
    have q2 := k2 _ _ hq
    refine for_it walk_tup (fun i σ H' => ∃ (v5 : Option V), σ = [some (.ref a), some (.ref cl), some (.ref sl), some (.ref b), some (.ref q), v5] ∧ H' = H2 ∧ ((fNames rs).take i).find? pr = none)
      ⟨none, rfl, rfl, rfl⟩ (fun i σ H' _ ⟨_, _, e, _⟩ => by rw [e]; exact SqT.of ht) ?_ ?_
    · rintro i y σ H3 H3' hi ⟨v5, rfl, rfl, hno⟩ ⟨rfl, hy⟩
      rw [List.getElem?_map] at hy
      obtain ⟨n, hn, rfl⟩ := Option.map_eq_some_iff.mp hy
      have hnm := List.mem_of_getElem? hn
      refine ⟨_, rfl, _, rfl, q, _, rfl, get_dN (.inl q2) hnm, _, _, rfl, rfl, _, rfl, ?_⟩
      have ef : ((fNames rs).take (i + 1)).find? pr = if pr n = true then some n else none := by
        rw [take_snoc hn, List.find?_append, hno]
        cases h : pr n <;> simp [h]
      have en : pr n = decide (unsF rs bs cs ps n < 0) := by rw [← hpr]
      rw [← en]
      refine ite2 (fun e => ?_) (fun e => ?_)
      · refine ⟨_, rfl, ?_⟩
        have : (fNames rs).find? pr = some n := by
          rw [if_pos e] at ef
          rw [← List.take_append_drop (i + 1) (fNames rs), List.find?_append, ef]
          rfl
        rw [this] at k
        exact k _ (k1.trans k2)
      · rw [if_neg e] at ef
        exact ⟨_, rfl, rfl, ef⟩
    · rintro σ H3 ⟨v5, rfl, rfl, hno⟩
      rw [List.length_map, List.take_length] at hno
      rw [hno] at k
      exact k _ (k1.trans k2)
end
end Lw

set_option Elab.async false
set_option linter.all false
set_option maxRecDepth 100000
set_option maxHeartbeats 4000000
namespace Lw
open L2 hiding Ext
open PySem PySem.Spec PyProof.Rows Gn Gr Gk Go Gt Gf Gu
/-! ### triples, sorted -/
abbrev R3 := Addr × T3
def tv3 (x : T3) : List V := [.int (x.1 : Nat), .str x.2.1, .int x.2.2]
def key3 (x : T3) : List Key := [.inl (x.1 : Nat), .inr x.2.1, .inl x.2.2]
theorem key3_v (x : T3) : (key3 x).map kV = tv3 x := rfl
def sh3 : Nat → Bool := fun i => i == 1
theorem key3_fit (x : T3) : Gc.Fits sh3 0 (key3 x) := ⟨rfl, rfl, rfl, trivial⟩
def lt2 (x y : T3) : Prop := if x.1 = y.1 then x.2.1.cps.toList < y.2.1.cps.toList else x.1 < y.1
theorem str_ext {m n : Str} (h : m.cps.toList = n.cps.toList) : m = n := by
  cases m with | mk a => cases n with | mk b =>
  congr 1
  exact Array.ext' h
theorem lt2_of {p q : Addr} {x y : T3} (h : Gc.leT (p, key3 x) (q, key3 y)) (n : (x.1, x.2.1) ≠ (y.1, y.2.1)) : lt2 x y := by
  obtain ⟨a1, a2⟩ := lex_false.mp h
  have a1 : decide (((y.1 : Nat) : Int) < ((x.1 : Nat) : Int)) = false := a1
  have a1 := of_decide_eq_false a1
  unfold lt2
  by_cases e : x.1 = y.1
  · rw [if_pos e]
    rcases a2 with a2 | a2
    · have a2 : decide (((x.1 : Nat) : Int) < ((y.1 : Nat) : Int)) = true := a2
      have a2 := of_decide_eq_true a2
      omega
    · obtain ⟨b1, b2⟩ := lex_false.mp a2
      have b1 : decide (y.2.1.cps.toList < x.2.1.cps.toList) = false := b1
      have b1 := of_decide_eq_false b1
      refine Classical.byContradiction fun c => ?_
      exact n (by rw [e, str_ext (List.le_antisymm (List.not_lt.mp b1) (List.not_lt.mp c))])
  · rw [if_neg e]
    omega
theorem lt2_asymm {x y : T3} (h : lt2 x y) (k : lt2 y x) : x = y := by
  unfold lt2 at h k
  by_cases e : x.1 = y.1
  · rw [if_pos e] at h
    rw [if_pos e.symm] at k
    exact absurd (List.lt_trans h k) (Gc.list_irr _)
  · rw [if_neg e] at h
    rw [if_neg (fun z => e z.symm)] at k
    omega
structure PlanIs (rs : List FRow) (bs cs : List (Str × Int)) (ps : List Int) (P : List T3) : Prop where
  ok : PlanOk rs bs cs ps P
  perm : P.Perm (planF rs bs cs ps)
  srt : P.Pairwise lt2
theorem PlanIs.uniq {rs : List FRow} {bs cs : List (Str × Int)} {ps : List Int} {P P' : List T3} (h : PlanIs rs bs cs ps P) (k : PlanIs rs bs cs ps P') : P = P' :=
  List.Perm.eq_of_pairwise (fun _ _ _ _ => lt2_asymm) h.srt k.srt (h.perm.trans k.perm.symm)
def PlAt (H : Hp) (p : Addr) (P : List T3) : Prop := ∃ qs : List R3, H p = some (.tup (qs.map fun q => V.ref q.1)) ∧ (∀ q ∈ qs, H q.1 = some (.tup (tv3 q.2))) ∧ P = qs.map fun q => q.2
theorem plStep_len (rs : List FRow) (hl : (fNames rs).length ≤ 8) (cs : List (Str × Int)) (ps : List Int) (a : Str) (s : (Str → Int) × List T3) (k : Nat) : (plStep rs cs ps a s k).2.length ≤ s.2.length + 8 := by
  unfold plStep
  split
  · split
    · show (s.2 ++ _).length ≤ _
      rename_i z _ _ _
      have h1 := payR_len (subN rs a) s.1 z
      have h2 : (subN rs a).length ≤ (fNames rs).length := List.length_filter_le _ _
      rw [List.length_append, List.length_map]
      omega
    · omega
  · omega
theorem plA_len (rs : List FRow) (hl : (fNames rs).length ≤ 8) (cs : List (Str × Int)) (ps : List Int) (a : Str) (s : (Str → Int) × List T3) : ∀ i, (plA rs cs ps a i s).2.length ≤ s.2.length + 8 * i
  | 0 => Nat.le_refl _
  | i + 1 => by
    have h1 := plStep_len rs hl cs ps a (plA rs cs ps a i s) i
    have h2 := plA_len rs hl cs ps a s i
    show (plStep rs cs ps a (plA rs cs ps a i s) i).2.length ≤ _
    omega
theorem plO_len (rs : List FRow) (hl : (fNames rs).length ≤ 8) (cs : List (Str × Int)) (hc : cs.length ≤ 20) (ps : List Int) (s : (Str → Int) × List T3) : ∀ j, (plO rs cs ps j s).2.length ≤ s.2.length + 160 * j
  | 0 => Nat.le_refl _
  | j + 1 => by
    have h2 := plO_len rs hl cs hc ps s j
    unfold plO
    cases (fNames rs).reverse[j]? with
    | some a =>
      have h1 := plA_len rs hl cs ps a (plO rs cs ps j s) cs.length
      show (plA rs cs ps a cs.length (plO rs cs ps j s)).2.length ≤ _
      omega
    | none =>
      show (plO rs cs ps j s).2.length ≤ _
      omega
def eAt (i j : Nat) : TE := fun σ H Q => ∃ (cl : Addr) (xs : List V) (r : Int) (v : V), σ[i]? = some (some (.ref cl)) ∧ σ[j]? = some (some (.int r)) ∧ ClAt H cl xs ∧ atI xs r = some v ∧ Q v H
theorem eAt_ok {K : PySem.W.Frag} {i j : Nat} : ∀ (σ : L2.St) (H : Hp) (Q : VK), eAt i j σ H Q → tOp (rIx K) (tVar i) (tVar j) σ H Q := by
  rintro σ H Q ⟨cl, xs, r, v, h1, h2, hc, ha, q⟩
  rcases hc with hc | hc
  · exact ⟨_, h1, _, h2, .inl ⟨cl, xs, r, v, rfl, rfl, SqL.of hc, ha, q⟩⟩
  · exact ⟨_, h1, _, h2, .inr (.inl ⟨cl, xs, r, v, rfl, rfl, SqT.of hc, ha, q⟩)⟩
theorem walk_revT {K : PySem.W.Frag} {a : Addr} {xs : List V} : Walk (RT.ItvT K a xs.length) xs.length (fun H => SqT K H a xs) (fun i H x H' => H' = H ∧ xs[xs.length - 1 - i]? = some x) :=
  ⟨fun i _ hi q => ⟨hi, xs, xs[xs.length - 1 - i]'(by omega), q, by simp [show xs.length - 1 - i < xs.length by omega]⟩, fun _ _ => Nat.le_refl _, fun _ _ _ _ _ q y => ⟨y.1, y.2 xs q⟩⟩
section
variable {P : Program} {w : World} {K : PySem.W.Frag} {mg : Str → Option Value} {base : Heap} {C fI pN fN fA : Addr} {mc : Value} {fdN fdA : FuncData}
/-! ### subtree -/
abbrev nSub : List Str := ["self", "name", "inner"]
theorem scSub : FnScope nSub ["self", "name"] (defScope sSub) := ⟨rfl, rfl, rfl, by decide +kernel, rfl, by decide +kernel, by decide +kernel⟩
def spSub (C : Addr) : Sp := fun vs H Q _ => ∃ (a : Addr) (rs : List FRow) (n : Str), vs = [.ref a, .str n] ∧ FoAt C H a rs ∧ Good rs ∧ n ∈ fNames rs ∧
  ∀ H' l, Ext H H' → H l = none → H' l = some (.lst ((subN rs n).map V.str)) → Q (.ref l) H'
theorem ok_sub {f : Addr} {fd : FuncData} (F : Fun K "subtree" "Forest.subtree" sSub f fd) (T : Names mg) (Z : Fo P w K mg base C fI pN fN fA mc fdN fdA) : FnOk P w K mg base CX0 4 f fd ["self", "name"] (spSub C) := by
  refine F.ok scSub (fun vs H Q E h => ?_) (fun cdv A outer s H vs Q E hr h => ?_)
  · obtain ⟨a, rs, n, rfl, _⟩ := h
    rfl
  · obtain ⟨a, rs, n, rfl, hF, hG, hn, k⟩ := h
    have hu := hu_of hr
    have nd := scSub.nd
    have hrN : Room 2 (A.deeper (envOfC "Forest.subtree" (defScope sSub) s.heap.objs.size f cdv)) := hr.mono (by decide)
    have hrA : Room 3 (A.deeper (envOfC "Forest.subtree" (defScope sSub) s.heap.objs.size f cdv)) := hr
    refine ⟨_, pss_cons (ps_if (pt_cmpR op_notIn_seq (pv 1) (pe_prop (pv 0) Z.Z.cl Z.hpN Z.GN hrN Z.bN .nil pass0 rfl) rfl) (pss_never) pss_nil)
(pss_one (ps_ret (pe_lc (own := [("inner", 2)]) (g := gName 2) rfl nd (pi_tup (pe_prop (pv 0) Z.Z.cl Z.hpN Z.GN hrN Z.bN .nil pass0 rfl)) (blkOk_by (N := nSub) (sc := defScope sSub) (by decide +kernel))
(fun _ _ _ _ _ => pg_name (i := 2) nd rfl (.inl rfl)) (fun _ _ _ _ _ => pts_one (pt_cmpR (r := rIn K false) op_in_seq (pv 1) (pe_meth (pv 0) Z.Z.cl Z.mA Z.GA hrA Z.bA .nil pass0 (pa_cons (pv 2) pa_nil)) rfl)) (fun _ _ _ _ _ => pv 2)))), ?_⟩
    obtain ⟨dx, q0, h1, h2⟩ := id hF
    refine ⟨_, rfl, _, rfl, a, dx, _, rfl, h1, a, rs, rfl, hF, fun H1 t k1 _ ht => ?_⟩
    refine ⟨t, _, rfl, .inr (SqT.of ht), rfl, strs_flat _, _, rfl, ?_⟩
    show if (!inV (V.str n) ((fNames rs).map V.str)) = true then _ else _
    rw [inV_strs, decide_eq_true hn]
    refine iteF ?_
    have f1 := hF.ext k1
    refine ⟨_, rfl, a, dx, _, rfl, k1 _ _ h1, a, rs, rfl, f1, fun H2 t2 k2 _ ht2 => ?_⟩
    refine ⟨t2, rfl, ⟨_, SqT.of ht2⟩, fun D hD => ?_⟩
    have k02 := k1.trans k2
    have hD0 : H D = none := none_of k02 hD
    have hl8 : (fNames rs).length ≤ 8 := by rw [fNames, List.length_map]; exact hG.2.1
    refine lc_it walk_tup (fun i H' => H' D = some (.lst ((((fNames rs).take i).filter fun m => decide (n ∈ anc rs m)).map V.str)) ∧ Ext H2 H') ⟨upd_same, Ext.new hD⟩ (fun i H' _ ⟨_, e⟩ => SqT.of (e _ _ ht2)) ?_ ?_
    · rintro i y H3 H4 hi ⟨d3, k3⟩ ⟨rfl, hy⟩
      rw [List.getElem?_map] at hy
      obtain ⟨m, hm, rfl⟩ := Option.map_eq_some_iff.mp hy
      have hmm := List.mem_of_getElem? hm
      obtain ⟨j, r, hj, hr1, hanc⟩ := anc_call hG hmm
      have f3 := hF.ext (k02.trans k3)
      obtain ⟨dx3, q3, g1, g2⟩ := id f3
      refine ⟨rfl, _, rfl, _, rfl, a, dx3, _, rfl, g1, rfl, _, rfl, a, rs, j, r, by rw [hr1]; rfl, f3, hG, hj, fun H5 l k5 hl0 hl => ?_⟩
      rw [hanc] at hl
      refine ⟨l, _, rfl, .inl (SqL.of hl), rfl, strs_flat _, _, rfl, ?_⟩
      show if inV (V.str n) ((anc rs m).map V.str) = true then _ else _
      rw [inV_strs]
      have ef := filter_take (fun m => decide (n ∈ anc rs m)) hm
      have d5 := k5 _ _ d3
      refine ite2 (fun e => ?_) (fun e => ?_)
      · rw [if_pos e] at ef
        refine ⟨_, rfl, _, d5, ?_, ?_, fun b o hb => ?_⟩
        · have h1 := List.length_filter_le (fun m => decide (n ∈ anc rs m)) ((fNames rs).take i)
          rw [List.length_take] at h1
          rw [List.length_map]
          exact small1000 (by omega)
        · rw [upd_same, ef, List.map_append]
          rfl
        · rw [upd_ne (ne_of_none hb hD)]
          exact k5 _ _ (k3 _ _ hb)
      · rw [if_neg e, List.append_nil] at ef
        exact ⟨by rw [ef]; exact d5, k3.trans k5⟩
    · rintro H3 ⟨d3, k3⟩
      rw [List.length_map, List.take_length] at d3
      exact k H3 D (k02.trans k3) hD0 d3
/-! ### make_plan -/
abbrev nPlan : List Str := ["forest", "claims", "spent", "balances", "left", "plan", "account", "inner", "rank", "owner", "_", "name", "part"]
def spPlan (C : Addr) : Sp := fun vs H Q _ => ∃ (a cl sl b : Addr) (rs : List FRow) (bs cs : List (Str × Int)) (xs : List V) (ps : List Int), vs = [.ref a, .ref cl, .ref sl, .ref b] ∧ FoAt C H a rs ∧ Good rs ∧ ClAt H cl xs ∧ ClAt H sl (ps.map V.int) ∧ CsAt H xs cs ∧ CsOk rs cs ∧ SpOk cs ps ∧ H b = some (.dK (dB bs)) ∧ BsOk rs bs ∧ overF rs bs cs ps = none ∧
  ∀ H' p P, Ext H H' → H p = none → PlAt H' p P → PlanIs rs bs cs ps P → Q (.ref p) H'
theorem scPlan : FnScope nPlan ["forest", "claims", "spent", "balances"] (defScope sMakePlan) := ⟨rfl, rfl, rfl, by decide +kernel, rfl, by decide +kernel, by decide +kernel⟩
theorem ok_plan {f fS fPy : Addr} {fd fdS fdPy : FuncData} (F : Fun K "make_plan" "make_plan" sMakePlan f fd) (T : Names mg) (mrev : mg "reversed" = none) (msort : mg "sorted" = none) (Z : Fo P w K mg base C fI pN fN fA mc fdN fdA)
    (mS : Meth K C "subtree" fS) (GS : FnOk P w K mg base CX0 4 fS fdS ["self", "name"] (spSub C)) (bS : Binds K fdS ["self", "name"] [])
    (GPy : FnOk P w K mg base CX0 1 fPy fdPy ["left", "names", "due"] spPay) (bPy : Binds K fdPy ["left", "names", "due"] []) (kPy : PySem.W.keepIn K (.ref fPy) = true) (mPy : mg "pay" = some (.ref fPy)) :
    FnOk P w K mg base CX0 5 f fd ["forest", "claims", "spent", "balances"] (spPlan C) := by
  refine F.ok scPlan (fun vs H Q E h => ?_) (fun cdv A outer s H vs Q E hr h => ?_)
  · obtain ⟨a, cl, sl, b, rs, bs, cs, xs, ps, rfl, _⟩ := h
    rfl
  · obtain ⟨a, cl, sl, b, rs, bs, cs, xs, ps, rfl, hF, hG, hcl, hsl, hcs, hco, hsp, hb, hB, hov, k⟩ := h
    have hu := hu_of hr
    have nd := scPlan.nd
    have hr1 : Room 1 (A.deeper (envOfC "make_plan" (defScope sMakePlan) s.heap.objs.size f cdv)) := hr.mono (by decide)
    have hrN : Room 2 (A.deeper (envOfC "make_plan" (defScope sMakePlan) s.heap.objs.size f cdv)) := hr.mono (by decide)
    have hr4 : Room 4 (A.deeper (envOfC "make_plan" (defScope sMakePlan) s.heap.objs.size f cdv)) := hr
    refine ⟨_, pss_cons (Gd.ps_setDc (i := 4) (own := [("name", 11)]) (g := gName 11) (tt := tYes) rfl nd rfl rfl (Gd.sw_trueD rfl rfl rfl (by decide +kernel)) (pi_tup (pe_prop (pv 0) Z.Z.cl Z.hpN Z.GN hrN Z.bN .nil pass0 rfl)) (blkOk_by (N := nPlan) (sc := defScope sMakePlan) (by decide +kernel))
(fun _ _ _ _ _ => pg_name (i := 11) nd rfl (.inl rfl)) (fun _ _ _ _ _ => pts_nil) (fun _ _ _ _ _ => pv 11) (fun _ _ _ _ _ => pe_dget2 hu (pv 3) (pv 11) pe_int ⟨rfl, rfl, rfl, rfl⟩))
(pss_cons (ps_set (i := 5) nd rfl (.inl rfl) (pe_lst pa_nil))
(pss_cons (ps_for PassesOwn.never rfl (RT.pi_revA rfl mrev (pe_prop (pv 0) Z.Z.cl Z.hpN Z.GN hrN Z.bN .nil pass0 rfl)) (pg_name (i := 6) nd rfl (.inl rfl))
(pss_cons (ps_set (i := 7) nd rfl (.inl rfl) (pe_meth (pv 0) Z.Z.cl mS GS hr4 bS .nil pass0 (pa_cons (pv 6) pa_nil)))
(pss_one (ps_for PassesOwn.never rfl (Gu.wI (t' := Gq.iEnumV 1) (Gq.pi_enumM rfl T.enum (pa_cons (pv 1) pa_nil)) Gq.iEnum_ok) (by exact (pg_tup rfl (pgs_cons (pg_name (i := 8) nd rfl (.inr rfl)) (pgs_cons (by exact (pg_tup rfl (pgs_cons (pg_name (i := 9) nd rfl (.inl rfl)) (pgs_cons (pg_name (i := 10) nd rfl (.inl rfl)) pgs_nil)))) pgs_nil))))
(pss_one (ps_if (pt_cmpR op_eq (pv 9) (pv 6) (nomark _)) (pss_one (ps_expr (pe_bm PySem.F.plainAttrs_list PySem.F.slot_list_extend PySem.F.type_list_extend mt_extend (pv 5) (pa_cons (pe_lc (own := [("name", 11), ("part", 12)]) (g := gTup K 2 (gCons (gName 11) (gCons (gName 12) gNil))) (tt := tYes) rfl nd (pi_list (pe_call GPy hr1 rfl mPy kPy bPy .nil pass0 (pa_cons (pv 4) (pa_cons (pv 7) (pa_cons (wE (t' := eAt 2 8) (pe_ix ix_seq (pv 2) (pv 8) (fun _ _ => rfl)) eAt_ok) pa_nil))))) (blkOk_by (N := nPlan) (sc := defScope sMakePlan) (by decide +kernel))
(fun _ _ _ _ _ => (by exact (pg_tup rfl (pgs_cons (pg_name (i := 11) nd rfl (.inl rfl)) (pgs_cons (pg_name (i := 12) nd rfl (.inl rfl)) pgs_nil))))) (fun _ _ _ _ _ => pts_nil) (fun _ _ _ _ _ => pe_tup (pa_cons (pv 8) (pa_cons (pv 11) (pa_cons (pv 12) pa_nil))))) pa_nil)))) pss_nil))))))
(pss_one (ps_ret (pe_callTy call_tuple_of rfl T.tuple (by decide +kernel) (pa_cons (pe_callB (Gc.cr_sortK sh3) rfl msort (by decide +kernel) (pa_cons (pv 5) pa_nil)) pa_nil)))))), ?_⟩
    have hnd : (fNames rs).Nodup := (good_nodup hG.2.2).1
    have hlen : (fNames rs).length ≤ 8 := by rw [fNames, List.length_map]; exact hG.2.1
    obtain ⟨dx, q0, h1, h2⟩ := id hF
    refine ⟨_, rfl, a, dx, _, rfl, h1, a, rs, rfl, hF, fun H1 t k1 _ ht => ?_⟩
    refine ⟨t, rfl, ⟨_, SqT.of ht⟩, fun D hD => ?_⟩
    have hDH : H D = none := none_of k1 hD
    have b1 := k1 _ _ hb
    refine dc_it walk_tup (fun i H' => H' D = some (.dK (dN ((fNames rs).take i) (getB bs))) ∧ Ext H1 H') ⟨upd_same, Ext.new hD⟩ (fun i H' _ ⟨_, e⟩ => SqT.of (e _ _ ht)) ?_ ?_
    · rintro i y H3 H4 hi ⟨d3, k3⟩ ⟨rfl, hy⟩
      rw [List.getElem?_map] at hy
      obtain ⟨n, hn, rfl⟩ := Option.map_eq_some_iff.mp hy
      refine ⟨rfl, yes_of ?_⟩
      have fin : ∃ kvs k, V.str n = kV k ∧ H4 D = some (.dK kvs) ∧ kvs.length < sizeLine ∧ (upd H4 D (.dK (putK kvs k (.int (getB bs n))))) D = some (.dK (dN ((fNames rs).take (i + 1)) (getB bs))) ∧ Ext H1 (upd H4 D (.dK (putK kvs k (.int (getB bs n))))) := by
        refine ⟨_, (Sum.inr n : Key), rfl, d3, ?_, ?_, fun x o e => ?_⟩
        · rw [dN_len, List.length_take, sizeLine_eq]
          omega
        · rw [upd_same, putK_new _ (dN_none (nodup_at hnd hn)), take_snoc hn, dN_snoc]
        · rw [upd_ne (ne_of_none e hD)]
          exact k3 _ _ e
      rcases dB_getB (n := n) hB.1.1 with ⟨g1, _⟩ | ⟨g1, g2⟩
      · exact ⟨_, rfl, _, rfl, b, rfl, .inl ⟨_, .inl (k3 _ _ b1)⟩, _, rfl, some (.int (getB bs n)), .inl ⟨_, Sum.inr n, .inl (k3 _ _ b1), rfl, g1.symm⟩, fin⟩
      · rw [g2] at fin
        exact ⟨_, rfl, _, rfl, b, rfl, .inl ⟨_, .inl (k3 _ _ b1)⟩, _, rfl, none, .inl ⟨_, Sum.inr n, .inl (k3 _ _ b1), rfl, g1.symm⟩, fin⟩
    rintro H3 ⟨d3, k3⟩
    rw [List.length_map, List.take_length] at d3
    have k03 := k1.trans k3
    refine ⟨Nat.zero_le _, fun L hL => ?_⟩
    have hLH : H L = none := none_of k03 hL
    have k4 : Ext H (upd H3 L (.lst [])) := k03.trans (Ext.new hL)
    have d4 := new_same (o := .lst []) hL _ _ d3
    have l4 : (upd H3 L (.lst [])) L = some (.lst []) := upd_same
    have hDL : D ≠ L := ne_of_none d3 hL
    generalize upd H3 L (.lst []) = H4 at k4 d4 l4 ⊢
    have keep : ∀ {H' : Hp}, Ext2 D L H4 H' → Ext H H' := fun {H'} e x o hx => e x o (ne_of_none hx hDH) (ne_of_none hx hLH) (k4 _ _ hx)
    obtain ⟨dx4, q4, g1, g2⟩ := id (hF.ext k4)
    refine ⟨_, rfl, a, dx4, _, rfl, g1, a, rs, rfl, hF.ext k4, fun H5 t5 k5 ht50 ht5 => ?_⟩
    refine ⟨t5, _, rfl, .inr ⟨SqT.of ht5, ?_⟩⟩
    have d5 := k5 _ _ d4
    have l5 := k5 _ _ l4
    have n5D : t5 ≠ D := ne_of ht5 d5 (by intro e; cases e)
    have n5L : t5 ≠ L := ne_of ht5 l5 (by intro e; cases e)
    refine for_it walk_revT (fun j σ H' => ∃ (v6 v7 v8 v9 v10 : Option V) (qs : List R3), σ = [some (.ref a), some (.ref cl), some (.ref sl), some (.ref b), some (.ref D), some (.ref L), v6, v7, v8, v9, v10, none, none] ∧
        H' D = some (.dK (dN (fNames rs) (plO rs cs ps j (getB bs, [])).1)) ∧ H' L = some (.lst (qs.map fun q => V.ref q.1)) ∧ (∀ q ∈ qs, H' q.1 = some (.tup (tv3 q.2))) ∧ (plO rs cs ps j (getB bs, [])).2 = qs.map (fun q => q.2) ∧ Ext2 D L H5 H')
      ⟨none, none, none, none, none, [], rfl, d5, l5, (fun q h => by cases h), rfl, Ext2.refl⟩ (fun i σ H' _ ⟨_, _, _, _, _, _, _, _, _, _, _, e⟩ => SqT.of (e _ _ n5D n5L ht5)) ?_ ?_
    · rintro j y σ H6 H6' hj ⟨v6, v7, v8, v9, v10, qs, rfl, d6, l6, o6, e6, k6⟩ ⟨rfl, hy⟩
      rw [List.length_map] at hj hy
      rw [List.getElem?_map] at hy
      obtain ⟨acc, hacc, rfl⟩ := Option.map_eq_some_iff.mp hy
      have hrev : (fNames rs).reverse[j]? = some acc := by rw [List.getElem?_reverse hj]; exact hacc
      have hm := List.mem_of_getElem? hacc
      have eO : plO rs cs ps (j + 1) (getB bs, []) = plA rs cs ps acc cs.length (plO rs cs ps j (getB bs, [])) := by
        show (match (fNames rs).reverse[j]? with | some a => plA rs cs ps a cs.length (plO rs cs ps j (getB bs, [])) | none => plO rs cs ps j (getB bs, [])) = _
        rw [hrev]
      rw [eO]
      have lS : (plO rs cs ps j (getB bs, [])).2.length ≤ 0 + 160 * j := plO_len rs hlen cs hco.1 ps (getB bs, []) j
      generalize plO rs cs ps j (getB bs, []) = S at d6 e6 lS ⊢
      have k06 : Ext H H6' := keep ((Ext2.of k5).trans k6)
      obtain ⟨dx6, q6, g3, g4⟩ := id (hF.ext k06)
      refine ⟨_, rfl, a, dx6, _, rfl, g3, rfl, _, rfl, a, rs, acc, rfl, hF.ext k06, hG, hm, fun H7 l k7 hl0 hl => ?_⟩
      have d7 := k7 _ _ d6
      have l7 := k7 _ _ l6
      have nlD : l ≠ D := ne_of hl d7 (by intro e; cases e)
      have nlL : l ≠ L := fun e => by rw [e, l6] at hl0; cases hl0
      have k07 : Ext2 D L H5 H7 := k6.trans (Ext2.of k7)
      have k37 : Ext H H7 := keep ((Ext2.of k5).trans k07)
      have hsub : (subN rs acc).length ≤ 8 := Nat.le_trans (List.length_filter_le _ _) hlen
      refine ⟨cl, xs, rfl, hcl.ext k37, fun J hJ => ?_⟩
      refine for_it hJ (fun i σ H' => ∃ (v8 v9 v10 : Option V) (qs : List R3), σ = [some (.ref a), some (.ref cl), some (.ref sl), some (.ref b), some (.ref D), some (.ref L), some (.str acc), some (.ref l), v8, v9, v10, none, none] ∧
          H' D = some (.dK (dN (fNames rs) (plA rs cs ps acc i S).1)) ∧ H' L = some (.lst (qs.map fun q => V.ref q.1)) ∧ (∀ q ∈ qs, H' q.1 = some (.tup (tv3 q.2))) ∧ (plA rs cs ps acc i S).2 = qs.map (fun q => q.2) ∧ Ext2 D L H7 H')
        ⟨v8, v9, v10, qs, rfl, d7, l7, fun q hq => k7 _ _ (o6 q hq), e6, Ext2.refl⟩ (fun i σ H' _ ⟨_, _, _, _, _, _, _, _, _, e⟩ => ?_) ?_ ?_
      · rcases hcl.ext k37 with h | h
        · exact (e _ _ (ne_of h d7 (by intro e; cases e)) (fun e => by
            rcases hcl with h' | h'
            · rw [e, hLH] at h'; cases h'
            · rw [e, hLH] at h'; cases h') h).trans h.symm
        · exact (e _ _ (ne_of h d7 (by intro e; cases e)) (ne_of h l7 (by intro e; cases e)) h).trans h.symm
      · rintro i x σ H8 H8' hi ⟨v8, v9, v10, qs, rfl, d8, l8, o8, e8, k8⟩ ⟨T0, x1, x2, rfl, hT0, rfl, y1, y2⟩
        cases y1
        obtain ⟨c, p, hc, rfl, hp⟩ := hcs.get y2
        obtain ⟨z, hz⟩ : ∃ z, ps[i]? = some z := ⟨_, List.getElem?_eq_getElem (by rw [hsp.1, ← hcs.1]; exact hi)⟩
        have k9 : Ext2 D L H7 (upd H8 T0 (.tup [.int (i : Nat), .ref p])) := k8.trans (Ext2.of (Ext.new hT0))
        have d9 := new_same (o := .tup [.int (i : Nat), .ref p]) hT0 _ _ d8
        have l9 := new_same (o := .tup [.int (i : Nat), .ref p]) hT0 _ _ l8
        have o9 : ∀ q ∈ qs, (upd H8 T0 (.tup [.int (i : Nat), .ref p])) q.1 = some (.tup (tv3 q.2)) := fun q hq => new_same hT0 _ _ (o8 q hq)
        have kH : ∀ {H' : Hp}, Ext2 D L H7 H' → Ext H H' := fun e => keep ((Ext2.of k5).trans (k07.trans e))
        have p9 := kH k9 _ _ hp
        refine ⟨T0, _, rfl, SqT.of upd_same, rfl, _, _, rfl, _, _, rfl, p, _, rfl, SqT.of p9, rfl, _, _, rfl, _, _, rfl, rfl, rfl, ?_⟩
        generalize upd H8 T0 (.tup [.int (i : Nat), .ref p]) = H9 at k9 d9 l9 o9 p9 ⊢
        have eS : plA rs cs ps acc (i + 1) S = if c.1 = acc then ((payR (plA rs cs ps acc i S).1 (subN rs acc) z).1, (plA rs cs ps acc i S).2 ++ (payR (plA rs cs ps acc i S).1 (subN rs acc) z).2.2.map (tri i)) else plA rs cs ps acc i S := by
          show plStep rs cs ps acc (plA rs cs ps acc i S) i = _
          unfold plStep
          rw [hc, hz]
        rw [eS]
        have lA := plA_len rs hlen cs ps acc S i
        generalize plA rs cs ps acc i S = A0 at d8 d9 e8 lA ⊢
        refine ⟨_, rfl, _, rfl, rfl, _, rfl, ?_⟩
        refine ite2 (fun e => ?_) (fun e => ?_)
        · have e : c.1 = acc := by
            have := of_decide_eq_true e
            injection this
          rw [if_pos e]
          refine ⟨_, rfl, .inl ⟨rfl, _, SqL.of l9⟩, ?_⟩
          refine ⟨_, rfl, _, rfl, sl, ps.map V.int, ((i : Nat) : Int), .int z, rfl, rfl, hsl.ext (kH k9), atI_nat (by rw [List.getElem?_map, hz]; rfl), ?_⟩
          refine ⟨D, l, fNames rs, subN rs acc, A0.1, z, rfl, d9, k9 _ _ nlD nlL hl, fun n hn => (subN_mem hn).1, hlen, hsub, fun H10 p10 xs10 k10 hp0 hp10 c10 d10 => ?_⟩
          have lp10 := payR_len (subN rs acc) A0.1 z
          generalize payR A0.1 (subN rs acc) z = PR at c10 d10 lp10 ⊢
          obtain ⟨t1, z1, pr⟩ := PR
          have c10 : CsAt H10 xs10 pr := c10
          have nLD : L ≠ D := hDL.symm
          have l10 := k10 _ _ nLD l9
          have o10 : ∀ q ∈ qs, H10 q.1 = some (.tup (tv3 q.2)) := fun q hq => k10 _ _ (ne_of (o9 q hq) d9 (by intro e; cases e)) (o9 q hq)
          have p10D : p10 ≠ D := fun e => by rw [e, d9] at hp0; cases hp0
          have p10L : p10 ≠ L := fun e => by rw [e, l9] at hp0; cases hp0
          refine ⟨p10, rfl, ⟨_, SqL.of hp10⟩, fun D2 hD2 => ?_⟩
          refine lc_it walk_list (fun m H' => ∃ q2 : List R3, H' D2 = some (.lst (q2.map fun q => V.ref q.1)) ∧ (∀ q ∈ q2, H' q.1 = some (.tup (tv3 q.2))) ∧ (pr.take m).map (tri i) = q2.map (fun q => q.2) ∧ Ext H10 H') ⟨[], upd_same, (fun q h => by cases h), rfl, Ext.new hD2⟩ (fun m H' _ ⟨_, _, _, _, e⟩ => SqL.of (e _ _ hp10)) ?_ ?_
          · rintro m y H11 H11' hm1 ⟨q2, d11, o11, e11, k11⟩ ⟨rfl, hy⟩
            obtain ⟨pc, pp, hpc, rfl, hpp⟩ := c10.get hy
            have hm8 : m < pr.length := (List.getElem?_eq_some_iff.mp hpc).1
            have lq2 : q2.length ≤ 8 := by
              have h1 := congrArg List.length e11
              rw [List.length_map, List.length_map, List.length_take] at h1
              have : pr.length ≤ (subN rs acc).length := lp10
              omega
            refine ⟨pp, _, rfl, SqT.of (k11 _ _ hpp), rfl, _, _, rfl, _, _, rfl, rfl, rfl, ?_⟩
            refine yes_of ?_
            refine ⟨_, rfl, _, rfl, _, rfl, by show 3 ≤ sizeLine; decide, fun u hu => ?_⟩
            have uD2 : D2 ≠ u := ne_of_none d11 hu
            have k12 : Ext H10 (upd H11' u (.tup [.int (i : Nat), .str pc.1, .int pc.2])) := k11.trans (Ext.new hu)
            have u12 : (upd H11' u (.tup [.int (i : Nat), .str pc.1, .int pc.2])) u = some (.tup [.int (i : Nat), .str pc.1, .int pc.2]) := upd_same
            have d12 := new_same (o := .tup [.int (i : Nat), .str pc.1, .int pc.2]) hu _ _ d11
            have o12 : ∀ q ∈ q2, (upd H11' u (.tup [.int (i : Nat), .str pc.1, .int pc.2])) q.1 = some (.tup (tv3 q.2)) := fun q hq => new_same hu _ _ (o11 q hq)
            generalize upd H11' u (.tup [.int (i : Nat), .str pc.1, .int pc.2]) = H12 at k12 u12 d12 o12 ⊢
            refine ⟨_, d12, by rw [List.length_map]; exact small1000 (by omega), q2 ++ [(u, (i, pc.1, pc.2))], ?_, fun q hq => ?_, ?_, fun x o hx => ?_⟩
            · rw [upd_same, List.map_append]
              rfl
            · have : H12 q.1 = some (.tup (tv3 q.2)) := by
                rcases List.mem_append.mp hq with hq | hq
                · exact o12 q hq
                · cases List.mem_singleton.mp hq
                  exact u12
              rw [upd_ne (ne_of this d12 (by intro e; cases e))]
              exact this
            · rw [take_snoc hpc, List.map_append, List.map_append, e11]
              rfl
            · rw [upd_ne (ne_of_none hx hD2)]
              exact k12 _ _ hx
          rintro H11 ⟨q2, d11, o11, e11, k11⟩
          rw [c10.1, List.take_length] at e11
          have lq2 : q2.length ≤ 8 := by
            have h1 := congrArg List.length e11
            rw [List.length_map, List.length_map] at h1
            have : pr.length ≤ (subN rs acc).length := lp10
            omega
          have lqs : qs.length ≤ 2000 := by
            have h1 := congrArg List.length e8
            rw [List.length_map] at h1
            have := hcs.1
            have := hco.1
            omega
          have l11 := k11 _ _ l10
          have d13 := k11 _ _ d10
          refine ⟨L, D2, _, _, rfl, rfl, l11, d11, by rw [List.length_map, List.length_map, sizeLine_eq]; omega, ?_⟩
          refine ⟨_, _, _, qs ++ q2, rfl, ?_, ?_, fun q hq => ?_, ?_, fun x o n1 n2 hx => ?_⟩
          · rw [upd_ne hDL]
            exact d13
          · rw [upd_same, List.map_append]
          · have : H11 q.1 = some (.tup (tv3 q.2)) := by
              rcases List.mem_append.mp hq with hq | hq
              · exact k11 _ _ (o10 q hq)
              · exact o11 q hq
            rw [upd_ne (ne_of this l11 (by intro e; cases e))]
            exact this
          · show A0.2 ++ pr.map (tri i) = _
            rw [e8, List.map_append, e11]
          · rw [upd_ne n2]
            exact k11 _ _ (k10 _ _ n1 (k9 _ _ n1 n2 hx))
        · have e : ¬ c.1 = acc := fun h => e (by rw [h]; exact decide_eq_true rfl)
          rw [if_neg e]
          exact ⟨_, _, _, qs, rfl, d9, l9, o9, e8, k9⟩
      · rintro σ H8 ⟨v8, v9, v10, qs, rfl, d8, l8, o8, e8, k8⟩
        rw [hcs.1] at d8 e8
        exact ⟨_, _, _, _, _, qs, rfl, d8, l8, o8, e8, k07.trans k8⟩
    · rintro σ H6 ⟨v6, v7, v8, v9, v10, qs, rfl, d6, l6, o6, e6, k6⟩
      rw [List.length_map] at d6 e6
      have k06 : Ext H H6 := keep ((Ext2.of k5).trans k6)
      have eP : (planF rs bs cs ps) = qs.map fun q => q.2 := e6
      have pok := plan_ok hG hB.1 (fun p hp => (hB.2 p hp).1) (fun c hc => (hco.2 c hc).1) hsp.1 hsp.2 (fun n hn => by
        unfold overF at hov
        have := List.find?_eq_none.mp hov n hn
        simp at this
        exact this)
      rw [eP] at pok
      refine ⟨_, rfl, L, qs.map fun q => (q.1, key3 q.2), rfl, SqL.of (by rw [List.map_map]; exact l6), fun q hq => ?_, fun L' p pL pW hp => ?_⟩
      · obtain ⟨x, hx, rfl⟩ := List.mem_map.mp hq
        exact ⟨o6 x hx, (by intro e; cases e), key3_fit _⟩
      · obtain ⟨qs', pq, rfl⟩ := Gc.perm_inv (f := fun q : R3 => (q.1, key3 q.2)) pL.symm rfl
        refine ⟨p, _, rfl, .inl ⟨SqL.of upd_same, fun u hu => ?_⟩⟩
        have k7 : Ext H6 (upd (upd H6 p (.lst ((qs'.map fun q : R3 => (q.1, key3 q.2)).map Gc.vR))) u (.tup ((qs'.map fun q : R3 => (q.1, key3 q.2)).map Gc.vR))) := (Ext.new hp).trans (Ext.new hu)
        have hup : H6 u = none := none_of (Ext.new hp) hu
        refine k _ u (qs'.map fun q => q.2) (k06.trans k7) (none_of k06 hup) ⟨qs', ?_, fun q hq => k7 _ _ (o6 q (pq.mem_iff.mp hq)), rfl⟩ ⟨pok.perm (pq.map _), by rw [eP]; exact pq.map _, ?_⟩
        · rw [upd_same, List.map_map]
          rfl
        · have nd2 : (qs'.map fun q : R3 => (q.2.1, q.2.2.1)).Nodup := by
            have := (pok.perm (pq.map fun q => q.2)).nd
            rw [List.map_map] at this
            exact this
          rw [List.pairwise_map] at pW ⊢
          have := pW.and (List.pairwise_map.mp nd2)
          exact this.imp fun h => lt2_of h.1 h.2
end
end Lw

set_option Elab.async false
set_option linter.all false
set_option maxRecDepth 100000
set_option maxHeartbeats 4000000
namespace Lw
open L2 hiding Ext
open PySem PySem.Spec PyProof.Rows Gn Gr Gk Go Gt Gf Gu
theorem PlAt.ext {H H' : Hp} {p : Addr} {P : List T3} (h : PlAt H p P) (k : Ext H H') : PlAt H' p P := by
  obtain ⟨qs, h1, h2, h3⟩ := h
  exact ⟨qs, k _ _ h1, fun q hq => k _ _ (h2 q hq), h3⟩
/-- what fund returns -/
def ToldAt (H : Hp) (p : Addr) (rs : List FRow) (bs cs : List (Str × Int)) (ps : List Int) : Prop :=
  (∃ n, overF rs bs cs ps = some n ∧ H p = some (.tup [.str "over", .str n])) ∨ (overF rs bs cs ps = none ∧ ∃ q P, H p = some (.tup [.str "paid", .ref q]) ∧ PlAt H q P ∧ PlanIs rs bs cs ps P)
theorem ToldAt.ext {H H' : Hp} {p : Addr} {rs : List FRow} {bs cs : List (Str × Int)} {ps : List Int} (h : ToldAt H p rs bs cs ps) (k : Ext H H') : ToldAt H' p rs bs cs ps := by
  rcases h with ⟨n, h1, h2⟩ | ⟨h1, q, P, h2, h3, h4⟩
  · exact .inl ⟨n, h1, k _ _ h2⟩
  · exact .inr ⟨h1, q, P, k _ _ h2, h3.ext k, h4⟩
section
variable {P : Program} {w : World} {K : PySem.W.Frag} {mg : Str → Option Value} {base : Heap} {C fI pN fN fA : Addr} {mc : Value} {fdN fdA : FuncData}
abbrev nFund : List Str := ["forest", "claims", "spent", "balances", "over"]
def spFund (C : Addr) : Sp := fun vs H Q _ => ∃ (a cl sl b : Addr) (rs : List FRow) (bs cs : List (Str × Int)) (xs : List V) (ps : List Int), vs = [.ref a, .ref cl, .ref sl, .ref b] ∧ FoAt C H a rs ∧ Good rs ∧ Gv.SameK H cl sl xs (ps.map V.int) ∧ CsAt H xs cs ∧ CsOk rs cs ∧ SpOk cs ps ∧ H b = some (.dK (dB bs)) ∧ BsOk rs bs ∧
  ∀ H' p, Ext H H' → H p = none → ToldAt H' p rs bs cs ps → Q (.ref p) H'
theorem scFund : FnScope nFund ["forest", "claims", "spent", "balances"] (defScope sFund) := ⟨rfl, rfl, rfl, by decide +kernel, rfl, by decide +kernel, by decide +kernel⟩
theorem ok_fund {f f2 f3 f4 f5 f6 : Addr} {fd fd2 fd3 fd4 fd5 fd6 : FuncData} (F : Fun K "fund" "fund" sFund f fd)
    (GC : FnOk P w K mg base CX0 4 f2 fd2 ["forest", "claims"] (spCkClaims C)) (bC : Binds K fd2 ["forest", "claims"] []) (kC : PySem.W.keepIn K (.ref f2) = true) (mC : mg "check_claims" = some (.ref f2))
    (GS : FnOk P w K mg base CX0 2 f3 fd3 ["claims", "spent"] spCkSp) (bS : Binds K fd3 ["claims", "spent"] []) (kS : PySem.W.keepIn K (.ref f3) = true) (mS : mg "check_spent" = some (.ref f3))
    (GB : FnOk P w K mg base CX0 3 f4 fd4 ["forest", "balances"] (spCkBal C)) (bB : Binds K fd4 ["forest", "balances"] []) (kB : PySem.W.keepIn K (.ref f4) = true) (mB : mg "check_balances" = some (.ref f4))
    (GF : FnOk P w K mg base CX0 6 f5 fd5 ["forest", "claims", "spent", "balances"] (spFirst C)) (bF : Binds K fd5 ["forest", "claims", "spent", "balances"] []) (kF : PySem.W.keepIn K (.ref f5) = true) (mF : mg "first_overdrawn" = some (.ref f5))
    (GP : FnOk P w K mg base CX0 5 f6 fd6 ["forest", "claims", "spent", "balances"] (spPlan C)) (bP : Binds K fd6 ["forest", "claims", "spent", "balances"] []) (kP : PySem.W.keepIn K (.ref f6) = true) (mP : mg "make_plan" = some (.ref f6)) :
    FnOk P w K mg base CX0 7 f fd ["forest", "claims", "spent", "balances"] (spFund C) := by
  refine F.ok scFund (fun vs H Q E h => ?_) (fun cdv A outer s H vs Q E hr h => ?_)
  · obtain ⟨a, cl, sl, b, rs, bs, cs, xs, ps, rfl, _⟩ := h
    rfl
  · obtain ⟨a, cl, sl, b, rs, bs, cs, xs, ps, rfl, hF, hG, hsk, hcs, hco, hsp, hb, hB, k⟩ := h
    have nd := scFund.nd
    have hr2 : Room 2 (A.deeper (envOfC "fund" (defScope sFund) s.heap.objs.size f cdv)) := hr.mono (by decide)
    have hr3 : Room 3 (A.deeper (envOfC "fund" (defScope sFund) s.heap.objs.size f cdv)) := hr.mono (by decide)
    have hr4 : Room 4 (A.deeper (envOfC "fund" (defScope sFund) s.heap.objs.size f cdv)) := hr.mono (by decide)
    have hr5 : Room 5 (A.deeper (envOfC "fund" (defScope sFund) s.heap.objs.size f cdv)) := hr.mono (by decide)
    have hr6 : Room 6 (A.deeper (envOfC "fund" (defScope sFund) s.heap.objs.size f cdv)) := hr
    refine ⟨_, pss_cons (ps_expr (pe_call GC hr4 rfl mC kC bC .nil pass0 (pa_cons (pv 0) (pa_cons (pv 1) pa_nil))))
(pss_cons (ps_expr (pe_call GS hr2 rfl mS kS bS .nil pass0 (pa_cons (pv 1) (pa_cons (pv 2) pa_nil))))
(pss_cons (ps_expr (pe_call GB hr3 rfl mB kB bB .nil pass0 (pa_cons (pv 0) (pa_cons (pv 3) pa_nil))))
(pss_cons (ps_set (i := 4) nd rfl (.inl rfl) (pe_call GF hr6 rfl mF kF bF .nil pass0 (pa_cons (pv 0) (pa_cons (pv 1) (pa_cons (pv 2) (pa_cons (pv 3) pa_nil))))))
(pss_cons (ps_if (pt_cmpR op_notN (pv 4) pe_non (nomark _)) (pss_one (ps_ret (pe_tup (pa_cons pe_str (pa_cons (pv 4) pa_nil))))) pss_nil)
(pss_one (ps_ret (pe_tup (pa_cons pe_str (pa_cons (pe_call GP hr5 rfl mP kP bP .nil pass0 (pa_cons (pv 0) (pa_cons (pv 1) (pa_cons (pv 2) (pa_cons (pv 3) pa_nil))))) pa_nil))))))))), ?_⟩
    have c20 := hco.1
    refine ⟨_, rfl, _, rfl, a, cl, rs, cs, xs, rfl, hF, hG, hsk.c1, hcs, hco, fun H1 k1 => ?_⟩
    refine ⟨_, rfl, _, rfl, cl, sl, xs, ps, rfl, hsk.c1.ext k1, hsk.c2.ext k1, by rw [hsp.1, hcs.1], hsp.2, by have := hsp.1; omega, fun H2 k2 => ?_⟩
    have k2 := k1.trans k2
    refine ⟨_, rfl, _, rfl, a, b, rs, bs, rfl, hF.ext k2, hG, k2 _ _ hb, hB, fun H3 k3 => ?_⟩
    have k3 := k2.trans k3
    refine ⟨_, rfl, _, rfl, _, rfl, _, rfl, a, cl, sl, b, rs, bs, cs, xs, ps, rfl, hF.ext k3, hG, hsk.ext k3, hcs.ext k3, fun q hq => (hco.2 q hq).1, k3 _ _ hb, hB.1, fun H4 k4 => ?_⟩
    have k4 := k3.trans k4
    cases hov : overF rs bs cs ps with
    | some n =>
      refine ⟨_, rfl, rfl, true, rfl, iteT ?_⟩
      refine ⟨_, rfl, by show 2 ≤ sizeLine; decide, fun t ht => ?_⟩
      exact k _ t (k4.trans (Ext.new ht)) (none_of k4 ht) (.inl ⟨n, hov, upd_same⟩)
    | none =>
      refine ⟨_, rfl, rfl, false, rfl, iteF ?_⟩
      refine ⟨_, rfl, _, rfl, _, rfl, _, rfl, a, cl, sl, b, rs, bs, cs, xs, ps, rfl, hF.ext k4, hG, hsk.c1.ext k4, hsk.c2.ext k4, hcs.ext k4, hco, hsp, k4 _ _ hb, hB, hov, fun H5 q P k5 hq0 hq hP => ?_⟩
      have k5 := k4.trans k5
      refine ⟨by show 2 ≤ sizeLine; decide, fun t ht => ?_⟩
      exact k _ t (k5.trans (Ext.new ht)) (none_of k5 ht) (.inr ⟨hov, q, P, upd_same, hq.ext (Ext.new ht), hP⟩)
end
end Lw

set_option Elab.async false
set_option linter.all false
set_option maxRecDepth 100000
namespace Lw
/-! ### matchings, unit by unit -/
/-- each want below k has one unit of money that it may have -/
structure Mat (E : Nat → Nat → Prop) (o : List (Option Nat)) (k : Nat) : Prop where
  ok : ∀ (m w : Nat), o[m]? = some (some w) → w < k ∧ E w m
  inj : ∀ (m m' w : Nat), o[m]? = some (some w) → o[m']? = some (some w) → m = m'
  all : ∀ (w : Nat), w < k → ∃ m : Nat, o[m]? = some (some w)
def ownN (o : List (Option Nat)) (m : Nat) : Nat := ((o[m]?).getD none).getD 0
theorem ownN_of {o : List (Option Nat)} {m w : Nat} (h : o[m]? = some (some w)) : ownN o m = w := by
  unfold ownN; rw [h]; rfl
/-- the wants that were seen, in their order -/
def seen (o : List (Option Nat)) (f : Nat) (B : List (Nat × Nat)) : List Nat := f :: B.map fun p => ownN o p.1
theorem seen_len (o : List (Option Nat)) (f : Nat) (B : List (Nat × Nat)) : (seen o f B).length = B.length + 1 := by
  unfold seen; rw [List.length_cons, List.length_map]
/-- the units that were found, each with the want that found it -/
structure Bfs (E : Nat → Nat → Prop) (o : List (Option Nat)) (f : Nat) (B : List (Nat × Nat)) : Prop where
  keys : (B.map (·.1)).Nodup
  lt : ∀ p ∈ B, p.1 < o.length
  e : ∀ p ∈ B, E p.2 p.1
  own : ∀ p ∈ B, ∃ w, o[p.1]? = some (some w)
  from_ : ∀ (j : Nat) p, B[j]? = some p → ∃ i, i ≤ j ∧ (seen o f B)[i]? = some p.2
theorem Bfs.key_ne {E : Nat → Nat → Prop} {o : List (Option Nat)} {f : Nat} {B : List (Nat × Nat)} (h : Bfs E o f B) {i j : Nat} {p q : Nat × Nat} (hi : B[i]? = some p) (hj : B[j]? = some q) (n : i ≠ j) : p.1 ≠ q.1 := by
  intro e
  have a : (B.map (·.1))[i]? = some p.1 := by rw [List.getElem?_map, hi]; rfl
  have b : (B.map (·.1))[j]? = some p.1 := by rw [List.getElem?_map, hj, e]; rfl
  exact n ((List.getElem?_inj (List.getElem?_eq_some_iff.mp a).1 h.keys).mp (a.trans b.symm))
theorem Bfs.seen_at {E : Nat → Nat → Prop} {o : List (Option Nat)} {f : Nat} {B : List (Nat × Nat)} (h : Bfs E o f B) {i w : Nat} (hi : (seen o f B)[i + 1]? = some w) : ∃ p, B[i]? = some p ∧ o[p.1]? = some (some w) := by
  unfold seen at hi
  rw [List.getElem?_cons_succ, List.getElem?_map] at hi
  obtain ⟨p, hp, e⟩ := Option.map_eq_some_iff.mp hi
  obtain ⟨w', hw⟩ := h.own p (List.mem_of_getElem? hp)
  rw [ownN_of hw] at e
  subst e
  exact ⟨p, hp, hw⟩
theorem Bfs.seen_lt {E : Nat → Nat → Prop} {o : List (Option Nat)} {f : Nat} {B : List (Nat × Nat)} (h : Bfs E o f B) (M : Mat E o f) {w : Nat} (hw : w ∈ seen o f B) : w ≤ f := by
  unfold seen at hw
  rcases List.mem_cons.mp hw with rfl | hw
  · exact Nat.le_refl _
  · obtain ⟨p, hp, rfl⟩ := List.mem_map.mp hw
    obtain ⟨w, hw⟩ := h.own p hp
    rw [ownN_of hw]
    exact Nat.le_of_lt (M.ok _ _ hw).1
theorem Bfs.nodup {E : Nat → Nat → Prop} {o : List (Option Nat)} {f : Nat} {B : List (Nat × Nat)} (h : Bfs E o f B) (M : Mat E o f) : (seen o f B).Nodup := by
  unfold seen
  refine List.nodup_cons.mpr ⟨fun hm => ?_, ?_⟩
  · obtain ⟨p, hp, e⟩ := List.mem_map.mp hm
    obtain ⟨w, hw⟩ := h.own p hp
    rw [ownN_of hw] at e
    have := (M.ok _ _ hw).1
    omega
  · have k := h.keys
    unfold List.Nodup at k ⊢
    rw [List.pairwise_map] at k ⊢
    refine List.Pairwise.imp_of_mem (fun {p q} hp hq n e => n ?_) k
    obtain ⟨w, hw⟩ := h.own p hp
    obtain ⟨u, hu⟩ := h.own q hq
    rw [ownN_of hw, ownN_of hu] at e
    subst e
    exact M.inj _ _ _ hw hu
theorem seen_snoc {o : List (Option Nat)} {f : Nat} {B : List (Nat × Nat)} {m w : Nat} {v : Nat} (h : o[m]? = some (some w)) : seen o f (B ++ [(m, v)]) = seen o f B ++ [w] := by
  unfold seen
  rw [List.map_append]
  show f :: (_ ++ [ownN o m]) = _
  rw [ownN_of h]
  rfl
theorem Bfs.snoc {E : Nat → Nat → Prop} {o : List (Option Nat)} {f : Nat} {B : List (Nat × Nat)} (h : Bfs E o f B) {d m w v : Nat} (hd : (seen o f B)[d]? = some v) (hm : m ∉ B.map (·.1)) (hl : m < o.length) (he : E v m) (ho : o[m]? = some (some w)) : Bfs E o f (B ++ [(m, v)]) := by
  have hd' : d < B.length + 1 := by rw [← seen_len o f B]; exact (List.getElem?_eq_some_iff.mp hd).1
  refine ⟨?_, fun p hp => ?_, fun p hp => ?_, fun p hp => ?_, fun j p hj => ?_⟩
  · rw [List.map_append]
    refine List.nodup_append.mpr ⟨h.keys, by simp, fun a ha b hb => ?_⟩
    rw [List.map_cons, List.map_nil, List.mem_singleton] at hb
    subst hb
    exact fun e => hm (e ▸ ha)
  · rcases List.mem_append.mp hp with hp | hp
    · exact h.lt p hp
    · cases List.mem_singleton.mp hp; exact hl
  · rcases List.mem_append.mp hp with hp | hp
    · exact h.e p hp
    · cases List.mem_singleton.mp hp; exact he
  · rcases List.mem_append.mp hp with hp | hp
    · exact h.own p hp
    · cases List.mem_singleton.mp hp; exact ⟨w, ho⟩
  · rw [seen_snoc ho]
    by_cases hjl : j < B.length
    · rw [List.getElem?_append_left hjl] at hj
      obtain ⟨i, hi, e⟩ := h.from_ j p hj
      exact ⟨i, hi, by rw [List.getElem?_append_left (List.getElem?_eq_some_iff.mp e).1]; exact e⟩
    · have hj2 : j = B.length := by
        have := (List.getElem?_eq_some_iff.mp hj).1
        rw [List.length_append] at this
        simp at this
        omega
      subst hj2
      rw [List.getElem?_append_right (Nat.le_refl _), Nat.sub_self] at hj
      cases Option.some.inj hj
      exact ⟨d, by omega, by rw [List.getElem?_append_left (List.getElem?_eq_some_iff.mp hd).1]; exact hd⟩
/-! ### turning the path -/
structure Tu (E : Nat → Nat → Prop) (o0 : List (Option Nat)) (f : Nat) (B : List (Nat × Nat)) (o : List (Option Nat)) (a want j : Nat) : Prop where
  jl : j ≤ B.length
  len : o.length = o0.length
  al : a < o.length
  at_ : ∃ i, i ≤ j ∧ (seen o0 f B)[i]? = some want
  e : E want a
  old : ∀ i p, i < j → B[i]? = some p → o[p.1]? = o0[p.1]? ∧ p.1 ≠ a
  mat : Mat E (o.set a none) f
  here : o[a]? = some none ∨ ∃ w, o[a]? = some (some w) ∧ (seen o0 f B)[j + 1]? = some w
theorem Tu.begin {E : Nat → Nat → Prop} {o : List (Option Nat)} {f : Nat} {B : List (Nat × Nat)} (h : Bfs E o f B) (M : Mat E o f) {d a want : Nat} (hd : (seen o f B)[d]? = some want) (ha : o[a]? = some none) (he : E want a) (hk : a ∉ B.map (·.1)) : Tu E o f B o a want B.length := by
  have al := (List.getElem?_eq_some_iff.mp ha).1
  refine ⟨Nat.le_refl _, rfl, al, ⟨d, ?_, hd⟩, he, fun i p _ hp => ⟨rfl, fun e => hk ?_⟩, ?_, .inl ha⟩
  · have := (List.getElem?_eq_some_iff.mp hd).1
    rw [seen_len] at this
    omega
  · rw [← e]; exact List.mem_map.mpr ⟨p, List.mem_of_getElem? hp, rfl⟩
  · have : o.set a none = o := by
      apply List.ext_getElem?
      intro i
      rw [List.getElem?_set]
      by_cases e : a = i
      · subst e; rw [if_pos rfl, if_pos al, ha]
      · rw [if_neg e]
    rw [this]
    exact M
/-- the one unit that has this want -/
theorem Tu.prev {E : Nat → Nat → Prop} {o0 o : List (Option Nat)} {f : Nat} {B : List (Nat × Nat)} {a want j : Nat} (h : Bfs E o0 f B) (M : Mat E o0 f) (t : Tu E o0 f B o a want j) (hn : want ≠ f) :
    ∃ i p, i < j ∧ B[i]? = some p ∧ p.1 < o.length ∧ (∀ k, o[k]? = some (some want) ↔ k = p.1) ∧ Tu E o0 f B (o.set a (some want)) p.1 p.2 i := by
  obtain ⟨i, hi, hs⟩ := t.at_
  cases i with
  | zero =>
    unfold seen at hs
    rw [List.getElem?_cons_zero] at hs
    exact absurd (Option.some.inj hs).symm hn
  | succ i =>
    obtain ⟨p, hp, hw⟩ := h.seen_at hs
    have hij : i < j := by omega
    obtain ⟨ho, hpa⟩ := t.old i p hij hp
    rw [hw] at ho
    have hpl := (List.getElem?_eq_some_iff.mp ho).1
    have es : ∀ k, k ≠ a → (o.set a none)[k]? = o[k]? := fun k hk => by rw [List.getElem?_set, if_neg (fun e => hk e.symm)]
    have ea : (o.set a none)[a]? = some none := by rw [List.getElem?_set, if_pos rfl, if_pos t.al]
    have hmp : (o.set a none)[p.1]? = some (some want) := by rw [es _ hpa]; exact ho
    refine ⟨i, p, hij, hp, hpl, fun k => ⟨fun hk => ?_, fun e => by rw [e]; exact ho⟩, ?_⟩
    · by_cases e : k = a
      · subst e
        rcases t.here with z | ⟨w, z, s⟩
        · rw [z] at hk; cases hk
        · rw [z] at hk
          cases hk
          have := (List.getElem?_inj (List.getElem?_eq_some_iff.mp hs).1 (h.nodup M)).mp (hs.trans s.symm)
          omega
      · exact t.mat.inj _ _ _ (by rw [es _ e]; exact hk) hmp
    · obtain ⟨wf, _⟩ := t.mat.ok _ _ hmp
      have g : ∀ k, ((o.set a (some want)).set p.1 none)[k]? = if k = p.1 then some none else if k = a then some (some want) else o[k]? := fun k => by
        rw [List.getElem?_set]
        by_cases e : k = p.1
        · subst e; rw [if_pos rfl, if_pos rfl, if_pos (by rw [List.length_set]; exact hpl)]
        · rw [if_neg (fun z => e z.symm), if_neg e, List.getElem?_set]
          by_cases e2 : k = a
          · subst e2; rw [if_pos rfl, if_pos rfl, if_pos t.al]
          · rw [if_neg (fun z => e2 z.symm), if_neg e2]
      have gs : ∀ k w, ((o.set a (some want)).set p.1 none)[k]? = some (some w) → (k = a ∧ w = want) ∨ (k ≠ a ∧ k ≠ p.1 ∧ (o.set a none)[k]? = some (some w)) := fun k w hk => by
        rw [g] at hk
        by_cases e : k = p.1
        · rw [if_pos e] at hk; cases hk
        · rw [if_neg e] at hk
          by_cases e2 : k = a
          · rw [if_pos e2] at hk
            exact .inl ⟨e2, (Option.some.inj (Option.some.inj hk)).symm⟩
          · rw [if_neg e2] at hk
            exact .inr ⟨e2, e, by rw [es _ e2]; exact hk⟩
      refine ⟨by have := t.jl; omega, by rw [List.length_set]; exact t.len, by rw [List.length_set]; exact hpl, h.from_ i p hp, h.e p (List.mem_of_getElem? hp), fun k q hk hq => ?_, ⟨fun m w hm => ?_, fun m m' w hm hm' => ?_, fun w hw => ?_⟩, .inr ⟨want, ?_, hs⟩⟩
      · obtain ⟨b1, b2⟩ := t.old k q (by omega) hq
        exact ⟨by rw [List.getElem?_set, if_neg (fun e => b2 e.symm)]; exact b1, h.key_ne hq hp (by omega)⟩
      · rcases gs _ _ hm with ⟨rfl, rfl⟩ | ⟨_, _, z⟩
        · exact ⟨wf, t.e⟩
        · exact t.mat.ok _ _ z
      · rcases gs _ _ hm with ⟨rfl, rfl⟩ | ⟨n1, n2, z⟩
        · rcases gs _ _ hm' with ⟨rfl, _⟩ | ⟨n1, n2, z⟩
          · rfl
          · exact absurd (t.mat.inj _ _ _ z hmp) n2
        · rcases gs _ _ hm' with ⟨rfl, rfl⟩ | ⟨n3, n4, z'⟩
          · exact absurd (t.mat.inj _ _ _ z hmp) n2
          · exact t.mat.inj _ _ _ z z'
      · obtain ⟨m, hm⟩ := t.mat.all w hw
        by_cases e : m = p.1
        · subst e
          rw [hmp] at hm
          cases hm
          exact ⟨a, by rw [g, if_neg (fun e => hpa e.symm), if_pos rfl]⟩
        · have na : m ≠ a := fun z => by rw [z, ea] at hm; cases hm
          exact ⟨m, by rw [g, if_neg e, if_neg na, ← es m na]; exact hm⟩
      · rw [List.getElem?_set, if_neg (fun e => hpa e.symm)]
        exact ho
theorem Tu.done {E : Nat → Nat → Prop} {o0 o : List (Option Nat)} {f : Nat} {B : List (Nat × Nat)} {a j : Nat} (t : Tu E o0 f B o a f j) : Mat E (o.set a (some f)) (f + 1) := by
  have g : ∀ k w, (o.set a (some f))[k]? = some (some w) → (k = a ∧ w = f) ∨ (k ≠ a ∧ (o.set a none)[k]? = some (some w)) := fun k w hk => by
    rw [List.getElem?_set] at hk
    by_cases e : a = k
    · subst e
      rw [if_pos rfl, if_pos t.al] at hk
      cases hk
      exact .inl ⟨rfl, rfl⟩
    · rw [if_neg e] at hk
      exact .inr ⟨fun z => e z.symm, by rw [List.getElem?_set, if_neg e]; exact hk⟩
  refine ⟨fun m w hm => ?_, fun m m' w hm hm' => ?_, fun w hw => ?_⟩
  · rcases g _ _ hm with ⟨rfl, rfl⟩ | ⟨_, z⟩
    · exact ⟨by omega, t.e⟩
    · obtain ⟨h1, h2⟩ := t.mat.ok _ _ z
      exact ⟨by omega, h2⟩
  · rcases g _ _ hm with ⟨rfl, rfl⟩ | ⟨n1, z⟩
    · rcases g _ _ hm' with ⟨rfl, _⟩ | ⟨_, z⟩
      · rfl
      · have := (t.mat.ok _ _ z).1; omega
    · rcases g _ _ hm' with ⟨rfl, rfl⟩ | ⟨_, z'⟩
      · have := (t.mat.ok _ _ z).1; omega
      · exact t.mat.inj _ _ _ z z'
  · by_cases e : w = f
    · subst e
      exact ⟨a, by rw [List.getElem?_set, if_pos rfl, if_pos t.al]⟩
    · obtain ⟨m, hm⟩ := t.mat.all w (by omega)
      refine ⟨m, ?_⟩
      rw [List.getElem?_set] at hm ⊢
      by_cases e : a = m
      · subst e; rw [if_pos rfl, if_pos t.al] at hm; cases hm
      · rw [if_neg e] at hm ⊢; exact hm
/-! ### counting -/
theorem nat_sub_len : ∀ (l k : List Nat), l.Nodup → (∀ x ∈ l, x ∈ k) → l.length ≤ k.length
  | [], _, _, _ => Nat.zero_le _
  | x :: l, k, hn, hs => by
    obtain ⟨h1, h2⟩ := List.nodup_cons.mp hn
    have hx : x ∈ k := hs x List.mem_cons_self
    have ih := nat_sub_len l (k.erase x) h2 fun y hy => (List.mem_erase_of_ne (fun e : y = x => h1 (e ▸ hy))).2 (hs y (List.mem_cons_of_mem _ hy))
    have e := List.length_erase_of_mem hx
    have hp : 0 < k.length := List.length_pos_of_mem hx
    rw [List.length_cons]
    omega
/-- the places at which a property is true -/
def places {α : Type} (p : α → Bool) (l : List α) : List Nat := (List.range l.length).filter fun i => (l[i]?).any p
theorem places_mem {α : Type} {p : α → Bool} {l : List α} {i : Nat} : i ∈ places p l ↔ ∃ x, l[i]? = some x ∧ p x = true := by
  unfold places
  rw [List.mem_filter, List.mem_range]
  constructor
  · rintro ⟨h, k⟩
    rw [List.getElem?_eq_getElem h] at k
    exact ⟨_, List.getElem?_eq_getElem h, k⟩
  · rintro ⟨x, h, k⟩
    exact ⟨(List.getElem?_eq_some_iff.mp h).1, by rw [h]; exact k⟩
theorem places_nodup {α : Type} (p : α → Bool) (l : List α) : (places p l).Nodup := List.Pairwise.filter _ List.nodup_range
theorem places_len {α : Type} (p : α → Bool) (l : List α) : (places p l).length = l.countP p := by
  have h : ∀ n, n ≤ l.length → ((List.range n).filter fun i => (l[i]?).any p).length = (l.take n).countP p := by
    intro n
    induction n with
    | zero => intro _; simp
    | succ n ih =>
      intro hn
      have hl : n < l.length := by omega
      rw [List.range_succ, List.filter_append, List.length_append, ih (by omega), List.take_add_one, List.countP_append, List.getElem?_eq_getElem hl]
      congr 1
      simp only [Option.toList]
      cases hp : p l[n] with
      | true => simp [hp, hl]
      | false => simp [hp, hl]
  unfold places
  rw [h _ (Nat.le_refl _), List.take_length]
/-- matched: no more wants than money -/
theorem Mat.le {α β : Type} {E : Nat → Nat → Prop} {o : List (Option Nat)} {wants : List α} {money : List β} (M : Mat E o wants.length) (hl : o.length = money.length) (p : α → Bool) (q : β → Bool)
    (h : ∀ w m a n, E w m → wants[w]? = some a → money[m]? = some n → p a = true → q n = true) : wants.countP p ≤ money.countP q := by
  rw [← places_len, ← places_len]
  have ch : ∀ w, ∃ m, w < wants.length → o[m]? = some (some w) := fun w => by
    by_cases hw : w < wants.length
    · obtain ⟨m, hm⟩ := M.all w hw
      exact ⟨m, fun _ => hm⟩
    · exact ⟨0, fun z => absurd z hw⟩
  let F : Nat → Nat := fun w => (ch w).choose
  have hF : ∀ w, w < wants.length → o[F w]? = some (some w) := fun w => (ch w).choose_spec
  have nd : ((places p wants).map F).Nodup := by
    have k := places_nodup p wants
    unfold List.Nodup at k ⊢
    rw [List.pairwise_map]
    refine List.Pairwise.imp_of_mem (fun {a b} ha hb n e => n ?_) k
    obtain ⟨_, ha, _⟩ := places_mem.mp ha
    obtain ⟨_, hb, _⟩ := places_mem.mp hb
    have h1 := hF a (List.getElem?_eq_some_iff.mp ha).1
    have h2 := hF b (List.getElem?_eq_some_iff.mp hb).1
    rw [e, h2] at h1
    cases h1
    rfl
  have := nat_sub_len _ (places q money) nd fun m hm => by
    obtain ⟨w, hw, rfl⟩ := List.mem_map.mp hm
    obtain ⟨a, ha, hp⟩ := places_mem.mp hw
    have h1 := hF w (List.getElem?_eq_some_iff.mp ha).1
    have hml := (List.getElem?_eq_some_iff.mp h1).1
    rw [hl] at hml
    exact places_mem.mpr ⟨_, List.getElem?_eq_getElem hml, h w _ a _ (M.ok _ _ h1).2 ha (List.getElem?_eq_getElem hml) hp⟩
  rw [List.length_map] at this
  exact this
/-- stuck: less money than wants -/
theorem Bfs.stuck {α β : Type} {E : Nat → Nat → Prop} {o : List (Option Nat)} {f : Nat} {B : List (Nat × Nat)} {wants : List α} {money : List β} (h : Bfs E o f B) (M : Mat E o f) (hf : f < wants.length) (hl : o.length = money.length) (cl : ∀ w ∈ seen o f B, ∀ m, m < o.length → E w m → m ∈ B.map (·.1))
    (p : α → Bool) (q : β → Bool) (hp : ∀ w a, w ∈ seen o f B → wants[w]? = some a → p a = true) (hq : ∀ m n, money[m]? = some n → q n = true → ∃ w ∈ seen o f B, E w m) : money.countP q < wants.countP p := by
  rw [← places_len, ← places_len]
  have a := nat_sub_len (places q money) (B.map (·.1)) (places_nodup _ _) fun m hm => by
    obtain ⟨n, hn, hq'⟩ := places_mem.mp hm
    obtain ⟨w, hw, e⟩ := hq m n hn hq'
    exact cl w hw m (by rw [hl]; exact (List.getElem?_eq_some_iff.mp hn).1) e
  have b := nat_sub_len (seen o f B) (places p wants) (h.nodup M) fun w hw => by
    have := h.seen_lt M hw
    have hwl : w < wants.length := by omega
    exact places_mem.mpr ⟨_, List.getElem?_eq_getElem hwl, hp w _ hw (List.getElem?_eq_getElem hwl)⟩
  rw [seen_len] at b
  rw [List.length_map] at a
  omega
theorem Bfs.len {E : Nat → Nat → Prop} {o : List (Option Nat)} {f : Nat} {B : List (Nat × Nat)} (h : Bfs E o f B) : B.length ≤ o.length := by
  have := nat_sub_len (B.map (·.1)) (List.range o.length) h.keys fun x hx => by
    obtain ⟨p, hp, rfl⟩ := List.mem_map.mp hx
    exact List.mem_range.mpr (h.lt p hp)
  rw [List.length_map, List.length_range] at this
  exact this
end Lw

set_option Elab.async false
set_option linter.all false
set_option maxRecDepth 100000
set_option maxHeartbeats 4000000
namespace Lw
open L2 hiding Ext
open PySem PySem.Spec PyProof.Rows Gn Gr Gk Go Gt Gf Gu
/-! ### unit by unit -/
def units {α : Type} (l : List (α × Int)) : List α := (l.map fun p => List.replicate p.2.toNat p.1).flatten
theorem units_snoc {α : Type} (l : List (α × Int)) (c : α × Int) : units (l ++ [c]) = units l ++ List.replicate c.2.toNat c.1 := by
  unfold units
  rw [List.map_append, List.flatten_append]
  simp
theorem units_map {α β : Type} (f : α → β) : ∀ l : List (α × Int), (units l).map f = units (l.map fun p => (f p.1, p.2))
  | [] => rfl
  | c :: r => by
    show (List.replicate _ _ ++ units r).map f = List.replicate _ _ ++ units _
    rw [List.map_append, List.map_replicate, units_map f r]
theorem units_count {α : Type} (p : α → Bool) : ∀ {l : List (α × Int)}, (∀ c ∈ l, 0 ≤ c.2) → (((units l).countP p : Nat) : Int) = (l.map fun c => if p c.1 then c.2 else 0).sum
  | [], _ => rfl
  | c :: r, h => by
    show ((List.countP p (List.replicate _ _ ++ units r) : Nat) : Int) = (if p c.1 then c.2 else 0) + (r.map _).sum
    have hc := h c (List.mem_cons_self ..)
    rw [List.countP_append, ← units_count p fun x hx => h x (List.mem_cons_of_mem _ hx), List.countP_replicate]
    split <;> simp <;> omega
theorem units_len {α : Type} {l : List (α × Int)} {B : Int} (h : ∀ c ∈ l, c.2 ≤ B) (hB : 0 ≤ B) : ((units l).length : Int) ≤ l.length * B := by
  induction l with
  | nil => show (0 : Int) ≤ 0 * B; omega
  | cons c r ih =>
    have := ih fun x hx => h x (List.mem_cons_of_mem _ hx)
    have hc := h c (List.mem_cons_self ..)
    show ((List.replicate _ _ ++ units r).length : Int) ≤ _
    rw [List.length_append, List.length_replicate, List.length_cons]
    have e : ((r.length + 1 : Nat) : Int) * B = r.length * B + B := by
      rw [Int.natCast_add, Int.add_mul]; simp
    rw [e]
    omega
theorem units_mem {α : Type} {l : List (α × Int)} {x : α} (h : x ∈ units l) : ∃ c ∈ l, c.1 = x := by
  obtain ⟨z, hz, hx⟩ := List.mem_flatten.mp h
  obtain ⟨c, hc, rfl⟩ := List.mem_map.mp hz
  exact ⟨c, hc, (List.eq_of_mem_replicate hx).symm⟩
theorem sumI_map (f : Str × Int → Int) : ∀ l : List (Str × Int), sumI f l = (l.map f).sum
  | [] => rfl
  | c :: r => by rw [List.map_cons, List.sum_cons, ← sumI_map f r]; rfl
def wantL (cs : List (Str × Int)) (ps : List Int) : List (Str × Int) := (cs.zip ps).map fun q => (q.1.1, q.2)
theorem wantL_at {cs : List (Str × Int)} {ps : List Int} {i : Nat} {c : Str × Int} {z : Int} (h1 : cs[i]? = some c) (h2 : ps[i]? = some z) : (wantL cs ps)[i]? = some (c.1, z) := by
  unfold wantL
  rw [List.getElem?_map, zip_at h1 h2]
  rfl
/-- the claim may have the money -/
def edge (rs : List FRow) (wants money : List Str) (w m : Nat) : Prop := ∃ a n, wants[w]? = some a ∧ money[m]? = some n ∧ a ∈ anc rs n
theorem wgt_is {rs : List FRow} (g : Good rs) {n : Str} {c : Str × Int} (h : c.1 ∈ fNames rs) : wgt rs n c = if decide (n ∈ anc rs c.1) = true then c.2 else 0 := by
  unfold wgt
  rw [cnt_anc g h]
  by_cases e : n ∈ anc rs c.1
  · rw [if_pos e, if_pos (by simpa using e)]
    show (1 : Int) * _ = _
    omega
  · rw [if_neg e, if_neg (by simpa using e)]
    show (0 : Int) * _ = _
    omega
theorem sumI_congr {f g : Str × Int → Int} {l : List (Str × Int)} (h : ∀ c ∈ l, f c = g c) : sumI f l = sumI g l := by
  induction l with
  | nil => rfl
  | cons c r ih =>
    show f c + _ = g c + _
    rw [h c (List.mem_cons_self ..), ih fun x hx => h x (List.mem_cons_of_mem _ hx)]
theorem wantL_mem {cs : List (Str × Int)} {ps : List Int} {c : Str × Int} (h : c ∈ wantL cs ps) : (∃ d ∈ cs, d.1 = c.1) ∧ c.2 ∈ ps := by
  obtain ⟨q, hq, rfl⟩ := List.mem_map.mp h
  have := List.of_mem_zip (a := q.1) (b := q.2) hq
  exact ⟨⟨_, this.1, rfl⟩, this.2⟩
theorem cnt_is_units {rs : List FRow} (g : Good rs) {cs : List (Str × Int)} {ps : List Int} (hc : ∀ c ∈ cs, c.1 ∈ fNames rs) (hp : ∀ z ∈ ps, 0 ≤ z) (n : Str) : cntF rs cs ps n = (((units (wantL cs ps)).countP fun a => decide (n ∈ anc rs a) : Nat) : Int) := by
  unfold cntF
  rw [cnt_sum, units_count _ fun c hc => hp _ (wantL_mem hc).2, ← sumI_map]
  show (0 : Int) + sumI (wgt rs n) (wantL cs ps) = _
  rw [Int.zero_add]
  refine sumI_congr fun c h => ?_
  obtain ⟨⟨d, hd, e⟩, _⟩ := wantL_mem h
  exact wgt_is g (e ▸ hc d hd)
theorem tot_is_units {rs : List FRow} (g : Good rs) {bs : List (Str × Int)} (hB : BsN rs bs) (hb : ∀ p ∈ bs, 0 ≤ p.2) (n : Str) : totF rs bs n = (((units bs).countP fun a => decide (n ∈ anc rs a) : Nat) : Int) := by
  rw [totF_sum, units_count _ hb, ← sumI_map]
  exact sumI_congr fun c h => wgt_is g (hB.2 c h)
/-- all wants matched: no account is overdrawn -/
theorem over_none {rs : List FRow} (g : Good rs) {bs cs : List (Str × Int)} {ps : List Int} (hc : ∀ c ∈ cs, c.1 ∈ fNames rs) (hp : ∀ z ∈ ps, 0 ≤ z) (hB : BsN rs bs) (hb : ∀ p ∈ bs, 0 ≤ p.2) {o : List (Option Nat)}
    (M : Mat (edge rs (units (wantL cs ps)) (units bs)) o (units (wantL cs ps)).length) (hl : o.length = (units bs).length) : overF rs bs cs ps = none := by
  unfold overF
  rw [List.find?_eq_none]
  intro n hn
  rw [decide_eq_true_iff, cnt_is_units g hc hp, tot_is_units g hB hb]
  have := M.le hl (fun a => decide (n ∈ anc rs a)) (fun a => decide (n ∈ anc rs a)) fun w m a b e ha hb' hp' => by
    obtain ⟨a', b', h1, h2, h3⟩ := e
    rw [ha] at h1
    rw [hb'] at h2
    cases h1
    cases h2
    have hbm : b ∈ fNames rs := by
      obtain ⟨c, hc, rfl⟩ := units_mem (List.mem_of_getElem? hb')
      exact hB.2 c hc
    obtain ⟨i, r, hi, rfl⟩ := row_of hbm
    exact decide_eq_true (anc_trans g _ i r (Nat.lt_succ_self _) hi a h3 n (of_decide_eq_true hp'))
  omega
/-! ### a plan is a matching -/
theorem sumT_mul (k : Int) (f : T3 → Int) : ∀ l : List T3, sumT (fun x => k * f x) l = k * sumT f l
  | [] => by show (0 : Int) = k * 0; omega
  | c :: r => by show k * f c + _ = k * (f c + _); rw [sumT_mul k f r, Int.mul_add]
theorem sumT_add (f h : T3 → Int) : ∀ l : List T3, sumT (fun x => f x + h x) l = sumT f l + sumT h l
  | [] => rfl
  | c :: r => by show f c + h c + _ = f c + _ + (h c + _); rw [sumT_add f h r]; omega
theorem sumT_le {f h : T3 → Int} : ∀ {l : List T3}, (∀ x ∈ l, f x ≤ h x) → sumT f l ≤ sumT h l
  | [], _ => Int.le_refl _
  | c :: r, k => by
    have := k c (List.mem_cons_self ..)
    have := sumT_le (l := r) fun x hx => k x (List.mem_cons_of_mem _ hx)
    show f c + _ ≤ h c + _
    omega
theorem sumT_congr {f h : T3 → Int} {l : List T3} (k : ∀ x ∈ l, f x = h x) : sumT f l = sumT h l := by
  have a := sumT_le (f := f) (h := h) (l := l) fun x hx => Int.le_of_eq (k x hx)
  have b := sumT_le (f := h) (h := f) (l := l) fun x hx => Int.le_of_eq (k x hx).symm
  omega
theorem sumT_zero : ∀ l : List T3, sumT (fun _ => 0) l = 0
  | [] => rfl
  | _ :: r => by show (0 : Int) + _ = 0; rw [sumT_zero r]; rfl
def gA (cs : List (Str × Int)) (p : Str → Bool) (r : Nat) : Int := match cs[r]? with
  | some c => if p c.1 then 1 else 0
  | none => 0
theorem want_sum {cs : List (Str × Int)} {ps : List Int} {P : List T3} (hl : ps.length = cs.length) (p : Str → Bool) (paid : ∀ (k : Nat) z, ps[k]? = some z → sumT (rk k) P = z) : ∀ n, n ≤ cs.length → sumI (fun c => if p c.1 then c.2 else 0) ((wantL cs ps).take n) = sumT (fun x => if x.1 < n then gA cs p x.1 * x.2.2 else 0) P := by
  intro n
  induction n with
  | zero =>
    intro _
    rw [List.take_zero]
    show (0 : Int) = _
    rw [sumT_congr (h := fun _ => 0) fun x _ => if_neg (Nat.not_lt_zero _), sumT_zero]
  | succ n ih =>
    intro hn
    have h1 : n < cs.length := by omega
    have h2 : n < ps.length := by omega
    rw [take_snoc (wantL_at (List.getElem?_eq_getElem h1) (List.getElem?_eq_getElem h2)), sumI_app, ih (by omega)]
    show _ + ((if p cs[n].1 then ps[n] else 0) + 0) = _
    have e : (if p cs[n].1 then ps[n] else 0) = sumT (fun x => gA cs p n * rk n x) P := by
      rw [sumT_mul, paid n _ (List.getElem?_eq_getElem h2)]
      unfold gA
      rw [List.getElem?_eq_getElem h1]
      show _ = (if p cs[n].1 then (1 : Int) else 0) * _
      split <;> omega
    rw [Int.add_zero, e, ← sumT_add]
    refine sumT_congr fun x _ => ?_
    show _ + gA cs p n * (if x.1 = n then x.2.2 else 0) = _
    by_cases e1 : x.1 = n
    · rw [if_pos e1, if_neg (by omega), if_pos (by omega), e1]; omega
    · rw [if_neg e1]
      by_cases e2 : x.1 < n
      · rw [if_pos e2, if_pos (by omega)]; omega
      · rw [if_neg e2, if_neg (by omega)]; omega
theorem money_sum (q : Str → Bool) {names : List Str} (nd : names.Nodup) : ∀ {P : List T3}, (∀ x ∈ P, x.2.1 ∈ names) → sumS (fun n => (if q n then 1 else 0) * sumT (nm n) P) names = sumT (fun x => (if q x.2.1 then 1 else 0) * x.2.2) P
  | [], _ => by
    have : ∀ l : List Str, sumS (fun n => (if q n then (1 : Int) else 0) * sumT (nm n) []) l = 0 := by
      intro l
      induction l with
      | nil => rfl
      | cons x r ih => show (if q x then (1 : Int) else 0) * 0 + _ = 0; rw [ih]; omega
    exact this _
  | x :: r, h => by
    have ih := money_sum q nd (P := r) fun y hy => h y (List.mem_cons_of_mem _ hy)
    have e : sumS (fun n => (if q n then (1 : Int) else 0) * sumT (nm n) (x :: r)) names = sumS (fun n => ((if q n then (1 : Int) else 0) * if x.2.1 = n then x.2.2 else 0) + (if q n then (1 : Int) else 0) * sumT (nm n) r) names := sumS_congr fun n _ => by
      show (if q n then (1 : Int) else 0) * (nm n x + sumT (nm n) r) = _
      rw [Int.mul_add]
      rfl
    show _ = (if q x.2.1 then (1 : Int) else 0) * x.2.2 + _
    rw [e, sumS_add, ih, sum_one (fun n => if q n then (1 : Int) else 0) x.2.2 nd (h x (List.mem_cons_self ..))]
/-- with a plan no want is stuck -/
theorem not_stuck {rs : List FRow} (g : Good rs) {bs cs : List (Str × Int)} {ps : List Int} (hl : ps.length = cs.length) (hp : ∀ z ∈ ps, 0 ≤ z) (hB : BsN rs bs) (hb : ∀ p ∈ bs, 0 ≤ p.2) {P : List T3} (ok : PlanOk rs bs cs ps P) (p q : Str → Bool)
    (h : ∀ a n, p a = true → a ∈ anc rs n → n ∈ fNames rs → q n = true) : (units (wantL cs ps)).countP p ≤ (units bs).countP q := by
  have wl : (wantL cs ps).length = cs.length := by unfold wantL; rw [List.length_map, List.length_zip]; omega
  have a := want_sum hl p ok.paid cs.length (Nat.le_refl _)
  rw [← wl, List.take_length, wl, sumI_map, ← units_count p fun c hc => hp _ (wantL_mem hc).2] at a
  have nd := (good_nodup g.2.2).1
  have b := money_sum q nd (P := P) fun x hx => (ok.parts x hx).2.1
  have c : sumS (fun n => (if q n then (1 : Int) else 0) * sumT (nm n) P) (fNames rs) ≤ sumS (fun n => (if q n then (1 : Int) else 0) * getB bs n) (fNames rs) := sumS_le fun n _ => by
    have := ok.held n
    split <;> omega
  rw [sum_bal (fun n => if q n then (1 : Int) else 0) nd hB.1 hB.2] at c
  have d : sumI (fun p => (if q p.1 then (1 : Int) else 0) * p.2) bs = (((units bs).countP q : Nat) : Int) := by
    rw [units_count q hb, ← sumI_map]
    exact sumI_congr fun c _ => by split <;> omega
  have e : sumT (fun x => if x.1 < cs.length then gA cs p x.1 * x.2.2 else 0) P ≤ sumT (fun x => (if q x.2.1 then (1 : Int) else 0) * x.2.2) P := sumT_le fun x hx => by
    obtain ⟨h1, h2, c, hc, ha⟩ := ok.parts x hx
    rw [if_pos (List.getElem?_eq_some_iff.mp hc).1]
    unfold gA
    rw [hc]
    show (if p c.1 then (1 : Int) else 0) * _ ≤ _
    by_cases z : p c.1 = true
    · rw [if_pos z, if_pos (h _ _ z ha h2)]; exact Int.le_refl _
    · rw [if_neg z]
      split <;> omega
  omega
theorem stuck_over {rs : List FRow} (g : Good rs) {bs cs : List (Str × Int)} {ps : List Int} (hl : ps.length = cs.length) (hp : ∀ z ∈ ps, 0 ≤ z) (hB : BsN rs bs) (hb : ∀ p ∈ bs, 0 ≤ p.2) {P : List T3} (ok : PlanOk rs bs cs ps P) {o : List (Option Nat)} {f : Nat} {B : List (Nat × Nat)}
    (h : Bfs (edge rs (units (wantL cs ps)) (units bs)) o f B) (M : Mat (edge rs (units (wantL cs ps)) (units bs)) o f) (hf : f < (units (wantL cs ps)).length) (ho : o.length = (units bs).length)
    (cl : ∀ w ∈ seen o f B, ∀ m, m < o.length → edge rs (units (wantL cs ps)) (units bs) w m → m ∈ B.map (·.1)) : False := by
  have A : Str → Prop := fun a => ∃ w ∈ seen o f B, (units (wantL cs ps))[w]? = some a
  have a := h.stuck M hf ho cl (fun a => (seen o f B).any fun w => decide ((units (wantL cs ps))[w]? = some a)) (fun n => (seen o f B).any fun w => (units (wantL cs ps))[w]?.any fun a => decide (a ∈ anc rs n))
    (fun w a hw ha => List.any_eq_true.mpr ⟨w, hw, decide_eq_true ha⟩)
    (fun m n hn hq => by
      obtain ⟨w, hw, e⟩ := List.any_eq_true.mp hq
      cases k : (units (wantL cs ps))[w]? with
      | none => rw [k] at e; cases e
      | some a =>
        rw [k] at e
        exact ⟨w, hw, a, n, k, hn, of_decide_eq_true e⟩)
  have b := not_stuck g hl hp hB hb ok (fun a => (seen o f B).any fun w => decide ((units (wantL cs ps))[w]? = some a)) (fun n => (seen o f B).any fun w => (units (wantL cs ps))[w]?.any fun a => decide (a ∈ anc rs n)) fun a n ha he _ => by
    obtain ⟨w, hw, e⟩ := List.any_eq_true.mp ha
    refine List.any_eq_true.mpr ⟨w, hw, ?_⟩
    rw [of_decide_eq_true e]
    exact decide_eq_true he
  omega
/-! ### the plan's units -/
theorem rank_count (r : Nat) : ∀ {P : List T3}, (∀ x ∈ P, 0 ≤ x.2.2) → (((units (P.map fun x => (x.1, x.2.2))).count r : Nat) : Int) = sumT (rk r) P
  | [], _ => rfl
  | x :: l, h => by
    show (((List.replicate _ _ ++ units _).count r : Nat) : Int) = rk r x + _
    have := h x (List.mem_cons_self ..)
    rw [List.count_append, ← rank_count r (P := l) fun y hy => h y (List.mem_cons_of_mem _ hy), List.count_replicate]
    dsimp only
    unfold rk
    by_cases e : x.1 = r
    · rw [if_pos (by simpa using e), if_pos e]; omega
    · rw [if_neg (by simpa using e), if_neg e]; omega
theorem name_count (n : Str) : ∀ {P : List T3}, (∀ x ∈ P, 0 ≤ x.2.2) → (((units (P.map fun x => (x.2.1, x.2.2))).count n : Nat) : Int) = sumT (nm n) P
  | [], _ => rfl
  | x :: l, h => by
    show (((List.replicate _ _ ++ units _).count n : Nat) : Int) = nm n x + _
    have := h x (List.mem_cons_self ..)
    rw [List.count_append, ← name_count n (P := l) fun y hy => h y (List.mem_cons_of_mem _ hy), List.count_replicate]
    dsimp only
    unfold nm
    by_cases e : x.2.1 = n
    · rw [if_pos (by simpa using e), if_pos e]; omega
    · rw [if_neg (by simpa using e), if_neg e]; omega
def dueL (ps : List Int) : List (Nat × Int) := (List.range ps.length).map fun r => (r, (ps[r]?).getD 0)
theorem due_count (r : Nat) (ps : List Int) (h : ∀ z ∈ ps, 0 ≤ z) : (((units (dueL ps)).count r : Nat) : Int) = (ps[r]?).getD 0 := by
  have k : ∀ n, n ≤ ps.length → (((units ((List.range n).map fun r => (r, (ps[r]?).getD 0))).count r : Nat) : Int) = if r < n then (ps[r]?).getD 0 else 0 := by
    intro n
    induction n with
    | zero => intro _; rw [if_neg (Nat.not_lt_zero _)]; rfl
    | succ n ih =>
      intro hn
      have hl : n < ps.length := by omega
      have nn := h _ (List.getElem_mem hl)
      rw [List.range_succ, List.map_append, List.map_singleton, units_snoc, List.count_append, Int.natCast_add, ih (by omega), List.count_replicate]
      show _ + (((if (n == r) = true then ((ps[n]?).getD 0).toNat else 0 : Nat)) : Int) = _
      by_cases e : n = r
      · subst e
        rw [if_neg (Nat.lt_irrefl _), if_pos (by simp), if_pos (Nat.lt_succ_self _), List.getElem?_eq_getElem hl]
        show (0 : Int) + ((ps[n].toNat : Nat) : Int) = ps[n]
        omega
      · have eb : (n == r) = false := by simp [e]
        rw [eb, show (if (false = true) then ((ps[n]?).getD 0).toNat else 0) = 0 from if_neg Bool.false_ne_true]
        by_cases e2 : r < n
        · rw [if_pos e2, if_pos (Nat.lt_succ_of_lt e2)]; exact Int.add_zero _
        · have e3 : ¬ r < n + 1 := by omega
          rw [if_neg e2, if_neg e3]; rfl
  unfold dueL
  rw [k _ (Nat.le_refl _)]
  by_cases e : r < ps.length
  · rw [if_pos e]
  · rw [if_neg e, List.getElem?_eq_none (by omega)]; rfl
theorem due_asc (ps : List Int) : (units (dueL ps)).Pairwise (fun a b => (a : Nat) ≤ b) := by
  have k : ∀ n, (units ((List.range n).map fun r => (r, (ps[r]?).getD 0))).Pairwise (fun a b => (a : Nat) ≤ b) := by
    intro n
    induction n with
    | zero => exact .nil
    | succ n ih =>
      rw [List.range_succ, List.map_append, List.map_singleton, units_snoc]
      refine List.pairwise_append.mpr ⟨ih, List.pairwise_replicate.mpr (.inr (Nat.le_refl _)), fun a ha b hb => ?_⟩
      obtain ⟨c, hc, rfl⟩ := units_mem ha
      obtain ⟨r, hr, rfl⟩ := List.mem_map.mp hc
      rw [List.eq_of_mem_replicate hb]
      exact Nat.le_of_lt (List.mem_range.mp hr)
  exact k _
theorem plan_due {rs : List FRow} {bs cs : List (Str × Int)} {ps : List Int} {P : List T3} (hl : ps.length = cs.length) (hp : ∀ z ∈ ps, 0 ≤ z) (ok : PlanOk rs bs cs ps P) : (units (P.map fun x => (x.1, x.2.2))).Perm (units (dueL ps)) := by
  refine List.perm_iff_count.mpr fun r => ?_
  have nn : ∀ x ∈ P, 0 ≤ x.2.2 := fun x hx => by have := (ok.parts x hx).1; omega
  have a := rank_count r nn
  have b := due_count r ps hp
  by_cases h : r < ps.length
  · rw [List.getElem?_eq_getElem h] at b
    rw [ok.paid r _ (List.getElem?_eq_getElem h)] at a
    have b : _ = ps[r] := b
    omega
  · rw [List.getElem?_eq_none (by omega)] at b
    have : sumT (rk r) P = 0 := by
      rw [sumT_congr (h := fun _ => 0) fun x hx => ?_, sumT_zero]
      obtain ⟨_, _, c, hc, _⟩ := ok.parts x hx
      have := (List.getElem?_eq_some_iff.mp hc).1
      unfold rk
      rw [if_neg (by omega)]
    have b : _ = (0 : Int) := b
    omega
end Lw

set_option Elab.async false
set_option linter.all false
set_option maxRecDepth 100000
set_option maxHeartbeats 4000000
/-! list.count of texts; a while with a measure that the state does not show -/
namespace Gct
open L2
open PySem PySem.Spec PyProof.Rows
section
variable {X : Cx}
def rCntS (K : PySem.W.Frag) : V → List V → Hp → VK → Prop := fun x xs H Q => ∃ (p : Addr) (ws : List Str) (k : Str), x = .ref p ∧ xs = [.str k] ∧ SqL K H p (ws.map V.str) ∧ Q (.int (ws.count k : Nat)) H
theorem count_strs (k : Str) : ∀ ws : List Str, ((ws.map PyData.str).countP fun y => PyData.eqv y (.str k)) = ws.count k
  | [] => rfl
  | w :: r => by
    rw [List.map_cons, List.countP_cons, count_strs k r, List.count_cons]
    congr 1
theorem strs_all {K : PySem.W.Frag} {H : Hp} : ∀ ws : List Str, DpAll K H (ws.map V.str) (ws.map PyData.str)
  | [] => .nil
  | _ :: r => .cons (.str _) (strs_all r)
theorem plain_strs : ∀ ws : List Str, PyData.plainAll (ws.map PyData.str) = true
  | [] => rfl
  | _ :: r => by
    show (PyData.plain (.str _) && PyData.plainAll _) = true
    rw [plain_strs r]; rfl
theorem mt_countS (hu : X.A.units + 3 < cLine) : MtR X "list.count" (rCntS X.K) := by
  intro pins s σ H x xs v us Q I rx rxs h
  obtain ⟨p, ws, k, rfl, rfl, hs, q⟩ := h
  cases rx
  obtain ⟨u, rfl, ru⟩ := rxs.one
  obtain ⟨its, rv, ⟨ob, n, ho, hc, hdn, hd⟩, hlen⟩ := I.list hs
  obtain ⟨as, r1⟩ := Dp.readsAll I _ _ its (strs_all ws) rv
  obtain ⟨bs, r2⟩ := Dp.reads I (.str k) (.str k) u (.str k) ru
  refine SeqAt.count_list_data (vs := its.toArray) (xs := ws.map PyData.str) (d := .str k) ⟨ob, ho, hc, n, hd⟩ r1 r2 (plain_strs ws) rfl ?_ ?_
  · have : min (PyData.depthAll (ws.map PyData.str)) (PyData.str k).depth ≤ (PyData.str k).depth := Nat.min_le_right ..
    have e : (PyData.str k).depth ≤ 1 := Nat.zero_le _
    omega
  · rw [count_strs]
    exact ⟨.int (ws.count k : Nat), H, I.tok _, ⟨s.toks, rfl⟩, q⟩
end
theorem while_gh {c : TT} {tb : TS} {D : Ends} {σ : L2.St} {H : Hp} (Pv : Nat → L2.St → Hp → Prop) (h0 : ∃ m, Pv m σ H)
    (hs : ∀ m σ H, Pv m σ H → c σ H fun b H1 => if b = true then tb { D with nx := fun σ' H' => ∃ m', m' < m ∧ Pv m' σ' H', ct := fun σ' H' => ∃ m', m' < m ∧ Pv m' σ' H', bk := D.nx } σ H1 else D.nx σ H1)
    (mono : ∀ σ H Q Q', (∀ b H1, Q b H1 → Q' b H1) → c σ H Q → c σ H Q') : tWhile c tb D σ H := by
  refine ⟨Pv, h0, ?_⟩
  rintro m σ H p
  refine mono σ H _ _ (fun b H1 q => ?_) (hs m σ H p)
  cases b with
  | true => exact ⟨_, fun σ' H' h => h, q⟩
  | false => exact q
/-- xs.count(y) by two names -/
def eCnt (K : PySem.W.Frag) (i j : Nat) : TE := fun σ H Q => ∃ (p : Addr) (ws : List Str) (k : Str), σ[i]? = some (some (.ref p)) ∧ σ[j]? = some (some (.str k)) ∧ SqL K H p (ws.map V.str) ∧ Q (.int (ws.count k : Nat)) H
theorem eCnt_ok {K : PySem.W.Frag} {i j : Nat} (σ : L2.St) (H : Hp) (Q : VK) (h : eCnt K i j σ H Q) : tBM K "list" (rCntS K) (tVar i) (tCons (tVar j) tNil) σ H Q := by
  obtain ⟨p, ws, k, h1, h2, h3, h4⟩ := h
  exact ⟨_, h1, .inl ⟨rfl, _, h3⟩, _, h2, p, ws, k, rfl, rfl, h3, h4⟩
end Gct

set_option Elab.async false
set_option linter.all false
set_option maxRecDepth 100000
set_option maxHeartbeats 4000000
/-! a value of any kind beside texts; a list of anything beside an empty one -/
namespace Gj
open L2 hiding Ext
open PySem PySem.Spec PyProof.Rows Gn Gk Gu SeqAt
theorem dict_not_str (a : Addr) (ob : Obj) (b : Str) (u : Tok) (hc : ob.cls = .type "dict") :
    Meets (Builtin.«dict.__eq__» ⟨[.ref a, .str b u], []⟩) (fun _ R s => s.heap.get? a = some ob ∧ R (.ok (.ret .notImplemented)) s) :=
  .of_wp fun prog w A R s h => by
    obtain ⟨hp, g, d, tk, os⟩ := s
    obtain ⟨hl, h⟩ := h
    have f1 := F.sub_str_dict
    unfold Builtin.«dict.__eq__»
    wp_walk using wpAny_loadPart' hl
    exact ⟨_, rfl, h⟩
theorem str_not_dict (b : Str) (u : Tok) (a : Addr) (ob : Obj) :
    Meets (Builtin.«str.__eq__» ⟨[.str b u, .ref a], []⟩) (fun _ R s => s.heap.get? a = some ob ∧ (∃ es ep, ob.data = .dict es ep) ∧ R (.ok (.ret .notImplemented)) s) :=
  .of_wp fun prog w A R s h => by
    obtain ⟨hp, g, d, tk, os⟩ := s
    obtain ⟨hl, ⟨es, ep, hd⟩, h⟩ := h
    obtain ⟨c, dd, data, sl⟩ := ob
    subst hd
    wp_walk using wpAny_loadPart' hl, wpAny_load hl
    exact ⟨_, rfl, h⟩
theorem rc_str_dict {A : Around} {s : Shared} {a : Addr} {ob : Obj} (b : Str) (u : Tok) (hl : s.heap.get? a = some ob) (hc : ob.cls = .type "dict") (hd : ∃ es ep, ob.data = .dict es ep) (hu : A.units < cLine) : RcAt A s (.str b u) (.ref a) false := fun prog w E Q h =>
  rc_eq_decline_or (k := false) (typeIs_str s b u) ⟨_, hl, hc⟩ (by decide) F.sub_dict_str F.slot_str_eq F.slot_dict_eq_refl
    (fun _ hq => call_meets F.slot_str_eq (typeIs_str s b u) F.entry_str_eq (F.args_str_eq_2 _ _) (str_not_dict b u a ob) ⟨hl, hd, hq⟩)
    (fun _ hq => call_meets F.slot_dict_eq_refl ⟨_, hl, hc⟩ F.entry_dict_eq (F.args_dict_eq_2 _ _) (dict_not_str a ob b u hc) ⟨hl, hq⟩)
    (fun _ hq => wpAny_of_eq (rfl : isSame (.str b u) (.ref a) = pure false) hq) (.inr hu) h
theorem eq_str_dict {A : Around} {s : Shared} {a : Addr} {ob : Obj} (b : Str) (u : Tok) (hl : s.heap.get? a = some ob) (hc : ob.cls = .type "dict") (hd : ∃ es ep, ob.data = .dict es ep) (hu : A.units < cLine) : EqAt A s (.str b u) (.ref a) false := fun prog w E Q h => by
  unfold eqBool
  refine wpAny_holding (wpAny_ite_split (fun hab => absurd (eq_of_beq hab) nofun) fun _ => ?_)
  exact wpAny_bind (rc_str_dict b u hl hc hd hu prog w E _ (wpAny_truthy_bool h))
/-- a list, a tuple or a dict -/
def Cont (H : Hp) (a : Addr) : Prop := (∃ xs, H a = some (.lst xs)) ∨ (∃ xs, H a = some (.tup xs)) ∨ ∃ kvs, H a = some (.dK kvs)
theorem Cont.ext {H H' : Hp} {a : Addr} (h : Cont H a) (k : ∀ b o, H b = some o → H' b = some o) : Cont H' a :=
  h.elim (fun ⟨x, e⟩ => .inl ⟨x, k _ _ e⟩) fun h => h.elim (fun ⟨x, e⟩ => .inr (.inl ⟨x, k _ _ e⟩)) fun ⟨x, e⟩ => .inr (.inr ⟨x, k _ _ e⟩)
theorem str_cont {X : Cx} {pins : List (Addr × Obj)} {σ : L2.St} {H : Hp} {s : Shared} (I : L2.Inv X pins σ H s) {a : Addr} (h : Cont H a) {A : Around} (hu : A.units < cLine) (b : Str) (u : Tok) : EqAt A s (.str b u) (.ref a) false := by
  rcases h with ⟨xs, h⟩ | ⟨xs, h⟩ | ⟨kvs, h⟩
  · obtain ⟨its, _, p, _⟩ := I.list (SqL.of h)
    exact EqAt.str_list b u p.isList hu
  · obtain ⟨its, _, p, _⟩ := I.tuple (SqT.of h)
    exact EqAt.str_tuple b u p hu
  · obtain ⟨_, _, vs, _, d⟩ := I.hok a _ h
    obtain ⟨o, es, ep, ho, hx, hdt, _⟩ := d
    exact eq_str_dict b u ho hx.1 ⟨es, ep, hdt⟩ hu
theorem str_flat (ws : List Str) : (ws.map V.str).all flatV = true := by
  rw [List.all_eq_true]
  intro x hx
  obtain ⟨w, _, rfl⟩ := List.mem_map.mp hx
  rfl
/-- x in a list or a tuple of texts, x of any kind -/
def rInO (neg : Bool) : R2 := fun x y H Q => ∃ (p : Addr) (ws : List Str), y = .ref p ∧ (H p = some (.lst (ws.map V.str)) ∨ H p = some (.tup (ws.map V.str))) ∧
  ((flatV x = true ∧ Q (.bl (if neg then !inV x (ws.map V.str) else inV x (ws.map V.str))) H) ∨ ∃ a, x = .ref a ∧ Cont H a ∧ Q (.bl neg) H)
theorem strs_false {X : Cx} {pins : List (Addr × Obj)} {σ : L2.St} {H : Hp} {s : Shared} (I : L2.Inv X pins σ H s) {a : Addr} (h : Cont H a) {A : Around} (hu : A.units < cLine) : ∀ {ws : List Str} {us : List Value}, Vals (ws.map V.str) us → ∀ y ∈ us, EqAt A s y (.ref a) false
  | [], _, .nil, y, hy => by cases hy
  | w :: ws, _, .cons r t, y, hy => by
    obtain ⟨tk, rfl⟩ := r
    rcases List.mem_cons.mp hy with rfl | hy
    · exact str_cont I h hu w tk
    · exact strs_false I h hu t y hy
section
variable {X : Cx} (h64 : X.A.units + 64 < cLine)
include h64 in
theorem op_inO : OpR X (compareOp .In) (rInO false) := by
  have hu : X.A.in1.units < cLine := by show X.A.units + 1 < cLine; omega
  have hu0 : X.A.units < cLine := by omega
  intro pins s σ H x y v u Q I rx ry h
  obtain ⟨p, ws, rfl, hp, h⟩ := h
  rcases h with ⟨fx, q⟩ | ⟨a, rfl, hc, q⟩
  · refine op_in_seq pins s σ H x _ v u Q I rx ry ⟨p, _, rfl, hp.elim (fun e => .inl (SqL.of e)) (fun e => .inr (SqT.of e)), fx, str_flat _, q⟩
  · cases rx
    cases ry
    rcases hp with hp | hp
    · obtain ⟨its, r, pl, _⟩ := I.list (SqL.of hp)
      refine in_listAt (fun _ => false) pl.isList (fun w hw => strs_false I hc hu r w (by simpa using hw)) ⟨.bl _, H, I, rfl, ?_⟩
      rw [show its.toArray.any (fun _ => false) = false by simp]
      exact q
    · obtain ⟨its, r, pl, _⟩ := I.tuple (SqT.of hp)
      refine in_tupleAt (fun _ => false) pl (fun w hw => strs_false I hc hu r w (by simpa using hw)) ⟨.bl _, H, I, rfl, ?_⟩
      rw [show its.toArray.any (fun _ => false) = false by simp]
      exact q
include h64 in
theorem op_notInO : OpR X (compareOp .NotIn) (rInO true) := by
  have hu : X.A.in1.units < cLine := by show X.A.units + 1 < cLine; omega
  have hu0 : X.A.units < cLine := by omega
  intro pins s σ H x y v u Q I rx ry h
  obtain ⟨p, ws, rfl, hp, h⟩ := h
  rcases h with ⟨fx, q⟩ | ⟨a, rfl, hc, q⟩
  · refine op_notIn_seq pins s σ H x _ v u Q I rx ry ⟨p, _, rfl, hp.elim (fun e => .inl (SqL.of e)) (fun e => .inr (SqT.of e)), fx, str_flat _, q⟩
  · cases rx
    cases ry
    rcases hp with hp | hp
    · obtain ⟨its, r, pl, _⟩ := I.list (SqL.of hp)
      refine notIn_listAt (fun _ => false) pl.isList (fun w hw => strs_false I hc hu r w (by simpa using hw)) ⟨.bl _, H, I, rfl, ?_⟩
      rw [show its.toArray.any (fun _ => false) = false by simp]
      exact q
    · obtain ⟨its, r, pl, _⟩ := I.tuple (SqT.of hp)
      refine notIn_tupleAt (fun _ => false) pl (fun w hw => strs_false I hc hu r w (by simpa using hw)) ⟨.bl _, H, I, rfl, ?_⟩
      rw [show its.toArray.any (fun _ => false) = false by simp]
      exact q
/-- a list of anything == a list of no item -/
def rEqE (K : PySem.W.Frag) (neg : Bool) : R2 := fun x y H Q => ∃ (a b : Addr) (xs : List V), x = .ref a ∧ y = .ref b ∧ SqL K H a xs ∧ SqL K H b [] ∧ Q (.bl (if neg then !xs.isEmpty else xs.isEmpty)) H
include h64 in
theorem op_eqE : OpR X (compareOp .Eq) (rEqE X.K false) := by
  have hu : X.A.in1.units < cLine := by show X.A.units + 1 < cLine; omega
  have hu0 : X.A.units < cLine := by omega
  intro pins s σ H x y v u Q I rx ry h
  obtain ⟨a, b, xs, rfl, rfl, ha, hb, q⟩ := h
  cases rx
  cases ry
  obtain ⟨its, r, pa, _⟩ := I.list ha
  obtain ⟨its2, r2, pb, _⟩ := I.list hb
  cases r2
  cases r with
  | nil =>
    refine eq_listAt (e := fun _ => true) pa.isList pb.isList rfl hu0 (fun j h1 => absurd h1 (Nat.not_lt_zero j)) ⟨.bl _, H, I, rfl, ?_⟩
    exact q
  | cons r t =>
    refine eq_list_lengthsAt pa.isList pb.isList (by simp) hu0 ⟨.bl _, H, I, rfl, ?_⟩
    exact q
include h64 in
theorem op_neE : OpR X (compareOp .NotEq) (rEqE X.K true) := by
  have hu0 : X.A.units < cLine := by omega
  intro pins s σ H x y v u Q I rx ry h
  obtain ⟨a, b, xs, rfl, rfl, ha, hb, q⟩ := h
  cases rx
  cases ry
  obtain ⟨its, r, pa, _⟩ := I.list ha
  obtain ⟨its2, r2, pb, _⟩ := I.list hb
  cases r2
  cases r with
  | nil => exact RcNeAt.lists (e := fun _ => true) pa.isList pb.isList rfl hu0 (fun j h1 => absurd h1 (Nat.not_lt_zero j)) _ _ _ _ ⟨.bl _, H, I, rfl, q⟩
  | cons r t => exact RcNeAt.lists_lengths pa.isList pb.isList (by simp) hu0 _ _ _ _ ⟨.bl _, H, I, rfl, q⟩
end
end Gj

set_option Elab.async false
set_option linter.all false
set_option maxRecDepth 100000
set_option maxHeartbeats 4000000
namespace Lw
open L2 hiding Ext
open PySem PySem.Spec PyProof.Rows Gn Gr Gk Go Gt Gf Gu
section
variable {P : Program} {w : World} {K : PySem.W.Frag} {mg : Str → Option Value} {base : Heap} {C fI pN fN fA : Addr} {mc : Value} {fdN fdA : FuncData}
/-! ### _law_units -/
abbrev nUnits : List Str := ["_law_pairs", "_law_found", "_law_name", "_law_amount"]
def UnAt (H : Hp) (ds : List Addr) (L : List (V × Int)) : Prop := Paired (fun (d : Addr) (c : V × Int) => H d = some (.tup [c.1, .int c.2])) ds L
def spUnits : Sp := fun vs H Q _ => ∃ (l : Addr) (ds : List Addr) (L : List (V × Int)), vs = [.ref l] ∧ H l = some (.lst (ds.map V.ref)) ∧ UnAt H ds L ∧ (∀ c ∈ L, 0 ≤ c.2 ∧ c.2 ≤ 100) ∧ L.length ≤ 1000 ∧
  ∀ H' p, Ext H H' → H p = none → H' p = some (.lst (units L)) → Q (.ref p) H'
theorem scUnits : FnScope nUnits ["_law_pairs"] (defScope sLUnits) := ⟨rfl, rfl, rfl, by decide +kernel, rfl, by decide +kernel, by decide +kernel⟩
theorem ok_units {f : Addr} {fd : FuncData} (F : Fun K "_law_units" "_law_units" sLUnits f fd) (T : Names mg) : FnOk P w K mg base CX0 1 f fd ["_law_pairs"] spUnits := by
  refine F.ok scUnits (fun vs H Q E h => ?_) (fun cdv A outer s H vs Q E hr h => ?_)
  · obtain ⟨l, ds, L, rfl, _⟩ := h
    rfl
  · obtain ⟨l, ds, L, rfl, hl, hds, hL, h1000, k⟩ := h
    have hu := hu_of hr
    have nd := scUnits.nd
    refine ⟨_, pss_cons (ps_set (i := 1) nd rfl (.inl rfl) (pe_lst pa_nil))
(pss_cons (ps_for PassesOwn.never rfl (pi_list (pv 0)) (by exact (pg_tup rfl (pgs_cons (pg_name (i := 2) nd rfl (.inl rfl)) (pgs_cons (pg_name (i := 3) nd rfl (.inl rfl)) pgs_nil))))
(pss_one (ps_set (i := 1) nd rfl (.inl rfl) (pe_op op_cat (pv 1) (pe_op op_rep (pe_lst (pa_cons (pv 2) pa_nil)) (pv 3))))))
(pss_one (ps_ret (pv 1)))), ?_⟩
    refine ⟨Nat.zero_le _, fun F0 hF0 => ?_⟩
    have k0 : Ext H (upd H F0 (.lst [])) := Ext.new hF0
    have f0 : (upd H F0 (.lst [])) F0 = some (.lst []) := upd_same
    generalize upd H F0 (.lst []) = H0 at k0 f0 ⊢
    refine ⟨_, rfl, l, rfl, ⟨_, SqL.of (k0 _ _ hl)⟩, ?_⟩
    have dl : ds.length = L.length := Paired.length hds
    refine for_it walk_list (fun i σ H' => ∃ (q : Addr) (v2 v3 : Option V), σ = [some (.ref l), some (.ref q), v2, v3] ∧ H' q = some (.lst (units (L.take i))) ∧ H q = none ∧ Ext H H')
      ⟨F0, none, none, rfl, f0, hF0, k0⟩ (fun i σ H' _ ⟨_, _, _, _, _, _, e⟩ => SqL.of (e _ _ hl)) ?_ ?_
    · rintro i y σ H1 H1' hi ⟨q, v2, v3, rfl, f1, hq, k1⟩ ⟨rfl, hy⟩
      rw [List.getElem?_map] at hy
      obtain ⟨d, hd, rfl⟩ := Option.map_eq_some_iff.mp hy
      have hil : i < L.length := by rw [← dl]; exact (List.getElem?_eq_some_iff.mp hd).1
      have hc := List.getElem?_eq_getElem hil
      generalize L[i] = c at hc
      have ht : H d = some (.tup [c.1, .int c.2]) := by
        obtain ⟨c', h1, h2⟩ := paired_get hds hd
        rw [hc] at h1
        cases h1
        exact h2
      have hcL := hL c (List.mem_of_getElem? hc)
      refine ⟨d, _, rfl, SqT.of (k1 _ _ ht), rfl, _, _, rfl, _, _, rfl, rfl, ?_⟩
      refine ⟨_, rfl, _, rfl, by show 1 ≤ sizeLine; decide, fun p hp => ?_⟩
      have f2 := new_same (o := .lst [c.1]) hp _ _ f1
      have p2 : (upd H1' p (.lst [c.1])) p = some (.lst [c.1]) := upd_same
      have k2 : Ext H (upd H1' p (.lst [c.1])) := k1.trans (Ext.new hp)
      generalize upd H1' p (.lst [c.1]) = H2 at f2 p2 k2 ⊢
      refine ⟨_, rfl, p, _, _, rfl, rfl, p2, by omega, by omega, by show 1 * _ ≤ sizeLine; rw [sizeLine_eq]; omega, fun q2 hq2 => ?_⟩
      rw [List.flatten_replicate_singleton]
      have f3 := new_same (o := .lst (List.replicate c.2.toNat c.1)) hq2 _ _ f2
      have q3 : (upd H2 q2 (.lst (List.replicate c.2.toNat c.1))) q2 = some (.lst (List.replicate c.2.toNat c.1)) := upd_same
      have k3 : Ext H (upd H2 q2 (.lst (List.replicate c.2.toNat c.1))) := k2.trans (Ext.new hq2)
      generalize upd H2 q2 (.lst (List.replicate c.2.toNat c.1)) = H3 at f3 q3 k3 ⊢
      have ul : ((units (L.take i)).length : Int) ≤ (L.take i).length * 100 := units_len (fun x hx => (hL x (List.mem_of_mem_take hx)).2) (by omega)
      rw [List.length_take] at ul
      refine ⟨q, q2, _, _, rfl, rfl, f3, q3, by rw [List.length_replicate, sizeLine_eq]; omega, fun r hr3 => ?_⟩
      refine ⟨r, _, _, rfl, ?_, none_of k3 hr3, k3.trans (Ext.new hr3)⟩
      rw [upd_same, take_snoc hc, units_snoc]
    · rintro σ H1 ⟨q, v2, v3, rfl, f1, hq, k1⟩
      rw [List.length_map, dl, List.take_length] at f1
      exact ⟨_, rfl, k H1 q k1 hq f1⟩
/-! ### _law_turned -/
abbrev nTurned : List Str := ["_law_owner", "_law_before", "_law_at", "_law_first", "_law_want", "_law_previous", "_law_k"]
def oV : Option Nat → V
  | none => .non
  | some w => .int w
def bK (p : Nat × Nat) : Key × V := (Sum.inl (p.1 : Int), .int p.2)
theorem bK_none {B : List (Nat × Nat)} {m : Nat} (h : m ∉ B.map (·.1)) : valV (B.map bK) (Sum.inl (m : Int)) = none := by
  induction B with
  | nil => rfl
  | cons p r ih =>
    rw [List.map_cons, List.mem_cons, not_or] at h
    rw [List.map_cons, valV_neg (by intro e; injection e with e; exact h.1 (by omega))]
    exact ih h.2
theorem bK_get {B : List (Nat × Nat)} {p : Nat × Nat} (hd : (B.map (·.1)).Nodup) (h : p ∈ B) : valV (B.map bK) (Sum.inl (p.1 : Int)) = some (.int p.2) := by
  induction B with
  | nil => cases h
  | cons q r ih =>
    obtain ⟨h1, h2⟩ := List.nodup_cons.mp (show (q.1 :: r.map (·.1)).Nodup from hd)
    rw [List.map_cons]
    rcases List.mem_cons.mp h with rfl | h
    · exact valV_pos rfl
    · rw [valV_neg (by intro e; injection e with e; exact h1 (by rw [show q.1 = p.1 by omega]; exact List.mem_map.mpr ⟨p, h, rfl⟩))]
      exact ih h2 h
theorem bK_dget {H : Hp} {b : Addr} {B : List (Nat × Nat)} {p : Nat × Nat} (h : Rd H b (.dK (B.map bK))) (hd : (B.map (·.1)).Nodup) (hp : p ∈ B) : DGet H b (.int p.1) (some (.int p.2)) := by
  rw [← bK_get hd hp]
  exact .inl ⟨_, Sum.inl (p.1 : Int), h, rfl, rfl⟩
theorem bK_nd {E : Nat → Nat → Prop} {os : List (Option Nat)} {f a want : Nat} {B : List (Nat × Nat)} (h : Bfs E os f B) (t : Tu E os f B os a want B.length) : ((B ++ [(a, want)]).map (·.1)).Nodup := by
  rw [List.map_append]
  refine List.nodup_append.mpr ⟨h.keys, by simp, fun x hx y hy => ?_⟩
  obtain ⟨p, hp, rfl⟩ := List.mem_map.mp hx
  obtain ⟨i, hi⟩ := List.mem_iff_getElem?.mp hp
  rw [List.map_cons, List.map_nil, List.mem_singleton] at hy
  subst hy
  exact (t.old i p (List.getElem?_eq_some_iff.mp hi).1 hi).2
def spTurned : Sp := fun vs H Q _ => ∃ (o b : Addr) (a f want : Nat) (E : Nat → Nat → Prop) (os : List (Option Nat)) (B : List (Nat × Nat)), vs = [.ref o, .ref b, .int a, .int f] ∧ H o = some (.lst (os.map oV)) ∧ H b = some (.dK ((B ++ [(a, want)]).map bK)) ∧
  Bfs E os f B ∧ Mat E os f ∧ Tu E os f B os a want B.length ∧ os.length ≤ 100 ∧
  ∀ H' os', Mat E os' (f + 1) → os'.length = os.length → H' o = some (.lst (os'.map oV)) → ExtD o H H' → Q .non H'
theorem scTurned : FnScope nTurned ["_law_owner", "_law_before", "_law_at", "_law_first"] (defScope sLTurned) := ⟨rfl, rfl, rfl, by decide +kernel, rfl, by decide +kernel, by decide +kernel⟩
theorem ok_turned {f : Addr} {fd : FuncData} (F : Fun K "_law_turned" "_law_turned" sLTurned f fd) (T : Names mg) : FnOk P w K mg base CX0 1 f fd ["_law_owner", "_law_before", "_law_at", "_law_first"] spTurned := by
  refine F.ok scTurned (fun vs H Q E h => ?_) (fun cdv A outer s H vs Q E hr h => ?_)
  · obtain ⟨o, b, a, f', want, E', os, B, rfl, _⟩ := h
    rfl
  · obtain ⟨o, b, a, f', want, E', os, B, rfl, ho, hb, hB, hM, hT, h100, k⟩ := h
    have hu := hu_of hr
    have nd := scTurned.nd
    refine ⟨_, pss_cons (ps_set (i := 4) nd rfl (.inr rfl) (pe_dget hu (pv 1) (pv 2) (fun _ _ => rfl)))
(pss_cons (ps_while PassesOwn.never (pt_cmpR op_ne (pv 4) (pv 3) (nomark _))
(pss_cons (ps_set (i := 5) nd rfl (.inl rfl) (pe_ix ix_list (pe_lc (own := [("_law_k", 6)]) (g := gName 6) rfl nd (pi_range1 rfl T.range (pa_cons (pe_callB call_len_seq rfl T.len PySem.boot_len (pa_cons (pv 0) pa_nil)) pa_nil)) (blkOk_by (N := nTurned) (sc := defScope sLTurned) (by decide +kernel))
(fun _ _ _ _ _ => pg_name (i := 6) nd rfl (.inl rfl)) (fun _ _ _ _ _ => pts_one (pt_cmpR op_eq (pe_ix (r := rIxL K) ix_list (pv 0) (pv 6) (fun _ _ => rfl)) (pv 4) (nomark _))) (fun _ _ _ _ _ => pv 6)) pe_int (fun _ _ => rfl)))
(pss_cons (ps_asg (pv 4) (pg_sub (pv 0) (pv 2) set_list))
(pss_one (ps_asg (pe_tup (pa_cons (pv 5) (pa_cons (pe_dget hu (pv 1) (pv 5) (fun _ _ => rfl)) pa_nil))) (by exact (pg_tup rfl (pgs_cons (pg_name (i := 2) nd rfl (.inl rfl)) (pgs_cons (pg_name (i := 4) nd rfl (.inr rfl)) pgs_nil)))))))))
(pss_one (ps_asg (pv 3) (pg_sub (pv 0) (pv 2) set_list)))), ?_⟩
    have hbd := bK_nd hB hT
    have hbo : b ≠ o := fun e => by rw [e, ho] at hb; cases hb
    refine ⟨_, rfl, _, rfl, b, _, rfl, bK_dget (.inl hb) hbd (List.mem_append.mpr (.inr (List.mem_singleton.mpr rfl))), ?_⟩
    refine Gct.while_gh (fun m σ H' => ∃ (a' want' : Nat) (os' : List (Option Nat)) (v5 : Option V), σ = [some (.ref o), some (.ref b), some (.int a'), some (.int f'), some (.int want'), v5, none] ∧ H' o = some (.lst (os'.map oV)) ∧ Tu E' os f' B os' a' want' m ∧ ExtD o H H')
      ⟨_, a, want, os, none, rfl, ho, hT, ExtD.refl⟩ ?_ (fun σ H Q Q' hq h => ?_)
    · rintro m σ H1 ⟨a', want', os', v5, rfl, ho1, hT1, k1⟩
      refine ⟨_, rfl, _, rfl, rfl, _, rfl, ?_⟩
      have al : a' < os'.length := hT1.al
      have ixo : ∀ {xs : List (Option Nat)}, a' < xs.length → ixN (xs.map oV).length ((a' : Nat) : Int) = some a' := fun {xs} h => by
        unfold ixN
        rw [if_pos (by omega), if_pos (by rw [List.length_map]; omega), Int.toNat_natCast]
      by_cases hw : want' = f'
      · subst hw
        refine iteNS rfl ?_
        refine ⟨_, rfl, _, rfl, _, rfl, o, _, _, _, rfl, rfl, ho1, ixo al, ?_⟩
        refine k _ (os'.set a' (some want')) hT1.done (by rw [List.length_set]; exact hT1.len) ?_ (k1.trans ExtD.at)
        rw [upd_same, List.map_set]
        rfl
      · obtain ⟨i, p, hi, hp, hpl, hu1, hT2⟩ := hT1.prev hB hM hw
        have hpm : p ∈ B ++ [(a, want)] := List.mem_append.mpr (.inl (List.mem_of_getElem? hp))
        rw [decide_eq_false (by intro e; injection e with e; exact hw (by omega))]
        refine iteT ?_
        refine ⟨_, rfl, o, _, rfl, .inl (SqL.of ho1), _, rfl, by rw [List.length_map]; have := hT1.len; omega, by rw [List.length_map]; have := hT1.len; omega, fun L hL => ?_⟩
        have hLo : L ≠ o := fun e => by rw [e, ho1] at hL; cases hL
        refine lc_it walk_range (fun i H' => H' L = some (.lst (if p.1 < i then [V.int (p.1 : Nat)] else [])) ∧ Ext H1 H') ⟨upd_same, Ext.new hL⟩ (fun i H' _ _ => trivial) ?_ ?_
        · rintro i x H2 H2' hi2 ⟨L2, k2⟩ ⟨rfl, rfl⟩
          rw [List.length_map] at hi2
          have e0 : (0 : Int) + ((i : Nat) : Int) = ((i : Nat) : Int) := by omega
          have hx := List.getElem?_eq_getElem (l := os') (i := i) (by omega)
          generalize os'[i] = x at hx
          have hx2 : atI (os'.map oV) (0 + ((i : Nat) : Int)) = some (oV x) := by rw [e0]; exact atI_nat (by rw [List.getElem?_map, hx]; rfl)
          refine ⟨rfl, ?_⟩
          refine ⟨_, rfl, _, rfl, o, _, _, _, rfl, rfl, SqL.of (k2 _ _ ho1), hx2, _, rfl, (by cases x <;> rfl), ?_⟩
          refine ⟨_, rfl, ?_⟩
          by_cases hk : i = p.1
          · subst hk
            rw [(hu1 p.1).mpr rfl] at hx
            cases hx
            refine iteS rfl ?_
            rw [if_neg (Nat.lt_irrefl _)] at L2
            refine ⟨_, rfl, [], L2, by decide, ?_, fun x o' e => ?_⟩
            · rw [upd_same, if_pos (Nat.lt_succ_self _)]
              show some (HO.lst [V.int (0 + ((p.1 : Nat) : Int))]) = _
              rw [e0]
            · rw [upd_ne (ne_of_none e hL)]; exact k2 _ _ e
          · have hne : oV x ≠ V.int (want' : Nat) := fun e => by
              cases x with
              | none => cases e
              | some w =>
                injection e with e
                exact hk ((hu1 i).mp (by rw [hx, show w = want' by omega]))
            rw [decide_eq_false hne]
            refine iteF ⟨?_, k2⟩
            by_cases h2 : p.1 < i
            · rw [if_pos h2] at L2
              rw [if_pos (by omega)]; exact L2
            · rw [if_neg h2] at L2
              rw [if_neg (by omega)]; exact L2
        · rintro H2 ⟨L2, k2⟩
          rw [List.length_map, Int.toNat_natCast, if_pos hpl] at L2
          refine ⟨L, _, _, _, rfl, rfl, SqL.of L2, (show atI _ ((0 : Nat) : Int) = _ from atI_nat rfl), ?_⟩
          refine ⟨_, rfl, _, rfl, _, rfl, o, _, _, _, rfl, rfl, k2 _ _ ho1, ixo al, ?_⟩
          have o3 : (upd H2 o (.lst ((os'.map oV).set a' (V.int (want' : Nat))))) o = some (.lst ((os'.set a' (some want')).map oV)) := by
            rw [upd_same, List.map_set]
            rfl
          have k3 : ExtD o H (upd H2 o (.lst ((os'.map oV).set a' (V.int (want' : Nat))))) := (k1.trans (ExtD.of k2)).trans ExtD.at
          generalize upd H2 o (.lst ((os'.map oV).set a' (V.int (want' : Nat)))) = H3 at o3 k3 ⊢
          refine ⟨_, rfl, _, rfl, _, rfl, b, _, rfl, bK_dget (.inl (k3 _ _ hbo hb)) hbd hpm, by show 2 ≤ sizeLine; decide, fun t ht => ?_⟩
          refine ⟨t, _, rfl, SqT.of upd_same, rfl, _, _, rfl, _, _, rfl, rfl, ?_⟩
          have kt := Ext.new (o := .tup [.int (p.1 : Nat), .int (p.2 : Nat)]) ht
          exact ⟨i, hi, p.1, p.2, os'.set a' (some want'), _, rfl, kt _ _ o3, hT2, k3.trans (ExtD.of kt)⟩
    · obtain ⟨v, e1, y, e2, e3, b', e4, q⟩ := h
      exact ⟨v, e1, y, e2, e3, b', e4, hq _ _ q⟩
end
end Lw

set_option Elab.async false
set_option linter.all false
set_option maxRecDepth 100000
set_option maxHeartbeats 4000000
namespace Lw
open L2 hiding Ext
open PySem PySem.Spec PyProof.Rows Gn Gr Gk Go Gt Gf Gu
theorem ext_upd {H H' : Hp} {a : Addr} {o : HO} (k : Ext H H') (h : H a = none) : Ext H (upd H' a o) := fun x o' e => by
  rw [upd_ne (ne_of_none e h)]; exact k _ _ e
def Clo (E : Nat → Nat → Prop) (n : Nat) (D : List Nat) (B : List (Nat × Nat)) : Prop := ∀ u ∈ D, ∀ m, m < n → E u m → m ∈ B.map (·.1)
theorem Clo.snoc {E : Nat → Nat → Prop} {n : Nat} {D : List Nat} {B : List (Nat × Nat)} {c : Nat × Nat} (h : Clo E n D B) : Clo E n D (B ++ [c]) := fun u hu m hm e => by
  rw [List.map_append]
  exact List.mem_append.mpr (.inl (h u hu m hm e))
section
variable {P : Program} {w : World} {K : PySem.W.Frag} {mg : Str → Option Value} {base : Heap} {C fI pN fN fA : Addr} {mc : Value} {fdN fdA : FuncData}
/-! ### _law_is_augmented -/
abbrev nAug : List Str := ["_law_rows", "_law_wants", "_law_money", "_law_owner", "_law_first", "_law_before", "_law_waiting", "_law_want", "_law_at"]
def spAug : Sp := fun vs H Q _ => ∃ (l wl ml o : Addr) (f : Nat) (rx : List V) (rs : List FRow) (wants money : List Str) (os : List (Option Nat)), vs = [.ref l, .ref wl, .ref ml, .ref o, .int f] ∧ H l = some (.lst rx) ∧ RowsAt H rx rs ∧ Good rs ∧
  H wl = some (.lst (wants.map V.str)) ∧ H ml = some (.lst (money.map V.str)) ∧ (∀ n ∈ money, n ∈ fNames rs) ∧ money.length ≤ 50 ∧ f < wants.length ∧ H o = some (.lst (os.map oV)) ∧ os.length = money.length ∧ Mat (edge rs wants money) os f ∧
  (∀ H' os', Mat (edge rs wants money) os' (f + 1) → os'.length = os.length → H' o = some (.lst (os'.map oV)) → ExtD o H H' → Q (.bl true) H') ∧
  (∀ H' B, Bfs (edge rs wants money) os f B → Clo (edge rs wants money) os.length (seen os f B) B → Ext H H' → Q (.bl false) H')
theorem scAug : FnScope nAug ["_law_rows", "_law_wants", "_law_money", "_law_owner", "_law_first"] (defScope sLIsAugmented) := ⟨rfl, rfl, rfl, by decide +kernel, rfl, by decide +kernel, by decide +kernel⟩
theorem ok_aug {f fU fT : Addr} {fd fdU fdT : FuncData} (F : Fun K "_law_is_augmented" "_law_is_augmented" sLIsAugmented f fd) (T : Names mg)
    (GU : FnOk P w K mg base CX0 1 fU fdU ["_law_rows", "_law_name"] spUp) (bU : Binds K fdU ["_law_rows", "_law_name"] []) (kU : PySem.W.keepIn K (.ref fU) = true) (mU : mg "_law_up" = some (.ref fU))
    (GT : FnOk P w K mg base CX0 1 fT fdT ["_law_owner", "_law_before", "_law_at", "_law_first"] spTurned) (bT : Binds K fdT ["_law_owner", "_law_before", "_law_at", "_law_first"] []) (kT : PySem.W.keepIn K (.ref fT) = true) (mT : mg "_law_turned" = some (.ref fT)) :
    FnOk P w K mg base CX0 2 f fd ["_law_rows", "_law_wants", "_law_money", "_law_owner", "_law_first"] spAug := by
  refine F.ok scAug (fun vs H Q E h => ?_) (fun cdv A outer s H vs Q E hr h => ?_)
  · obtain ⟨l, wl, ml, o, f', rx, rs, wants, money, os, rfl, _⟩ := h
    rfl
  · obtain ⟨l, wl, ml, o, f', rx, rs, wants, money, os, rfl, hl, hR, hG, hwl, hml, hmn, h50, hf, ho, hol, hM, kT', kF'⟩ := h
    have hu := hu_of hr
    have nd := scAug.nd
    have hr1 : Room 1 (A.deeper (envOfC "_law_is_augmented" (defScope sLIsAugmented) s.heap.objs.size f cdv)) := hr
    refine ⟨_, pss_cons (ps_par (i := 5) (j := 6) (by rfl) nd rfl rfl (by decide) rfl rfl (pa_cons pe_dnewK (pa_cons (pe_lst (pa_cons (pv 4) pa_nil)) pa_nil)) (by rfl))
(pss_cons (ps_while PassesOwn.never (pt_cmpR (Gj.op_neE hr.units) (pv 6) (pe_lst pa_nil) (nomark _))
(pss_cons (ps_set (i := 7) nd rfl (.inl rfl) (pe_bm PySem.F.plainAttrs_list PySem.F.slot_list_pop PySem.F.type_list_pop mt_popAt (pv 6) (pa_cons pe_int pa_nil)))
(pss_one (ps_for PassesOwn.never rfl (pi_range1 rfl T.range (pa_cons (pe_callB call_len_seq rfl T.len PySem.boot_len (pa_cons (pv 2) pa_nil)) pa_nil)) (pg_name (i := 8) nd rfl (.inl rfl))
(pss_one (ps_if (PW.pt (pw_and (pt_cmp (pc_dnotin hu (pv 8) (pv 5))) (pw_and1 (pt_cmpR op_in_seq (pe_ix ix_list (pv 1) (pv 7) (fun _ _ => rfl)) (pe_call GU hr1 rfl mU kU bU .nil pass0 (pa_cons (pv 0) (pa_cons (pe_ix ix_list (pv 2) (pv 8) (fun _ _ => rfl)) pa_nil))) rfl)))) (pss_cons (ps_dput hu (pv 5) (pv 8) (pv 7) rfl)
(pss_cons (ps_if (pt_cmpR op_isN (pe_ix ix_list (pv 3) (pv 8) (fun _ _ => rfl)) pe_non (nomark _)) (pss_cons (ps_expr (pe_call GT hr1 rfl mT kT bT .nil pass0 (pa_cons (pv 3) (pa_cons (pv 5) (pa_cons (pv 8) (pa_cons (pv 4) pa_nil))))))
(pss_one (ps_ret pe_bl))) pss_nil)
(pss_one (ps_expr (pe_bm PySem.F.plainAttrs_list PySem.F.slot_list_append PySem.F.type_list_append mt_append (pv 6) (pa_cons (pe_ix ix_list (pv 3) (pv 8) (fun _ _ => rfl)) pa_nil)))))) pss_nil))))))
(pss_one (ps_ret pe_bl))), ?_⟩
    refine fun bA hbA => ?_
    have k0 : Ext H (upd H bA (.dK [])) := Ext.new hbA
    have b0 : (upd H bA (.dK [])) bA = some (.dK (([] : List (Nat × Nat)).map bK)) := upd_same
    generalize upd H bA (.dK []) = H0 at k0 b0 ⊢
    refine ⟨_, rfl, by show 1 ≤ sizeLine; decide, fun wA hwA => ?_⟩
    have hbw : bA ≠ wA := ne_of_none b0 hwA
    have b1 := new_same (o := .lst [.int (f' : Nat)]) hwA _ _ b0
    have w1 : (upd H0 wA (.lst [.int (f' : Nat)])) wA = some (.lst (([f'] : List Nat).map fun (z : Nat) => V.int z)) := upd_same
    have k1 : Ext H (upd H0 wA (.lst [.int (f' : Nat)])) := k0.trans (Ext.new hwA)
    have hwH : H wA = none := none_of k0 hwA
    generalize upd H0 wA (.lst [.int (f' : Nat)]) = H1 at k1 b1 w1 ⊢
    refine ⟨_, _, rfl, ?_⟩
    refine Gct.while_gh (fun m σ H' => ∃ (B : List (Nat × Nat)) (Dn Wt : List Nat) (v7 v8 : Option V), σ = [some (.ref l), some (.ref wl), some (.ref ml), some (.ref o), some (.int f'), some (.ref bA), some (.ref wA), v7, v8] ∧
        H' bA = some (.dK (B.map bK)) ∧ H' wA = some (.lst (Wt.map fun (z : Nat) => V.int z)) ∧ Bfs (edge rs wants money) os f' B ∧ Dn ++ Wt = seen os f' B ∧ Clo (edge rs wants money) os.length Dn B ∧ Ext H H' ∧ m + Dn.length = os.length + 2)
      ⟨os.length + 2, [], [], [f'], none, none, rfl, b1, w1, ⟨.nil, (fun p h => by cases h), (fun p h => by cases h), (fun p h => by cases h), (fun j p h => by cases h)⟩, rfl, (fun u h => by cases h), k1, rfl⟩ ?_ (fun σ H Q Q' hq h => ?_)
    · rintro m σ H2 ⟨B, Dn, Wt, v7, v8, rfl, b2, w2, hB, hD, hC, k2, hm⟩
      have hBl := hB.len
      have hDl : Dn.length + Wt.length = B.length + 1 := by rw [← List.length_append, hD, seen_len]
      refine ⟨_, rfl, by show 0 ≤ sizeLine; decide, fun e he => ?_⟩
      have hbe : bA ≠ e := ne_of_none b2 he
      have b3 := new_same (o := .lst []) he _ _ b2
      have w3 := new_same (o := .lst []) he _ _ w2
      have k3 : Ext H (upd H2 e (.lst [])) := k2.trans (Ext.new he)
      refine ⟨wA, e, _, rfl, rfl, SqL.of w3, SqL.of upd_same, _, rfl, ?_⟩
      generalize upd H2 e (.lst []) = H3 at b3 w3 k3 ⊢
      cases Wt with
      | nil =>
        refine iteF ?_
        rw [List.append_nil] at hD
        rw [hD] at hC
        exact kF' H3 B hB hC k3
      | cons u Wr =>
        refine iteT ?_
        have hdw : (seen os f' B)[Dn.length]? = some u := by
          rw [← hD, List.getElem?_append_right (Nat.le_refl _), Nat.sub_self]; rfl
        have huf := hB.seen_lt hM (List.mem_of_getElem? hdw)
        refine ⟨_, rfl, .inl ⟨rfl, _, SqL.of w3⟩, wA, _, 0, 0, V.int (u : Nat), rfl, rfl, w3, by decide, by decide, ix_pos (by decide) (by rw [List.length_map, List.length_cons]; omega), rfl, ?_⟩
        have w4 : (upd H3 wA (.lst (((u :: Wr).map fun (z : Nat) => V.int z).eraseIdx 0))) wA = some (.lst (Wr.map fun (z : Nat) => V.int z)) := upd_same
        have b4 : (upd H3 wA (.lst (((u :: Wr).map fun (z : Nat) => V.int z).eraseIdx 0))) bA = some (.dK (B.map bK)) := by rw [upd_ne hbw]; exact b3
        have k4 : Ext H (upd H3 wA (.lst (((u :: Wr).map fun (z : Nat) => V.int z).eraseIdx 0))) := ext_upd k3 hwH
        generalize upd H3 wA (.lst (((u :: Wr).map fun (z : Nat) => V.int z).eraseIdx 0)) = H4 at b4 w4 k4 ⊢
        clear b3 w3 k3 b2 w2 k2 b1 w1 k1 b0 k0
        refine ⟨_, rfl, ml, _, rfl, .inl (SqL.of (k4 _ _ hml)), _, rfl, by rw [List.length_map]; omega, by rw [List.length_map]; omega, ?_⟩
        have hw := List.getElem?_eq_getElem (l := wants) (i := u) (by omega)
        generalize wants[u] = a at hw
        have hwA' : atI (wants.map V.str) ((u : Nat) : Int) = some (.str a) := atI_nat (by rw [List.getElem?_map, hw]; rfl)
        refine for_it walk_range (fun i σ H' => ∃ (B : List (Nat × Nat)) (Wt : List Nat) (v8 : Option V), σ = [some (.ref l), some (.ref wl), some (.ref ml), some (.ref o), some (.int f'), some (.ref bA), some (.ref wA), some (.int u), v8] ∧
            H' bA = some (.dK (B.map bK)) ∧ H' wA = some (.lst (Wt.map fun (z : Nat) => V.int z)) ∧ Bfs (edge rs wants money) os f' B ∧ Dn ++ u :: Wt = seen os f' B ∧ Clo (edge rs wants money) os.length Dn B ∧ Clo (edge rs wants money) i [u] B ∧ Ext H H')
          ⟨B, Wr, v8, rfl, b4, w4, hB, hD, hC, (fun x hx m hm => by omega), k4⟩ (fun i σ H' _ _ => trivial) ?_ ?_
        · clear hD hC hB b4 w4 k4 hBl hDl hdw huf
          rintro i y σ H5 H5' hi ⟨B, Wt, v8, rfl, b5, w5, hB, hD, hC, hC2, k5⟩ ⟨rfl, rfl⟩
          rw [List.length_map] at hi
          have e0 : (0 : Int) + ((i : Nat) : Int) = ((i : Nat) : Int) := by omega
          have him : i < money.length := by omega
          have hx := List.getElem?_eq_getElem him
          generalize money[i] = n at hx
          have hnm := hmn n (List.mem_of_getElem? hx)
          have hq := List.getElem?_eq_getElem (l := os) (i := i) (by omega)
          generalize os[i] = q at hq
          have hdw : (seen os f' B)[Dn.length]? = some u := by
            rw [← hD, List.getElem?_append_right (Nat.le_refl _), Nat.sub_self]; rfl
          have nxt : ∀ {H' : Hp}, Ext H5' H' → (∀ m, m < i + 1 → edge rs wants money u m → m ∈ B.map (·.1)) → ∃ (B : List (Nat × Nat)) (Wt : List Nat) (v8 : Option V), [some (.ref l), some (.ref wl), some (.ref ml), some (.ref o), some (.int f'), some (.ref bA), some (.ref wA), some (.int u), some (.int (0 + (i : Int)))] = [some (.ref l), some (.ref wl), some (.ref ml), some (.ref o), some (.int f'), some (.ref bA), some (.ref wA), some (.int u), v8] ∧
            H' bA = some (.dK (B.map bK)) ∧ H' wA = some (.lst (Wt.map fun (z : Nat) => V.int z)) ∧ Bfs (edge rs wants money) os f' B ∧ Dn ++ u :: Wt = seen os f' B ∧ Clo (edge rs wants money) os.length Dn B ∧ Clo (edge rs wants money) (i + 1) [u] B ∧ Ext H H' := fun {H'} kk z =>
            ⟨B, Wt, _, rfl, kk _ _ b5, kk _ _ w5, hB, hD, hC, (fun x hx m hm e => by rw [List.mem_singleton] at hx; subst hx; exact z m hm e), k5.trans kk⟩
          refine ⟨_, rfl, _, rfl, bA, _, rfl, .inl ⟨_, Sum.inl (0 + (i : Int)), .inl b5, rfl, rfl⟩, ?_⟩
          rw [e0]
          by_cases hk : i ∈ B.map (·.1)
          · obtain ⟨p, hp, rfl⟩ := List.mem_map.mp hk
            rw [bK_get hB.keys hp]
            refine ⟨_, rfl, iteF (iteF (nxt Ext.refl fun m hm e => ?_))⟩
            rcases Nat.lt_succ_iff_lt_or_eq.mp hm with hm | rfl
            · exact hC2 u (List.mem_singleton.mpr rfl) m hm e
            · exact List.mem_map.mpr ⟨p, hp, rfl⟩
          · rw [bK_none hk]
            refine ⟨_, rfl, iteT ?_⟩
            refine ⟨_, rfl, _, rfl, wl, _, _, _, rfl, rfl, SqL.of (k5 _ _ hwl), hwA', ?_⟩
            refine ⟨_, rfl, _, rfl, _, rfl, ml, _, _, _, rfl, rfl, SqL.of (k5 _ _ hml), (by rw [e0]; exact atI_nat (by rw [List.getElem?_map, hx]; rfl)), ?_⟩
            refine ⟨l, rx, rs, n, rfl, k5 _ _ hl, hR.ext k5, hG, hnm, fun H6 v k6 hv0 hv => ?_⟩
            refine ⟨v, _, rfl, .inl (SqL.of hv), rfl, strs_flat _, _, rfl, ?_⟩
            show if inV (V.str a) ((anc rs n).map V.str) = true then _ else _
            rw [inV_strs]
            by_cases he : a ∈ anc rs n
            · refine iteS he ?_
              have hE : edge rs wants money u i := ⟨a, n, hw, hx, he⟩
              have b6 := k6 _ _ b5
              have w6 := k6 _ _ w5
              have k06 := k5.trans k6
              have hBl := hB.len
              refine ⟨_, rfl, _, rfl, _, rfl, bA, _, rfl, .inl ⟨_, Sum.inl (0 + (i : Int)), b6, rfl, by rw [List.length_map, sizeLine_eq]; omega, rfl⟩, ?_⟩
              rw [e0, putK_new _ (bK_none hk)]
              have b7 : (upd H6 bA (.dK (B.map bK ++ [(Sum.inl (i : Int), V.int (u : Nat))]))) bA = some (.dK ((B ++ [(i, u)]).map bK)) := by rw [upd_same, List.map_append]; rfl
              have w7 : (upd H6 bA (.dK (B.map bK ++ [(Sum.inl (i : Int), V.int (u : Nat))]))) wA = some (.lst (Wt.map fun (z : Nat) => V.int z)) := by rw [upd_ne hbw.symm]; exact w6
              have k7 : Ext H (upd H6 bA (.dK (B.map bK ++ [(Sum.inl (i : Int), V.int (u : Nat))]))) := ext_upd k06 hbA
              generalize upd H6 bA (.dK (B.map bK ++ [(Sum.inl (i : Int), V.int (u : Nat))])) = H7 at b7 w7 k7 ⊢
              have hqA : atI (os.map oV) (0 + ((i : Nat) : Int)) = some (oV q) := by rw [e0]; exact atI_nat (by rw [List.getElem?_map, hq]; rfl)
              refine ⟨_, rfl, _, rfl, o, _, _, _, rfl, rfl, SqL.of (k7 _ _ ho), hqA, rfl, _, rfl, ?_⟩
              cases q with
              | none =>
                refine iteS rfl ?_
                refine ⟨_, rfl, _, rfl, _, rfl, _, rfl, o, bA, i, f', u, _, os, B, congrArg (fun (z : Int) => [V.ref o, V.ref bA, V.int z, V.int (f' : Nat)]) e0, k7 _ _ ho, b7, hB, hM, Tu.begin hB hM hdw hq hE hk, by omega, fun H8 os' m8 l8 o8 k8 => ?_⟩
                exact kT' H8 os' m8 l8 o8 ((ExtD.of k7).trans k8)
              | some z =>
                refine iteN (by intro e; cases e) ?_
                have hlen : Wt.length ≤ 60 := by
                  have e1 := congrArg List.length hD
                  rw [seen_len, List.length_append, List.length_cons] at e1
                  omega
                refine ⟨_, rfl, .inl ⟨rfl, _, SqL.of w7⟩, _, rfl, _, rfl, o, _, _, _, rfl, rfl, SqL.of (k7 _ _ ho), hqA, wA, _, _, rfl, rfl, w7, small1000 (by rw [List.length_map]; omega), ?_⟩
                have hlt : i < os.length := by omega
                refine ⟨B ++ [(i, u)], Wt ++ [z], _, rfl, by rw [upd_ne hbw]; exact b7, by rw [upd_same, List.map_append]; rfl, hB.snoc hdw hk hlt hE hq, ?_, hC.snoc, fun x hx m hm e => ?_, ext_upd k7 hwH⟩
                · rw [seen_snoc hq, ← hD, List.append_assoc, List.cons_append]
                · rw [List.map_append, List.mem_append]
                  rcases Nat.lt_succ_iff_lt_or_eq.mp hm with hm | rfl
                  · exact .inl (hC2 x hx m hm e)
                  · exact .inr (List.mem_singleton.mpr rfl)
            · refine iteN he (nxt k6 fun m hm e => ?_)
              rcases Nat.lt_succ_iff_lt_or_eq.mp hm with hm | rfl
              · exact hC2 u (List.mem_singleton.mpr rfl) m hm e
              · obtain ⟨a', n', q1, q2, q3⟩ := e
                rw [hw] at q1
                rw [hx] at q2
                cases q1
                cases q2
                exact absurd q3 he
        · rintro σ H5 ⟨B, Wt, v8, rfl, b5, w5, hB, hD, hC, hC2, k5⟩
          rw [List.length_map, Int.toNat_natCast, ← hol] at hC2
          refine ⟨m - 1, by omega, B, Dn ++ [u], Wt, _, _, rfl, b5, w5, hB, by rw [List.append_assoc]; exact hD, fun x hx m hm e => ?_, k5, by rw [List.length_append, List.length_cons, List.length_nil]; omega⟩
          rcases List.mem_append.mp hx with hx | hx
          · exact hC x hx m hm e
          · exact hC2 x hx m hm e
    · obtain ⟨v, e1, e2, f⟩ := h
      refine ⟨v, e1, e2, fun e he => ?_⟩
      obtain ⟨a, b, xs, a1, a2, a3, a4, c, a5, q⟩ := f e he
      exact ⟨a, b, xs, a1, a2, a3, a4, c, a5, hq _ _ q⟩
end
end Lw

set_option Elab.async false
set_option linter.all false
set_option maxRecDepth 100000
set_option maxHeartbeats 4000000
namespace Lw
open L2 hiding Ext
open PySem PySem.Spec PyProof.Rows Gn Gr Gk Go Gt Gf Gu
def vL (L : List (Str × Int)) : List (V × Int) := L.map fun c => (V.str c.1, c.2)
theorem vL_units (L : List (Str × Int)) : units (vL L) = (units L).map V.str := (units_map V.str L).symm
theorem UnAt.ext {H H' : Hp} {ds : List Addr} {L : List (V × Int)} (h : UnAt H ds L) (k : Ext H H') : UnAt H' ds L := Paired.mapP h fun _ _ e => k _ _ e
theorem UnAt.put {H : Hp} {ds : List Addr} {L : List (V × Int)} {a : Addr} {o : HO} {u : List V} (h : UnAt H ds L) (ha : H a = some (.lst u)) : UnAt (upd H a o) ds L := Paired.mapP h fun _ _ e => by
  rw [upd_ne (ne_of e ha (by intro z; cases z))]; exact e
theorem UnAt.snoc {H : Hp} {ds : List Addr} {L : List (V × Int)} {d : Addr} {c : V × Int} (h : UnAt H ds L) (hd : H d = some (.tup [c.1, .int c.2])) : UnAt H (ds ++ [d]) (L ++ [c]) := Paired.snoc h hd
section
variable {P : Program} {w : World} {K : PySem.W.Frag} {mg : Str → Option Value} {base : Heap} {C fI pN fN fA : Addr} {mc : Value} {fdN fdA : FuncData}
/-! ### _law_is_matched -/
abbrev nMatched : List Str := ["_law_rows", "_law_claims", "_law_spent", "_law_balances", "_law_wants", "_law_money", "_law_owner", "_law_want", "_law_rank", "_law_name", "_law_unit"]
def spMatched : Sp := fun vs H Q _ => ∃ (l cl sl b : Addr) (rx xs : List V) (rs : List FRow) (bs cs : List (Str × Int)) (ps : List Int), vs = [.ref l, .ref cl, .ref sl, .ref b] ∧ H l = some (.lst rx) ∧ RowsAt H rx rs ∧ Good rs ∧ H cl = some (.lst xs) ∧ CsAt H xs cs ∧ (∀ c ∈ cs, c.1 ∈ fNames rs) ∧ cs.length ≤ 20 ∧ H sl = some (.lst (ps.map V.int)) ∧ ps.length = cs.length ∧ (∀ z ∈ ps, 0 ≤ z ∧ z ≤ 5) ∧ H b = some (.dK (dB bs)) ∧ BsN rs bs ∧ (∀ p ∈ bs, 0 ≤ p.2 ∧ p.2 ≤ 5) ∧ bs.length ≤ 9 ∧
  ∀ H', Ext H H' → Q (.bl (overF rs bs cs ps).isNone) H'
theorem scMatched : FnScope nMatched ["_law_rows", "_law_claims", "_law_spent", "_law_balances"] (defScope sLIsMatched) := ⟨rfl, rfl, rfl, by decide +kernel, rfl, by decide +kernel, by decide +kernel⟩
theorem ok_matched {f fU fT : Addr} {fd fdU fdT : FuncData} (F : Fun K "_law_is_matched" "_law_is_matched" sLIsMatched f fd) (T : Names mg)
    (GN : FnOk P w K mg base CX0 1 fU fdU ["_law_pairs"] spUnits) (bN : Binds K fdU ["_law_pairs"] []) (kN : PySem.W.keepIn K (.ref fU) = true) (mN : mg "_law_units" = some (.ref fU))
    (GA : FnOk P w K mg base CX0 2 fT fdT ["_law_rows", "_law_wants", "_law_money", "_law_owner", "_law_first"] spAug) (bA : Binds K fdT ["_law_rows", "_law_wants", "_law_money", "_law_owner", "_law_first"] []) (kA : PySem.W.keepIn K (.ref fT) = true) (mA : mg "_law_is_augmented" = some (.ref fT)) :
    FnOk P w K mg base CX0 3 f fd ["_law_rows", "_law_claims", "_law_spent", "_law_balances"] spMatched := by
  refine F.ok scMatched (fun vs H Q E h => ?_) (fun cdv A outer s H vs Q E hr h => ?_)
  · obtain ⟨l, cl, sl, b, rx, xs, rs, bs, cs, ps, rfl, _⟩ := h
    rfl
  · obtain ⟨l, cl, sl, b, rx, xs, rs, bs, cs, ps, rfl, hl, hR, hG, hcl, hcs, hcn, hc20, hsl, hpl, hps, hb, hB, hb5, hb9, k⟩ := h
    have hu := hu_of hr
    have nd := scMatched.nd
    have hr2 : Room 2 (A.deeper (envOfC "_law_is_matched" (defScope sLIsMatched) s.heap.objs.size f cdv)) := hr
    have hr1 : Room 1 (A.deeper (envOfC "_law_is_matched" (defScope sLIsMatched) s.heap.objs.size f cdv)) := hr.mono (by decide)
    refine ⟨_, pss_cons (ps_set (i := 4) nd rfl (.inl rfl) (pe_call GN hr1 rfl mN kN bN .nil pass0 (pa_cons (pe_lc (own := [("_law_rank", 8)]) (g := gName 8) (tt := tYes) rfl nd (pi_range1 rfl T.range (pa_cons (pe_callB call_len_seq rfl T.len PySem.boot_len (pa_cons (pv 1) pa_nil)) pa_nil)) (blkOk_by (N := nMatched) (sc := defScope sLIsMatched) (by decide +kernel))
(fun _ _ _ _ _ => pg_name (i := 8) nd rfl (.inl rfl)) (fun _ _ _ _ _ => pts_nil) (fun _ _ _ _ _ => pe_tup (pa_cons (pe_ix (r := rIxT K) ix_tup (pe_ix (r := rIxL K) ix_list (pv 1) (pv 8) (fun _ _ => rfl)) pe_int (fun _ _ => rfl)) (pa_cons (pe_ix (r := rIxL K) ix_list (pv 2) (pv 8) (fun _ _ => rfl)) pa_nil)))) pa_nil)))
(pss_cons (ps_set (i := 5) nd rfl (.inl rfl) (pe_call GN hr1 rfl mN kN bN .nil pass0 (pa_cons (pe_lock (pe_lc (own := [("_law_name", 9)]) (g := gName 9) (tt := tYes) rfl nd (pi_keys (pv 3)) (blkOk_by (N := nMatched) (sc := defScope sLIsMatched) (by decide +kernel))
(fun _ _ _ _ _ => pg_name (i := 9) nd rfl (.inl rfl)) (fun _ _ _ _ _ => pts_nil) (fun _ _ _ _ _ => pe_tup (pa_cons (pv 9) (pa_cons (pe_dget hu (pv 3) (pv 9) (fun _ _ => rfl)) pa_nil))))) pa_nil)))
(pss_cons (ps_setLc (i := 6) (own := [("_law_unit", 10)]) (g := gName 10) (tt := tYes) rfl nd rfl rfl (sw_true rfl rfl rfl (by decide +kernel)) (pi_list (pv 5)) (blkOk_by (N := nMatched) (sc := defScope sLIsMatched) (by decide +kernel))
(fun _ _ _ _ _ => pg_name (i := 10) nd rfl (.inl rfl)) (fun _ _ _ _ _ => pts_nil) (fun _ _ _ _ _ => pe_non))
(pss_cons (ps_for PassesOwn.never rfl (pi_range1 rfl T.range (pa_cons (pe_callB call_len_seq rfl T.len PySem.boot_len (pa_cons (pv 4) pa_nil)) pa_nil)) (pg_name (i := 7) nd rfl (.inl rfl))
(pss_one (ps_if (pt_not (pt_val (pe_call GA hr2 rfl mA kA bA .nil pass0 (pa_cons (pv 0) (pa_cons (pv 4) (pa_cons (pv 5) (pa_cons (pv 6) (pa_cons (pv 7) pa_nil)))))))) (pss_one (ps_ret pe_bl)) pss_nil)))
(pss_one (ps_ret pe_bl))))), ?_⟩
    have wl : (wantL cs ps).length = cs.length := by unfold wantL; rw [List.length_map, List.length_zip]; omega
    have xl := hcs.1
    refine ⟨_, rfl, cl, _, rfl, .inl (SqL.of hcl), _, rfl, by omega, by omega, fun L hL => ?_⟩
    refine lc_it walk_range (fun i H' => ∃ ds : List Addr, H' L = some (.lst (ds.map V.ref)) ∧ UnAt H' ds (vL ((wantL cs ps).take i)) ∧ Ext H H') ⟨[], upd_same, .nil, Ext.new hL⟩ (fun i H' _ _ => trivial) ?_ ?_
    · rintro i x H1 H1' hi ⟨ds, L1, u1, k1⟩ ⟨rfl, rfl⟩
      have e0 : (0 : Int) + ((i : Nat) : Int) = ((i : Nat) : Int) := by omega
      have hic : i < cs.length := by omega
      have hc := List.getElem?_eq_getElem hic
      generalize cs[i] = c at hc
      have hz := List.getElem?_eq_getElem (l := ps) (i := i) (by omega)
      generalize ps[i] = z at hz
      obtain ⟨p, hp, hpc⟩ := hcs.2 i c hc
      have dl : ds.length = i := by
        have := Paired.length u1
        unfold vL at this
        rw [List.length_map, List.length_take] at this
        omega
      refine ⟨rfl, ?_⟩
      refine ⟨_, rfl, _, rfl, cl, xs, _, _, rfl, rfl, SqL.of (k1 _ _ hcl), (by rw [e0]; exact atI_nat hp), p, _, _, _, rfl, rfl, SqT.of (k1 _ _ hpc), (show atI _ ((0 : Nat) : Int) = _ from atI_nat rfl), ?_⟩
      refine ⟨_, rfl, _, rfl, sl, _, _, _, rfl, rfl, SqL.of (k1 _ _ hsl), (by rw [e0]; exact atI_nat (by rw [List.getElem?_map, hz]; rfl)), by show 2 ≤ sizeLine; decide, fun q hq => ?_⟩
      refine ⟨ds.map V.ref, new_same hq _ _ L1, small1000 (by rw [List.length_map]; omega), ds ++ [q], by rw [upd_same, List.map_append]; rfl, ?_, ext_upd (k1.trans (Ext.new hq)) hL⟩
      rw [take_snoc (wantL_at hc hz)]
      unfold vL
      rw [List.map_append]
      exact ((u1.ext (Ext.new hq)).snoc (c := (V.str c.1, z)) upd_same).put (new_same hq _ _ L1)
    rintro H1 ⟨ds, L1, u1, k1⟩
    rw [Int.toNat_natCast, xl, ← wl, List.take_length] at u1
    refine ⟨L, ds, _, rfl, L1, u1, fun c hc => ?_, by unfold vL; rw [List.length_map]; omega, fun H2 wA k2 hwA w2 => ?_⟩
    · obtain ⟨d, hd, rfl⟩ := List.mem_map.mp hc
      have := hps _ (wantL_mem hd).2
      exact ⟨this.1, by show d.2 ≤ 100; omega⟩
    rw [vL_units] at w2
    have k02 := k1.trans k2
    -- the money
    have b2 := k02 _ _ hb
    refine ⟨b, _, b2, trivial, fun od => ?_⟩
    have nL : ∀ x o, x ≠ b → H2 x = some o → (upd H2 b (.frz od (.dK (dB bs)))) x = some o := fun x o n e => by rw [upd_ne n]; exact e
    have atL : (upd H2 b (.frz od (.dK (dB bs)))) b = some (.frz od (.dK (dB bs))) := upd_same
    have bnL : ∀ x, (upd H2 b (.frz od (.dK (dB bs)))) x = none → H2 x = none ∧ x ≠ b := fun x hx => by
      have n : x ≠ b := fun e => by rw [e, atL] at hx; cases hx
      rw [upd_ne n] at hx
      exact ⟨hx, n⟩
    generalize upd H2 b (.frz od (.dK (dB bs))) = HL at nL atL bnL ⊢
    refine ⟨_, rfl, b, od, rfl, .inl ⟨_, atL, fun M hM => ?_⟩⟩
    refine lc_it walk_keys (fun i H' => ∃ ds : List Addr, H' M = some (.lst (ds.map V.ref)) ∧ UnAt H' ds (vL (bs.take i)) ∧ Ext HL H') ⟨[], upd_same, .nil, Ext.new hM⟩ (fun i H' _ ⟨_, _, _, e⟩ => e _ _ atL) ?_ ?_
    · rintro i z H3 H3' hi ⟨ds, M3, u3, k3⟩ ⟨rfl, ky, vv, hkv, rfl⟩
      obtain ⟨p, hp, rfl, rfl⟩ : ∃ p, bs[i]? = some p ∧ (Sum.inr p.1 : Key) = ky ∧ V.int p.2 = vv := by
        unfold dB at hkv
        rw [List.getElem?_map] at hkv
        obtain ⟨p, hp, e⟩ := Option.map_eq_some_iff.mp hkv
        cases e
        exact ⟨p, hp, rfl, rfl⟩
      have dl : ds.length ≤ i := by
        have := Paired.length u3
        unfold vL at this
        rw [List.length_map, List.length_take] at this
        omega
      have hib := (List.getElem?_eq_some_iff.mp hp).1
      refine ⟨rfl, ?_⟩
      refine ⟨_, rfl, _, rfl, _, rfl, b, _, rfl, get_dB (.inr ⟨od, k3 _ _ atL⟩) hB.1 (List.mem_of_getElem? hp), by show 2 ≤ sizeLine; decide, fun q hq => ?_⟩
      refine ⟨ds.map V.ref, new_same hq _ _ M3, small1000 (by rw [List.length_map]; omega), ds ++ [q], by rw [upd_same, List.map_append]; rfl, ?_, ext_upd (k3.trans (Ext.new hq)) hM⟩
      rw [take_snoc hp]
      unfold vL
      rw [List.map_append]
      exact ((u3.ext (Ext.new hq)).snoc (c := (V.str p.1, p.2)) upd_same).put (new_same hq _ _ M3)
    rintro H3 ⟨ds2, M3, u3, k3⟩
    have dBl : (dB bs).length = bs.length := by unfold dB; rw [List.length_map]
    rw [dBl, List.take_length] at u3
    obtain ⟨hM2, hMb⟩ := bnL M hM
    refine ⟨k3 _ _ atL, ?_⟩
    have k4 : Ext H2 (upd H3 b (.dK (dB bs))) := fun x o e => by
      by_cases n : x = b
      · subst n
        rw [upd_same, ← b2, e]
      · rw [upd_ne n]
        exact k3 _ _ (nL x o n e)
    have M4 : (upd H3 b (.dK (dB bs))) M = some (.lst (ds2.map V.ref)) := by rw [upd_ne hMb]; exact M3
    have u4 : UnAt (upd H3 b (.dK (dB bs))) ds2 (vL bs) := Paired.mapP u3 fun d c e => by
      rw [upd_ne (ne_of e (k3 _ _ atL) (by intro z; cases z))]; exact e
    generalize upd H3 b (.dK (dB bs)) = H4 at k4 M4 u4 ⊢
    refine ⟨M, ds2, _, rfl, M4, u4, fun c hc => ?_, by unfold vL; rw [List.length_map]; omega, fun H5 mA' k5 hmA m5 => ?_⟩
    · obtain ⟨d, hd, rfl⟩ := List.mem_map.mp hc
      have := hb5 _ hd
      exact ⟨this.1, by show d.2 ≤ 100; omega⟩
    rw [vL_units] at m5
    have w5 := k5 _ _ (k4 _ _ w2)
    have k05 := (k02.trans k4).trans k5
    have ml := units_len (l := bs) (B := 5) (fun c hc => (hb5 c hc).2) (by omega)
    -- the owners
    refine ⟨_, rfl, mA', rfl, ⟨_, SqL.of m5⟩, fun O hO => ?_⟩
    refine lc_it walk_list (fun i H' => H' O = some (.lst ((List.replicate i (none : Option Nat)).map oV)) ∧ Ext H5 H') ⟨upd_same, Ext.new hO⟩ (fun i H' _ ⟨_, e⟩ => SqL.of (e _ _ m5)) ?_ ?_
    · rintro i y H6 H6' hi ⟨o6, k6⟩ ⟨rfl, hy⟩
      rw [List.length_map] at hi
      refine ⟨rfl, ?_⟩
      refine ⟨_, o6, small1000 (by rw [List.length_map, List.length_replicate]; omega), ?_, ext_upd k6 hO⟩
      rw [upd_same, List.replicate_succ', List.map_append]
      rfl
    rintro H6 ⟨o6, k6⟩
    rw [List.length_map] at o6
    have k06 := k05.trans k6
    have hOH : H O = none := none_of k05 hO
    have w6 := k6 _ _ w5
    have m6 := k6 _ _ m5
    have wol : wA ≠ O := ne_of_none w5 hO
    have mol : mA' ≠ O := ne_of_none m5 hO
    have wul := units_len (l := wantL cs ps) (B := 5) (fun c hc => (hps _ (wantL_mem hc).2).2) (by omega)
    refine ⟨_, rfl, wA, _, rfl, .inl (SqL.of w6), _, rfl, by rw [List.length_map]; omega, by rw [List.length_map]; omega, ?_⟩
    refine for_it walk_range (fun i σ H' => ∃ (os : List (Option Nat)) (v7 : Option V), σ = [some (.ref l), some (.ref cl), some (.ref sl), some (.ref b), some (.ref wA), some (.ref mA'), some (.ref O), v7, none, none, none] ∧
        H' O = some (.lst (os.map oV)) ∧ os.length = (units bs).length ∧ Mat (edge rs (units (wantL cs ps)) (units bs)) os i ∧ Ext H H' ∧ H' wA = some (.lst ((units (wantL cs ps)).map V.str)) ∧ H' mA' = some (.lst ((units bs).map V.str)))
      ⟨_, none, rfl, o6, by rw [List.length_replicate], ⟨fun m w h => ?_, fun m m' w h => ?_, fun w h => by omega⟩, k06, w6, m6⟩ (fun i σ H' _ _ => trivial) ?_ ?_
    · exact absurd (List.eq_of_mem_replicate (List.mem_of_getElem? h)) (by intro z; cases z)
    · exact absurd (List.eq_of_mem_replicate (List.mem_of_getElem? h)) (by intro z; cases z)
    · rintro i y σ H7 H7' hi ⟨os, v7, rfl, o7, ol7, M7, k7, w7, m7⟩ ⟨rfl, rfl⟩
      rw [List.length_map, Int.toNat_natCast] at hi
      have e0 : (0 : Int) + ((i : Nat) : Int) = ((i : Nat) : Int) := by omega
      refine ⟨_, rfl, _, rfl, _, rfl, _, rfl, _, rfl, l, wA, mA', O, i, rx, rs, units (wantL cs ps), units bs, os, congrArg (fun (z : Int) => [V.ref l, V.ref wA, V.ref mA', V.ref O, V.int z]) e0, k7 _ _ hl, hR.ext k7, hG, w7, m7, fun n hn => ?_, by omega, hi, o7, ol7, M7, fun H8 os' M8 l8 o8 k8 => ?_, fun H8 B hB8 cl8 k8 => ?_⟩
      · obtain ⟨c, hc, rfl⟩ := units_mem hn
        exact hB.2 c hc
      · refine ⟨_, rfl, iteF ?_⟩
        exact ⟨os', _, rfl, o8, by rw [l8]; exact ol7, M8, (fun x o e => k8 _ _ (ne_of_none e hOH) (k7 _ _ e)), k8 _ _ wol w7, k8 _ _ mol m7⟩
      · refine ⟨_, rfl, iteT ?_⟩
        have hne : (overF rs bs cs ps).isNone = false := by
          cases ho : overF rs bs cs ps with
          | some n => rfl
          | none =>
            exfalso
            unfold overF at ho
            rw [List.find?_eq_none] at ho
            have pk := plan_ok hG hB (fun p hp => (hb5 p hp).1) hcn hpl (fun z hz => (hps z hz).1) fun n hn => by
              have := ho n hn
              rw [decide_eq_true_iff] at this
              omega
            exact stuck_over hG hpl (fun z hz => (hps z hz).1) hB (fun p hp => (hb5 p hp).1) pk hB8 M7 hi ol7 fun w hw m hm e => cl8 w hw m hm e
        have := k H8 (k7.trans k8)
        rw [hne] at this
        exact this
    · rintro σ H7 ⟨os, v7, rfl, o7, ol7, M7, k7, w7, m7⟩
      rw [List.length_map, Int.toNat_natCast] at M7
      have hne : (overF rs bs cs ps).isNone = true := by
        rw [over_none hG hcn (fun z hz => (hps z hz).1) hB (fun p hp => (hb5 p hp).1) M7 ol7]
        rfl
      have := k H7 k7
      rw [hne] at this
      exact this
end
end Lw

set_option Elab.async false
set_option linter.all false
set_option maxRecDepth 100000
set_option maxHeartbeats 4000000
namespace Lw
open L2 hiding Ext
open PySem PySem.Spec PyProof.Rows Gn Gr Gk Go Gt Gf Gu
theorem units_ge {α : Type} : ∀ {l : List (α × Int)}, (∀ c ∈ l, 1 ≤ c.2) → l.length ≤ (units l).length
  | [], _ => Nat.le_refl _
  | c :: r, h => by
    have := units_ge (l := r) fun x hx => h x (List.mem_cons_of_mem _ hx)
    have := h c (List.mem_cons_self ..)
    show r.length + 1 ≤ (List.replicate _ _ ++ units r).length
    rw [List.length_append, List.length_replicate]
    omega
theorem units_le {α : Type} : ∀ {l : List (α × Int)} {c : α × Int}, c ∈ l → c.2 ≤ (units l).length
  | [], _, h => by cases h
  | c :: r, d, h => by
    show _ ≤ (((List.replicate _ _ ++ units r).length : Nat) : Int)
    rw [List.length_append, List.length_replicate]
    rcases List.mem_cons.mp h with rfl | h
    · omega
    · have := units_le (l := r) h
      omega
theorem units_len2 {α β : Type} (l : List (α × Int)) (f : α → β) : (units (l.map fun p => (f p.1, p.2))).length = (units l).length := by
  rw [← units_map, List.length_map]
theorem asc_uniq {a b : List Int} (p : a.Perm b) (ha : a.Pairwise (· ≤ ·)) (hb : b.Pairwise (· ≤ ·)) : a = b :=
  List.Perm.eq_of_pairwise (fun _ _ _ _ h k => Int.le_antisymm h k) ha hb p
section
variable {P : Program} {w : World} {K : PySem.W.Frag} {mg : Str → Option Value} {base : Heap} {C fI pN fN fA : Addr} {mc : Value} {fdN fdA : FuncData}
/-! ### _law_is_matching -/
abbrev nMatching : List Str := ["_law_rows", "_law_claims", "_law_spent", "_law_balances", "_law_plan", "_law_paid", "_law_taken", "_law_due", "_law_part", "_law_rank", "_law_name", "_law_amount", "_law_parent"]
def spMatching : Sp := fun vs H Q _ => ∃ (l cl sl b p : Addr) (rx xs : List V) (rs : List FRow) (bs cs : List (Str × Int)) (ps : List Int) (P : List T3), vs = [.ref l, .ref cl, .ref sl, .ref b, .ref p] ∧ H l = some (.lst rx) ∧ RowsAt H rx rs ∧ Good rs ∧ H cl = some (.lst xs) ∧ CsAt H xs cs ∧ cs.length ≤ 6 ∧ H sl = some (.lst (ps.map V.int)) ∧ ps.length = cs.length ∧ (∀ z ∈ ps, 0 ≤ z ∧ z ≤ 5) ∧ H b = some (.dK (dB bs)) ∧ BsN rs bs ∧ PlAt H p P ∧ PlanOk rs bs cs ps P ∧
  ∀ H', Ext H H' → Q (.bl true) H'
theorem scMatching : FnScope nMatching ["_law_rows", "_law_claims", "_law_spent", "_law_balances", "_law_plan"] (defScope sLIsMatching) := ⟨rfl, rfl, rfl, by decide +kernel, rfl, by decide +kernel, by decide +kernel⟩
theorem ok_matching {f fU fT : Addr} {fd fdU fdT : FuncData} (F : Fun K "_law_is_matching" "_law_is_matching" sLIsMatching f fd) (T : Names mg) (msort : mg "sorted" = none)
    (GN : FnOk P w K mg base CX0 1 fT fdT ["_law_pairs"] spUnits) (bN : Binds K fdT ["_law_pairs"] []) (kN : PySem.W.keepIn K (.ref fT) = true) (mN : mg "_law_units" = some (.ref fT))
    (GU : FnOk P w K mg base CX0 1 fU fdU ["_law_rows", "_law_name"] spUp) (bU : Binds K fdU ["_law_rows", "_law_name"] []) (kU : PySem.W.keepIn K (.ref fU) = true) (mU : mg "_law_up" = some (.ref fU)) :
    FnOk P w K mg base CX0 2 f fd ["_law_rows", "_law_claims", "_law_spent", "_law_balances", "_law_plan"] spMatching := by
  refine F.ok scMatching (fun vs H Q E h => ?_) (fun cdv A outer s H vs Q E hr h => ?_)
  · obtain ⟨l, cl, sl, b, p, rx, xs, rs, bs, cs, ps, P, rfl, _⟩ := h
    rfl
  · obtain ⟨l, cl, sl, b, p, rx, xs, rs, bs, cs, ps, P, rfl, hl, hR, hG, hcl, hcs, hc6, hsl, hpl, hps, hb, hB, ⟨qs, hp, hq, rfl⟩, ok, k⟩ := h
    have hu := hu_of hr
    have nd := scMatching.nd
    have hu3 : (A.deeper (envOfC "_law_is_matching" (defScope sLIsMatching) s.heap.objs.size f cdv)).units + 3 < cLine := by have := hr.units; omega
    have hr1 : Room 1 (A.deeper (envOfC "_law_is_matching" (defScope sLIsMatching) s.heap.objs.size f cdv)) := hr
    refine ⟨_, pss_cons (ps_if (pt_not (pt_val (pe_callB call_isi rfl T.isi (by decide +kernel) (pa_cons (pv 4) (pa_cons (pe_bltn (v := .ty "tuple") rfl T.tuple (by decide +kernel) rfl) pa_nil))))) (pss_one (ps_ret pe_bl)) pss_nil)
(pss_cons (ps_if (pt_cmpR (Gj.op_neE hr.units) (pe_lc (own := [("_law_part", 8)]) (g := gName 8) rfl nd (pi_tup (pv 4)) (blkOk_by (N := nMatching) (sc := defScope sLIsMatching) (by decide +kernel))
(fun _ _ _ _ _ => pg_name (i := 8) nd rfl (.inl rfl)) (fun _ _ _ _ _ => pts_one (pt_cmpR (r := rIn K true) op_notIn_seq (pe_ix (r := rIxT K) ix_tup (pe_ix (r := rIxL K) ix_list (pv 1) (pe_ix (r := rIxT K) ix_tup (pv 8) pe_int (fun _ _ => rfl)) (fun _ _ => rfl)) pe_int (fun _ _ => rfl)) (pe_call GU hr1 rfl mU kU bU .nil pass0 (pa_cons (pv 0) (pa_cons (pe_ix (r := rIxT K) ix_tup (pv 8) pe_int (fun _ _ => rfl)) pa_nil))) rfl)) (fun _ _ _ _ _ => pv 8)) (pe_lst pa_nil) (nomark _)) (pss_one (ps_ret pe_bl)) pss_nil)
(pss_cons (ps_set (i := 5) nd rfl (.inl rfl) (pe_callB cr_sorted rfl msort (by decide +kernel) (pa_cons (pe_call GN hr1 rfl mN kN bN .nil pass0 (pa_cons (pe_lc (own := [("_law_rank", 9), ("_law_name", 10), ("_law_amount", 11)]) (g := gTup K 3 (gCons (gName 9) (gCons (gName 10) (gCons (gName 11) gNil)))) (tt := tYes) rfl nd (pi_tup (pv 4)) (blkOk_by (N := nMatching) (sc := defScope sLIsMatching) (by decide +kernel))
(fun _ _ _ _ _ => (by exact (pg_tup rfl (pgs_cons (pg_name (i := 9) nd rfl (.inl rfl)) (pgs_cons (pg_name (i := 10) nd rfl (.inl rfl)) (pgs_cons (pg_name (i := 11) nd rfl (.inl rfl)) pgs_nil)))))) (fun _ _ _ _ _ => pts_nil) (fun _ _ _ _ _ => pe_tup (pa_cons (pv 9) (pa_cons (pv 11) pa_nil)))) pa_nil)) pa_nil)))
(pss_cons (ps_set (i := 6) nd rfl (.inr rfl) (pe_call GN hr1 rfl mN kN bN .nil pass0 (pa_cons (pe_lc (own := [("_law_rank", 9), ("_law_name", 10), ("_law_amount", 11)]) (g := gTup K 3 (gCons (gName 9) (gCons (gName 10) (gCons (gName 11) gNil)))) (tt := tYes) rfl nd (pi_tup (pv 4)) (blkOk_by (N := nMatching) (sc := defScope sLIsMatching) (by decide +kernel))
(fun _ _ _ _ _ => (by exact (pg_tup rfl (pgs_cons (pg_name (i := 9) nd rfl (.inl rfl)) (pgs_cons (pg_name (i := 10) nd rfl (.inl rfl)) (pgs_cons (pg_name (i := 11) nd rfl (.inl rfl)) pgs_nil)))))) (fun _ _ _ _ _ => pts_nil) (fun _ _ _ _ _ => pe_tup (pa_cons (pv 10) (pa_cons (pv 11) pa_nil)))) pa_nil)))
(pss_cons (ps_set (i := 7) nd rfl (.inl rfl) (pe_call GN hr1 rfl mN kN bN .nil pass0 (pa_cons (pe_lc (own := [("_law_rank", 9)]) (g := gName 9) (tt := tYes) rfl nd (pi_range1 rfl T.range (pa_cons (pe_callB call_len_seq rfl T.len PySem.boot_len (pa_cons (pv 2) pa_nil)) pa_nil)) (blkOk_by (N := nMatching) (sc := defScope sLIsMatching) (by decide +kernel))
(fun _ _ _ _ _ => pg_name (i := 9) nd rfl (.inl rfl)) (fun _ _ _ _ _ => pts_nil) (fun _ _ _ _ _ => pe_tup (pa_cons (pv 9) (pa_cons (pe_ix (r := rIxL K) ix_list (pv 2) (pv 9) (fun _ _ => rfl)) pa_nil)))) pa_nil)))
(pss_cons (ps_if (pt_cmpR (op_neD hr.units) (pv 5) (pv 7) (nomark _)) (pss_one (ps_ret pe_bl)) pss_nil)
(pss_one (ps_ret (pe_cmpR (Gj.op_eqE hr.units) (pe_lc (own := [("_law_name", 10), ("_law_parent", 12)]) (g := gTup K 2 (gCons (gName 10) (gCons (gName 12) gNil))) rfl nd (pi_list (pv 0)) (blkOk_by (N := nMatching) (sc := defScope sLIsMatching) (by decide +kernel))
(fun _ _ _ _ _ => (by exact (pg_tup rfl (pgs_cons (pg_name (i := 10) nd rfl (.inl rfl)) (pgs_cons (pg_name (i := 12) nd rfl (.inl rfl)) pgs_nil))))) (fun _ _ _ _ _ => pts_one (pt_cmpR op_gt (wE (t' := Gct.eCnt K 6 10) (pe_bm PySem.F.plainAttrs_list PySem.F.slot_list_count PySem.F.type_list_count (Gct.mt_countS (by exact hu3)) (pv 6) (pa_cons (pv 10) pa_nil)) Gct.eCnt_ok) (pe_dget2 hu (pv 3) (pv 10) pe_int ⟨rfl, rfl, rfl, rfl⟩) (nomark _))) (fun _ _ _ _ _ => pv 10)) (pe_lst pa_nil) (nomark _))))))))), ?_⟩
    generalize hPL : qs.map (fun q : R3 => q.2) = PL at ok
    have hPLat : ∀ (i : Nat) (q : R3), qs[i]? = some q → PL[i]? = some q.2 := fun i q h => by rw [← hPL, List.getElem?_map, h]; rfl
    have qpl : qs.length = PL.length := by rw [← hPL, List.length_map]
    have perm := plan_due hpl (fun z hz => (hps z hz).1) ok
    have ul6 : (units (PL.map fun x => (x.1, x.2.2))).length ≤ 30 := by
      rw [perm.length_eq]
      have := units_len (l := dueL ps) (B := 5) (fun c hc => by
        obtain ⟨r, hr, rfl⟩ := List.mem_map.mp hc
        have hrl := List.mem_range.mp hr
        show (ps[r]?).getD 0 ≤ 5
        rw [List.getElem?_eq_getElem hrl]
        exact (hps _ (List.getElem_mem hrl)).2) (by omega)
      have dl : (dueL ps).length = ps.length := by unfold dueL; rw [List.length_map, List.length_range]
      rw [dl] at this
      omega
    have p1 : ∀ x ∈ PL, 1 ≤ x.2.2 := fun x hx => (ok.parts x hx).1
    have p30 : ∀ x ∈ PL, x.2.2 ≤ 30 := fun x hx => by
      have := units_le (l := PL.map fun x => (x.1, x.2.2)) (c := (x.1, x.2.2)) (List.mem_map.mpr ⟨x, hx, rfl⟩)
      have this : x.2.2 ≤ _ := this
      omega
    have pl30 : PL.length ≤ 30 := by
      have := units_ge (l := PL.map fun x => (x.1, x.2.2)) fun c hc => by
        obtain ⟨x, hx, rfl⟩ := List.mem_map.mp hc
        exact p1 x hx
      rw [List.length_map] at this
      omega
    refine ⟨_, rfl, _, _, _, _, true, rfl, .ty _, (TyT.tup hp).x, kit_ty (by decide +kernel), true, rfl, iteF ?_⟩
    refine ⟨_, rfl, p, rfl, ⟨_, SqT.of hp⟩, fun L hL => ?_⟩
    refine lc_it walk_tup (fun i H' => H' L = some (.lst []) ∧ Ext H H') ⟨upd_same, Ext.new hL⟩ (fun i H' _ ⟨_, e⟩ => SqT.of (e _ _ hp)) ?_ ?_
    · rintro i y H1 H1' hi ⟨L1, k1⟩ ⟨rfl, hy⟩
      rw [List.getElem?_map] at hy
      obtain ⟨q, hq1, rfl⟩ := Option.map_eq_some_iff.mp hy
      have hqq := k1 _ _ (hq q (List.mem_of_getElem? hq1))
      obtain ⟨x1, x2, c, xc, xa⟩ := ok.parts q.2 (List.mem_of_getElem? (hPLat i q hq1))
      obtain ⟨pc, hpc1, hpc2⟩ := hcs.2 _ _ xc
      refine ⟨rfl, ?_⟩
      refine ⟨_, rfl, _, rfl, q.1, _, _, _, rfl, rfl, SqT.of hqq, (show atI _ ((0 : Nat) : Int) = _ from atI_nat rfl), cl, xs, _, _, rfl, rfl, SqL.of (k1 _ _ hcl), atI_nat hpc1, pc, _, _, _, rfl, rfl, SqT.of (k1 _ _ hpc2), (show atI _ ((0 : Nat) : Int) = _ from atI_nat rfl), ?_⟩
      refine ⟨_, rfl, _, rfl, q.1, _, _, _, rfl, rfl, SqT.of hqq, (show atI _ ((1 : Nat) : Int) = _ from atI_nat rfl), l, rx, rs, q.2.2.1, rfl, k1 _ _ hl, hR.ext k1, hG, x2, fun H2 v k2 hv0 hv => ?_⟩
      refine ⟨v, _, rfl, .inl (SqL.of hv), rfl, strs_flat _, _, rfl, ?_⟩
      show if (!inV (V.str c.1) ((anc rs q.2.2.1).map V.str)) = true then _ else _
      rw [inV_strs, decide_eq_true xa]
      exact iteF ⟨k2 _ _ L1, k1.trans k2⟩
    rintro H1 ⟨L1, k1⟩
    refine ⟨Nat.zero_le _, fun e he => ?_⟩
    refine ⟨L, e, [], rfl, rfl, SqL.of (new_same he _ _ L1), SqL.of upd_same, _, rfl, iteF ?_⟩
    have k2 := k1.trans (Ext.new (o := .lst []) he)
    generalize upd H1 e (.lst []) = H2 at k2 ⊢
    refine ⟨_, rfl, p, rfl, ⟨_, SqT.of (k2 _ _ hp)⟩, fun L1 hL1 => ?_⟩
    refine lc_it walk_tup (fun i H' => ∃ ds : List Addr, H' L1 = some (.lst (ds.map V.ref)) ∧ UnAt H' ds ((PL.take i).map fun x => (V.int (x.1 : Nat), x.2.2)) ∧ Ext H2 H') ⟨[], upd_same, .nil, Ext.new hL1⟩ (fun i H' _ ⟨_, _, _, e⟩ => SqT.of (e _ _ (k2 _ _ hp))) ?_ ?_
    · rintro i y G1 G1' hi ⟨ds, d1, u1, g1⟩ ⟨rfl, hy⟩
      rw [List.getElem?_map] at hy
      obtain ⟨q, hq1, rfl⟩ := Option.map_eq_some_iff.mp hy
      have hqq := g1 _ _ (k2 _ _ (hq q (List.mem_of_getElem? hq1)))
      have hx := hPLat i q hq1
      have dl : ds.length ≤ i := by
        have := Paired.length u1
        rw [List.length_map, List.length_take] at this
        omega
      have hil := (List.getElem?_eq_some_iff.mp hx).1
      refine ⟨q.1, _, rfl, SqT.of hqq, rfl, _, _, rfl, _, _, rfl, _, _, rfl, rfl, rfl, yes_of ?_⟩
      refine ⟨_, rfl, _, rfl, by show 2 ≤ sizeLine; decide, fun d hd => ?_⟩
      refine ⟨ds.map V.ref, new_same hd _ _ d1, small1000 (by rw [List.length_map]; omega), ds ++ [d], by rw [upd_same, List.map_append]; rfl, ?_, ext_upd (g1.trans (Ext.new hd)) hL1⟩
      rw [take_snoc hx, List.map_append]
      exact ((u1.ext (Ext.new hd)).snoc (c := (V.int (q.2.1 : Nat), q.2.2.2)) upd_same).put (new_same hd _ _ d1)
    rintro G1 ⟨ds1, d1, u1, g1⟩
    rw [List.length_map, qpl, List.take_length] at u1
    refine ⟨L1, ds1, _, rfl, d1, u1, fun c hc => ?_, by rw [List.length_map]; omega, fun H3 ra k3 hra era => ?_⟩
    · obtain ⟨x, hx, rfl⟩ := List.mem_map.mp hc
      have a1 := p1 x hx
      have a2 := p30 x hx
      exact ⟨by show 0 ≤ x.2.2; omega, by show x.2.2 ≤ 100; omega⟩
    have era' : H3 ra = some (.lst (((units (PL.map fun x => (x.1, x.2.2))).map fun (r : Nat) => (r : Int)).map V.int)) := by
      rw [era, List.map_map, units_map, List.map_map]
      rfl
    have k3' := (k2.trans g1).trans k3
    refine ⟨ra, _, rfl, SqL.of era', by rw [List.length_map]; omega, fun ns' sa pm asc hsa => ?_⟩
    have ns : ns' = (units (dueL ps)).map fun (r : Nat) => (r : Int) := asc_uniq (pm.trans (perm.map _)) asc (by
      rw [List.pairwise_map]
      exact (due_asc ps).imp fun h => by omega)
    subst ns
    have k4 : Ext H (upd H3 sa (.lst (((units (dueL ps)).map fun (r : Nat) => (r : Int)).map V.int))) := k3'.trans (Ext.new hsa)
    have sa4 : (upd H3 sa (.lst (((units (dueL ps)).map fun (r : Nat) => (r : Int)).map V.int))) sa = some (.lst (((units (dueL ps)).map fun (r : Nat) => (r : Int)).map V.int)) := upd_same
    have hsH : H sa = none := none_of k3' hsa
    generalize upd H3 sa (.lst (((units (dueL ps)).map fun (r : Nat) => (r : Int)).map V.int)) = H4 at k4 sa4 ⊢
    refine ⟨_, rfl, p, rfl, ⟨_, SqT.of (k4 _ _ hp)⟩, fun L2 hL2 => ?_⟩
    refine lc_it walk_tup (fun i H' => ∃ ds : List Addr, H' L2 = some (.lst (ds.map V.ref)) ∧ UnAt H' ds ((PL.take i).map fun x => (V.str x.2.1, x.2.2)) ∧ Ext H4 H') ⟨[], upd_same, .nil, Ext.new hL2⟩ (fun i H' _ ⟨_, _, _, e⟩ => SqT.of (e _ _ (k4 _ _ hp))) ?_ ?_
    · rintro i y G1 G1' hi ⟨ds, d1, u1, g1⟩ ⟨rfl, hy⟩
      rw [List.getElem?_map] at hy
      obtain ⟨q, hq1, rfl⟩ := Option.map_eq_some_iff.mp hy
      have hqq := g1 _ _ (k4 _ _ (hq q (List.mem_of_getElem? hq1)))
      have hx := hPLat i q hq1
      have dl : ds.length ≤ i := by
        have := Paired.length u1
        rw [List.length_map, List.length_take] at this
        omega
      have hil := (List.getElem?_eq_some_iff.mp hx).1
      refine ⟨q.1, _, rfl, SqT.of hqq, rfl, _, _, rfl, _, _, rfl, _, _, rfl, rfl, rfl, yes_of ?_⟩
      refine ⟨_, rfl, _, rfl, by show 2 ≤ sizeLine; decide, fun d hd => ?_⟩
      refine ⟨ds.map V.ref, new_same hd _ _ d1, small1000 (by rw [List.length_map]; omega), ds ++ [d], by rw [upd_same, List.map_append]; rfl, ?_, ext_upd (g1.trans (Ext.new hd)) hL2⟩
      rw [take_snoc hx, List.map_append]
      exact ((u1.ext (Ext.new hd)).snoc (c := (V.str q.2.2.1, q.2.2.2)) upd_same).put (new_same hd _ _ d1)
    rintro G2 ⟨ds2, d2, u2, g2⟩
    rw [List.length_map, qpl, List.take_length] at u2
    refine ⟨L2, ds2, _, rfl, d2, u2, fun c hc => ?_, by rw [List.length_map]; omega, fun H5 rb k5 hrb erb => ?_⟩
    · obtain ⟨x, hx, rfl⟩ := List.mem_map.mp hc
      have a1 := p1 x hx
      have a2 := p30 x hx
      exact ⟨by show 0 ≤ x.2.2; omega, by show x.2.2 ≤ 100; omega⟩
    have k5' := (k4.trans g2).trans k5
    have sa5 := k5 _ _ (g2 _ _ sa4)
    have erb' : H5 rb = some (.lst ((units (PL.map fun x => (x.2.1, x.2.2))).map V.str)) := by
      rw [erb, units_map, List.map_map]
      rfl
    clear erb u2 d2 g2 k5 era' era u1 d1 g1 k3
    -- what is due
    refine ⟨_, rfl, sl, _, rfl, .inl (SqL.of (k5' _ _ hsl)), _, rfl, by rw [List.length_map]; omega, by rw [List.length_map]; omega, fun L3 hL3 => ?_⟩
    refine lc_it walk_range (fun i H' => ∃ ds : List Addr, H' L3 = some (.lst (ds.map V.ref)) ∧ UnAt H' ds (((dueL ps).take i).map fun c => (V.int (c.1 : Nat), c.2)) ∧ Ext H5 H') ⟨[], upd_same, .nil, Ext.new hL3⟩ (fun i H' _ _ => trivial) ?_ ?_
    · rintro i y G1 G1' hi ⟨ds, d1, u1, g1⟩ ⟨rfl, rfl⟩
      rw [List.length_map, Int.toNat_natCast] at hi
      have e0 : (0 : Int) + ((i : Nat) : Int) = ((i : Nat) : Int) := by omega
      have hz := List.getElem?_eq_getElem hi
      generalize ps[i] = z at hz
      have hx : (dueL ps)[i]? = some (i, z) := by
        unfold dueL
        rw [List.getElem?_map, List.getElem?_range hi]
        show some (i, (ps[i]?).getD 0) = _
        rw [hz]
        rfl
      have dl : ds.length ≤ i := by
        have := Paired.length u1
        rw [List.length_map, List.length_take] at this
        omega
      refine ⟨rfl, ?_⟩
      refine ⟨_, rfl, _, rfl, _, rfl, sl, _, _, _, rfl, rfl, SqL.of (g1 _ _ (k5' _ _ hsl)), (by rw [e0]; exact atI_nat (by rw [List.getElem?_map, hz]; rfl)), by show 2 ≤ sizeLine; decide, fun d hd => ?_⟩
      refine ⟨ds.map V.ref, new_same hd _ _ d1, small1000 (by rw [List.length_map]; omega), ds ++ [d], by rw [upd_same, List.map_append]; rfl, ?_, ext_upd (g1.trans (Ext.new hd)) hL3⟩
      rw [take_snoc hx, List.map_append]
      refine ((u1.ext (Ext.new hd)).snoc (c := (V.int (i : Nat), z)) ?_).put (new_same hd _ _ d1)
      rw [upd_same]
      show some (HO.tup [V.int (0 + ((i : Nat) : Int)), V.int z]) = _
      rw [e0]
    rintro G3 ⟨ds3, d3, u3, g3⟩
    have dll : (dueL ps).length = ps.length := by unfold dueL; rw [List.length_map, List.length_range]
    rw [List.length_map, Int.toNat_natCast, ← dll, List.take_length] at u3
    refine ⟨L3, ds3, _, rfl, d3, u3, fun c hc => ?_, by rw [List.length_map]; omega, fun H6 rc k6 hrc erc => ?_⟩
    · obtain ⟨x, hx, rfl⟩ := List.mem_map.mp hc
      obtain ⟨r, hr, rfl⟩ := List.mem_map.mp hx
      have hrl := List.mem_range.mp hr
      show 0 ≤ (ps[r]?).getD 0 ∧ (ps[r]?).getD 0 ≤ 100
      rw [List.getElem?_eq_getElem hrl]
      have := hps _ (List.getElem_mem hrl)
      exact ⟨this.1, by show ps[r] ≤ 100; omega⟩
    have erc' : H6 rc = some (.lst (((units (dueL ps)).map fun (r : Nat) => (r : Int)).map V.int)) := by
      rw [erc, List.map_map, units_map]
      rfl
    have g36 := g3.trans k6
    have sa6 := g36 _ _ sa5
    have erb6 := g36 _ _ erb'
    have k6' := k5'.trans g36
    refine ⟨_, rfl, _, rfl, _, _, dp_intl sa6, dp_intl erc', shaped_ints _, shaped_ints _, _, rfl, ?_⟩
    rw [eqv_same (shaped_ints _)]
    refine iteF ?_
    clear u3 d3 g3 k6 erc sa6 sa5 sa4 erb' hL1 hL2 hL3 g36 k5' k4
    refine ⟨_, rfl, l, rfl, ⟨_, SqL.of (k6' _ _ hl)⟩, fun N hN => ?_⟩
    refine lc_it walk_list (fun i H' => H' N = some (.lst []) ∧ Ext H6 H') ⟨upd_same, Ext.new hN⟩ (fun i H' _ ⟨_, e⟩ => SqL.of (e _ _ (k6' _ _ hl))) ?_ ?_
    · rintro i y G1 G1' hi ⟨n1, g1⟩ ⟨rfl, hy⟩
      obtain ⟨r, p', hr1', rfl, hp'⟩ := hR.get hy
      have b6 := g1 _ _ (k6' _ _ hb)
      have nc := name_count r.1 (P := PL) fun x hx => by have := p1 x hx; omega
      have hh := ok.held r.1
      refine ⟨p', _, rfl, SqT.of (g1 _ _ (k6' _ _ hp')), rfl, _, _, rfl, _, _, rfl, rfl, rfl, ?_⟩
      rcases dB_getB (n := r.1) hB.1 with ⟨q1, _⟩ | ⟨q1, q2⟩
      · refine ⟨rb, _, r.1, rfl, rfl, SqL.of (g1 _ _ erb6), _, rfl, b, rfl, .inl ⟨_, .inl b6⟩, _, rfl, some (.int (getB bs r.1)), .inl ⟨_, Sum.inr r.1, .inl b6, rfl, q1.symm⟩, _, _, rfl, rfl, _, rfl, ?_⟩
        exact iteN (by omega) ⟨n1, g1⟩
      · refine ⟨rb, _, r.1, rfl, rfl, SqL.of (g1 _ _ erb6), _, rfl, b, rfl, .inl ⟨_, .inl b6⟩, _, rfl, none, .inl ⟨_, Sum.inr r.1, .inl b6, rfl, q1.symm⟩, _, _, rfl, rfl, _, rfl, ?_⟩
        exact iteN (by omega) ⟨n1, g1⟩
    rintro G1 ⟨n1, g1⟩
    refine ⟨Nat.zero_le _, fun z hz => ?_⟩
    refine ⟨N, z, [], rfl, rfl, SqL.of (new_same hz _ _ n1), SqL.of upd_same, ?_⟩
    exact k _ ((k6'.trans g1).trans (Ext.new hz))
end
end Lw

set_option Elab.async false
set_option linter.all false
set_option maxRecDepth 100000
set_option maxHeartbeats 8000000
namespace Lw
open L2 hiding Ext
open PySem PySem.Spec PyProof.Rows Gn Gr Gk Go Gt Gf Gu Ge
theorem merge_dB {bs : List (Str × Int)} (h : (bs.map (·.1)).Nodup) : mergeK [] (dB bs) = dB bs := merge_self (by
  unfold dB
  rw [List.map_map]
  exact nodup_inr (fun p : Str × Int => p.1) h)
theorem RowsAt.put {H : Hp} {a : Addr} {o o' : HO} {xs : List V} {rs : List FRow} (h : RowsAt H xs rs) (ha : H a = some o) (n : ∀ z, o ≠ .tup z) : RowsAt (upd H a o') xs rs := by
  refine ⟨h.1, fun i r hr => ?_⟩
  obtain ⟨p, h1, h2⟩ := h.2 i r hr
  exact ⟨p, h1, by rw [upd_ne (ne_of h2 ha fun e => n _ e.symm)]; exact h2⟩
theorem CsAt.put {H : Hp} {a : Addr} {o o' : HO} {xs : List V} {cs : List (Str × Int)} (h : CsAt H xs cs) (ha : H a = some o) (n : ∀ z, o ≠ .tup z) : CsAt (upd H a o') xs cs := by
  refine ⟨h.1, fun i r hr => ?_⟩
  obtain ⟨p, h1, h2⟩ := h.2 i r hr
  exact ⟨p, h1, by rw [upd_ne (ne_of h2 ha fun e => n _ e.symm)]; exact h2⟩
theorem kp_upd {d g a : Addr} {H H' : Hp} {o : HO} (k : Kp d g H H') (h : H a = none) : Kp d g H (upd H' a o) := fun x o' n1 n2 e => by
  rw [upd_ne (ne_of_none e h)]; exact k _ _ n1 n2 e
theorem cs_refs {H : Hp} : ∀ {cs : List (Str × Int)} {xs : List V}, CsAt H xs cs → ∃ ds : List Addr, xs = ds.map V.ref ∧ Paired (fun (p : Addr) (kv : Key × V) => H p = some (.tup [kV kv.1, kv.2])) ds (dB cs)
  | [], xs, h => by
    have := h.1
    cases xs with
    | nil => exact ⟨[], rfl, .nil⟩
    | cons x r => simp at this
  | c :: r, xs, h => by
    have l := h.1
    cases xs with
    | nil => simp at l
    | cons x ys =>
      obtain ⟨p, h1, h2⟩ := h.2 0 c rfl
      cases h1
      obtain ⟨ds, rfl, hp⟩ := cs_refs (cs := r) (xs := ys) ⟨by simpa using l, fun i c hc => by simpa using h.2 (i + 1) c (by simpa using hc)⟩
      exact ⟨p :: ds, rfl, .cons h2 hp⟩
def inL (rs : List FRow) (n : Str) (L : List (Str × Int)) : List Int := (L.filter fun c => decide (n ∈ anc rs c.1)).map (·.2)
theorem inL_sum (rs : List FRow) (n : Str) : ∀ L : List (Str × Int), (inL rs n L).sum = sumI (fun c => if decide (n ∈ anc rs c.1) = true then c.2 else 0) L
  | [] => rfl
  | c :: r => by
    have ih := inL_sum rs n r
    unfold inL at ih ⊢
    show _ = (if decide (n ∈ anc rs c.1) = true then c.2 else 0) + sumI _ r
    rw [← ih]
    by_cases e : n ∈ anc rs c.1
    · rw [List.filter_cons_of_pos (by simpa using e), if_pos (by simpa using e), List.map_cons, List.sum_cons]
    · rw [List.filter_cons_of_neg (by simpa using e), if_neg (by simpa using e)]
      omega
theorem inL_pos {rs : List FRow} {n : Str} {L : List (Str × Int)} {i : Nat} {c : Str × Int} (h : L[i]? = some c) (e : n ∈ anc rs c.1) : inL rs n (L.take (i + 1)) = inL rs n (L.take i) ++ [c.2] := by
  unfold inL
  rw [take_snoc h, List.filter_append, List.map_append, List.filter_cons_of_pos (by simpa using e)]
  rfl
theorem inL_neg {rs : List FRow} {n : Str} {L : List (Str × Int)} {i : Nat} {c : Str × Int} (h : L[i]? = some c) (e : ¬ n ∈ anc rs c.1) : inL rs n (L.take (i + 1)) = inL rs n (L.take i) := by
  unfold inL
  rw [take_snoc h, List.filter_append, List.map_append, List.filter_cons_of_neg (by simpa using e)]
  exact List.append_nil _
theorem inL_len (rs : List FRow) (n : Str) (L : List (Str × Int)) : (inL rs n L).length ≤ L.length := by
  unfold inL
  rw [List.length_map]
  exact List.length_filter_le ..
abbrev nLaw : List Str := ["_law_script", "_law_state", "_law_turn", "_law_rows", "_law_forest_here", "_law_names", "_law_claims", "_law_spent", "_law_balances", "_law_told", "_law_wants", "_law_row", "_law_k", "_law_pair", "_law_name", "_law_rank"]
section
variable {P : Program} {w : World} {K : PySem.W.Frag} {mg : Str → Option Value} {base : Heap} {C fI pN fN fA : Addr} {mc : Value} {fdN fdA : FuncData}
theorem scLaw : FnScope nLaw ["_law_script"] (defScope sLaw) := ⟨rfl, rfl, rfl, by decide +kernel, rfl, by decide +kernel, by decide +kernel⟩
theorem ok_law {fB fT fP fF fU fMd fMg fFd f : Addr} {fdB fdT fdP fdI fdF fdU fdMd fdMg fdFd : FuncData} {ns : List Int} {a : Addr} {A : Around} {s : Shared} {H : Hp} {cdv : Value} (hl : ns.length ≤ 63) (B : Bed K mg base A) (hr : Room 7 (A.deeper (envOfC "law" (defScope sLaw) s.heap.objs.size f cdv))) (hS : SqL K H a (ns.map V.int))
    (R : Draw P w K mg base ns fT fP fdT fdP) (T : Names mg) (hsum : mg "sum" = none) (Z : FC K mg C fI mc)
    (GI : FnOk P w K mg base CX0 4 fI fdI ["self", "rows"] (spInit C)) (bI : Binds K fdI ["self", "rows"] [])
    (GB : FnOk P w K mg base CX0 1 fB fdB ["_law_script"] (spBegun K ns)) (bB : Binds K fdB ["_law_script"] []) (kB : PySem.W.keepIn K (.ref fB) = true) (mB : mg "_law_begun" = some (.ref fB))
    (GF : FnOk P w K mg base CX0 5 fF fdF ["_law_state", "_law_most"] (spForest ns)) (bF : Binds K fdF ["_law_state", "_law_most"] []) (kF : PySem.W.keepIn K (.ref fF) = true) (mF : mg "_law_forest" = some (.ref fF))
    (GU : FnOk P w K mg base CX0 1 fU fdU ["_law_rows", "_law_name"] spUp) (bU : Binds K fdU ["_law_rows", "_law_name"] []) (kU : PySem.W.keepIn K (.ref fU) = true) (mU : mg "_law_up" = some (.ref fU))
    (GMd : FnOk P w K mg base CX0 3 fMd fdMd ["_law_rows", "_law_claims", "_law_spent", "_law_balances"] spMatched) (bMd : Binds K fdMd ["_law_rows", "_law_claims", "_law_spent", "_law_balances"] []) (kMd : PySem.W.keepIn K (.ref fMd) = true) (mMd : mg "_law_is_matched" = some (.ref fMd))
    (GMg : FnOk P w K mg base CX0 2 fMg fdMg ["_law_rows", "_law_claims", "_law_spent", "_law_balances", "_law_plan"] spMatching) (bMg : Binds K fdMg ["_law_rows", "_law_claims", "_law_spent", "_law_balances", "_law_plan"] []) (kMg : PySem.W.keepIn K (.ref fMg) = true) (mMg : mg "_law_is_matching" = some (.ref fMg))
    (GFd : FnOk P w K mg base CX0 7 fFd fdFd ["forest", "claims", "spent", "balances"] (spFund C)) (bFd : Binds K fdFd ["forest", "claims", "spent", "balances"] []) (kFd : PySem.W.keepIn K (.ref fFd) = true) (mFd : mg "fund" = some (.ref fFd)) :
    ∃ t, PSs (cxOf CX0 P w K mg base nLaw "law" (defScope sLaw) f cdv A [] s H E0).nox (defBody sLaw) t ∧ t { nx := fun _ _ => False, rt := fun v _ => v = .bl true } (L2.start nLaw [.ref a]) H := by
  have nd := scLaw.nd
  have hu := hu_of hr
  have hr7 := hr
  have hr5 : Room 5 (A.deeper (envOfC "law" (defScope sLaw) s.heap.objs.size f cdv)) := hr.mono (by decide)
  have hr3 : Room 3 (A.deeper (envOfC "law" (defScope sLaw) s.heap.objs.size f cdv)) := hr.mono (by decide)
  have hr2 : Room 2 (A.deeper (envOfC "law" (defScope sLaw) s.heap.objs.size f cdv)) := hr.mono (by decide)
  have hr1 : Room 1 (A.deeper (envOfC "law" (defScope sLaw) s.heap.objs.size f cdv)) := hr.mono (by decide)
  refine ⟨_, pss_cons (ps_set (i := 1) nd rfl (.inr rfl) (pe_call GB hr1 rfl mB kB bB .nil pass0 (pa_cons (pv 0) pa_nil)))
(pss_cons (ps_for PassesOwn.never rfl (pi_range1 rfl T.range (pa_cons pe_int pa_nil)) (pg_name (i := 2) nd rfl (.inl rfl))
(pss_cons (ps_set (i := 3) nd rfl (.inr rfl) (pe_call GF hr5 rfl mF kF bF .nil pass0 (pa_cons (pv 1) (pa_cons pe_int pa_nil))))
(pss_cons (ps_asg (pe_tup (pa_cons (pe_make Z.make GI hr5 rfl Z.g bI .nil pass0 (pa_cons (pv 3) pa_nil)) (pa_cons (pe_lc (own := [("_law_row", 11)]) (g := gName 11) (tt := tYes) rfl nd (pi_list (pv 3)) (blkOk_by (N := nLaw) (sc := defScope sLaw) (by decide +kernel))
(fun _ _ _ _ _ => pg_name (i := 11) nd rfl (.inl rfl)) (fun _ _ _ _ _ => pts_nil) (fun _ _ _ _ _ => pe_ix (r := rIxT K) ix_tup (pv 11) pe_int (fun _ _ => rfl))) pa_nil))) (by exact (pg_tup rfl (pgs_cons (pg_name (i := 4) nd rfl (.inl rfl)) (pgs_cons (pg_name (i := 5) nd rfl (.inr rfl)) pgs_nil)))))
(pss_cons (ps_set (i := 6) nd rfl (.inr rfl) (pe_lc (own := [("_law_k", 12)]) (g := gName 12) (tt := tYes) rfl nd (pi_range1 rfl T.range (pa_cons (pe_call R.GT hr2 rfl R.mT R.kT R.bT .nil pass0 (pa_cons (pv 1) (pa_cons pe_int pa_nil))) pa_nil)) (blkOk_by (N := nLaw) (sc := defScope sLaw) (by decide +kernel))
(fun _ _ _ _ _ => pg_name (i := 12) nd rfl (.inl rfl)) (fun _ _ _ _ _ => pts_nil) (fun _ _ _ _ _ => pe_tup (pa_cons (pe_call R.GP hr3 rfl R.mP R.kP R.bP .nil pass0 (pa_cons (pv 1) (pa_cons (pv 5) pa_nil))) (pa_cons (pe_op op_add pe_int (pe_call R.GT hr2 rfl R.mT R.kT R.bT .nil pass0 (pa_cons (pv 1) (pa_cons pe_int pa_nil)))) pa_nil)))))
(pss_cons (ps_set (i := 7) nd rfl (.inr rfl) (pe_lc (own := [("_law_pair", 13)]) (g := gName 13) (tt := tYes) rfl nd (pi_list (pv 6)) (blkOk_by (N := nLaw) (sc := defScope sLaw) (by decide +kernel))
(fun _ _ _ _ _ => pg_name (i := 13) nd rfl (.inl rfl)) (fun _ _ _ _ _ => pts_nil) (fun _ _ _ _ _ => pe_call R.GT hr2 rfl R.mT R.kT R.bT .nil pass0 (pa_cons (pv 1) (pa_cons pe_int pa_nil)))))
(pss_cons (ps_set (i := 8) nd rfl (.inr rfl) (pe_callTy (call_dictP rfl) rfl T.dict (by decide +kernel) (pa_cons (pe_lc (own := [("_law_name", 14)]) (g := gName 14) (tt := tYes) rfl nd (pi_list (pv 5)) (blkOk_by (N := nLaw) (sc := defScope sLaw) (by decide +kernel))
(fun _ _ _ _ _ => pg_name (i := 14) nd rfl (.inl rfl)) (fun _ _ _ _ _ => pts_nil) (fun _ _ _ _ _ => pe_tup (pa_cons (pv 14) (pa_cons (pe_call R.GT hr2 rfl R.mT R.kT R.bT .nil pass0 (pa_cons (pv 1) (pa_cons pe_int pa_nil))) pa_nil)))) pa_nil)))
(pss_cons (ps_set (i := 9) nd rfl (.inr rfl) (pe_call GFd hr7 rfl mFd kFd bFd .nil pass0 (pa_cons (pv 4) (pa_cons (pv 6) (pa_cons (pv 7) (pa_cons (pv 8) pa_nil))))))
(pss_cons (ps_if (PW.pt (pw_or (pt_not (pt_val (pe_callB call_isi rfl T.isi (by decide +kernel) (pa_cons (pv 9) (pa_cons (pe_bltn (v := .ty "tuple") rfl T.tuple (by decide +kernel) rfl) pa_nil))))) (pw_or1 (pt_cmpR op_ne (pe_callB call_len_seq rfl T.len PySem.boot_len (pa_cons (pv 9) pa_nil)) pe_int (nomark _))))) (pss_one (ps_ret pe_bl)) pss_nil)
(pss_one (ps_if (pt_val (pe_call GMd hr3 rfl mMd kMd bMd .nil pass0 (pa_cons (pv 3) (pa_cons (pv 6) (pa_cons (pv 7) (pa_cons (pv 8) pa_nil)))))) (pss_one (ps_if (PW.pt (pw_or (pt_cmpR op_ne (pe_ix ix_tup (pv 9) pe_int (fun _ _ => rfl)) pe_str (nomark _)) (pw_or1 (pt_not (pt_val (pe_call GMg hr2 rfl mMg kMg bMg .nil pass0 (pa_cons (pv 3) (pa_cons (pv 6) (pa_cons (pv 7) (pa_cons (pv 8) (pa_cons (pe_ix ix_tup (pv 9) pe_int (fun _ _ => rfl)) pa_nil))))))))))) (pss_one (ps_ret pe_bl)) pss_nil)) (pss_cons (ps_if (PW.pt (pw_or (pt_cmpR op_ne (pe_ix ix_tup (pv 9) pe_int (fun _ _ => rfl)) pe_str (nomark _)) (pw_or1 (pt_cmpR op_notIn_seq (pe_ix ix_tup (pv 9) pe_int (fun _ _ => rfl)) (pv 5) rfl)))) (pss_one (ps_ret pe_bl)) pss_nil)
(pss_cons (ps_setLc (i := 10) (own := [("_law_rank", 15)]) (g := gName 15) rfl nd rfl rfl (sw_true rfl rfl rfl (by decide +kernel)) (pi_range1 rfl T.range (pa_cons (pe_callB call_len_seq rfl T.len PySem.boot_len (pa_cons (pv 6) pa_nil)) pa_nil)) (blkOk_by (N := nLaw) (sc := defScope sLaw) (by decide +kernel))
(fun _ _ _ _ _ => pg_name (i := 15) nd rfl (.inl rfl)) (fun _ _ _ _ _ => pts_one (pt_cmpR (r := rIn K false) op_in_seq (pe_ix (r := rIxT K) ix_tup (pv 9) pe_int (fun _ _ => rfl)) (pe_call GU hr1 rfl mU kU bU .nil pass0 (pa_cons (pv 3) (pa_cons (pe_ix (r := rIxT K) ix_tup (pe_ix (r := rIxL K) ix_list (pv 6) (pv 15) (fun _ _ => rfl)) pe_int (fun _ _ => rfl)) pa_nil))) rfl)) (fun _ _ _ _ _ => pe_ix (r := rIxL K) ix_list (pv 7) (pv 15) (fun _ _ => rfl)))
(pss_one (ps_if (pt_cmpR op_le (pe_callB (cr_sum rfl) rfl hsum (by decide +kernel) (pa_cons (pv 10) pa_nil)) (pe_callB (cr_sum rfl) rfl hsum (by decide +kernel) (pa_cons (pe_lock (pe_lc (own := [("_law_name", 14)]) (g := gName 14) rfl nd (pi_keys (pv 8)) (blkOk_by (N := nLaw) (sc := defScope sLaw) (by decide +kernel))
(fun _ _ _ _ _ => pg_name (i := 14) nd rfl (.inl rfl)) (fun _ _ _ _ _ => pts_one (pt_cmpR (r := rIn K false) op_in_seq (pe_ix (r := rIxT K) ix_tup (pv 9) pe_int (fun _ _ => rfl)) (pe_call GU hr1 rfl mU kU bU .nil pass0 (pa_cons (pv 3) (pa_cons (pv 14) pa_nil))) rfl)) (fun _ _ _ _ _ => pe_dget hu (pv 8) (pv 14) (fun _ _ => rfl)))) pa_nil)) (nomark _)) (pss_one (ps_ret pe_bl)) pss_nil))))))))))))))
(pss_one (ps_ret pe_bl))), ?_⟩
  refine ⟨_, rfl, a, rfl, hS, hl, fun d g c H1 D1 x1 fd fg fc => ?_⟩
  refine ⟨2, rfl, by decide, by decide, for_range (lo := 0) (n := 2) (fun i σ H' => ∃ (v2 v3 v4 v5 v6 v7 v8 v9 v10 : Option V), σ = [some (.ref a), some (.ref d), v2, v3, v4, v5, v6, v7, v8, v9, v10, none, none, none, none, none] ∧ Dw ns d g c (i * 3000) H') ⟨none, none, none, none, none, none, none, none, none, rfl, D1⟩ ?_ ?_⟩
  · rintro i σ H2 hi ⟨v2, v3, v4, v5, v6, v7, v8, v9, v10, rfl, D2⟩
    refine ⟨_, rfl, d, g, c, _, 5, rfl, D2, by omega, by decide, by decide, fun lr rx rs H4 lr0 nrd nrg r4 R4 G D4 k3 => ?_⟩
    -- the forest, its names
    refine ⟨_, rfl, fun y dx hy hdx ne => ?_⟩
    have kx : Ext H4 (upd (upd H4 dx (.own y)) y (.ins C dx [])) := fun b o hb => by
      rw [upd_ne (ne_of_none hb hy), upd_ne (ne_of_none hb hdx)]
      exact hb
    refine ⟨y, lr, dx, rx, rs, rfl, upd_same, kx _ _ r4, R4.ext kx, G, fun H5 q k5 i5 q5 => ⟨rfl, ?_⟩⟩
    have k45 : Ext H4 H5 := fun b o hb => k5 _ _ (ne_of_none hb hy) (kx _ _ hb)
    have f5 : FoAt C H5 y rs := ⟨dx, q, i5, q5⟩
    obtain ⟨nm0, nm8, nmo, nmn⟩ := good_names G
    refine ⟨_, rfl, lr, rfl, ⟨_, SqL.of (k45 _ _ r4)⟩, fun ln hln => ?_⟩
    have D5 := D4.keep k45
    have nnd := D5.nd hln
    have nng := D5.ng hln
    refine lc_it walk_list (fun i H' => H' ln = some (.lst (((fNames rs).take i).map V.str)) ∧ Ext H5 H') ⟨upd_same, Ext.new hln⟩ (fun i H' _ ⟨_, e⟩ => SqL.of (e _ _ (k45 _ _ r4))) ?_ ?_
    · rintro i' z H6 H6' hi' ⟨d6, k6⟩ ⟨rfl, hz⟩
      obtain ⟨r, p, hr1', rfl, hp⟩ := R4.get hz
      have hrn : (fNames rs)[i']? = some r.1 := by unfold fNames; rw [List.getElem?_map, hr1']; rfl
      refine ⟨rfl, yes_of ?_⟩
      refine ⟨_, rfl, p, _, _, _, rfl, rfl, SqT.of (k6 _ _ (k45 _ _ hp)), (show atI [V.str r.1, parV r.2] ((0 : Nat) : Int) = some (V.str r.1) from atI_nat rfl), _, d6, ?_, ?_, fun x o e => ?_⟩
      · rw [List.length_map, List.length_take]
        exact small1000 (by omega)
      · rw [upd_same, take_snoc hrn, List.map_append]
        rfl
      · rw [upd_ne (ne_of_none e hln)]
        exact k6 _ _ e
    rintro H6 ⟨d6, k6⟩
    have e6 : (fNames rs).take rx.length = fNames rs := List.take_of_length_le (by rw [R4.1]; unfold fNames; rw [List.length_map]; exact Nat.le_refl _)
    rw [e6] at d6
    have k46 := k45.trans k6
    have g6 : Gd3 C H6 lr y ln rx rs := ⟨k46 _ _ r4, R4.ext k46, f5.ext k6, d6⟩
    have D6 : Dw ns d g c (i * 3000 + 400) H6 := (D5.keep k6).mono (by omega)
    clear kx k5 i5 q5 f5 k45 k6 D5 D4 D2 k3 R4 r4 hln hy hdx k46 d6 lr0
    refine ⟨by show 2 ≤ sizeLine; decide, fun t0 ht0 => ?_⟩
    refine ⟨t0, _, rfl, SqT.of upd_same, rfl, _, _, rfl, _, _, rfl, rfl, ?_⟩
    have D7 := D6.new (o := .tup [.ref y, .ref ln]) ht0
    have g7 := g6.ext (Ext.new (o := .tup [.ref y, .ref ln]) ht0)
    generalize upd H6 t0 (.tup [.ref y, .ref ln]) = H7 at D7 g7 ⊢
    clear g6 D6 ht0 H6
    have wpos : 0 < ((fNames rs).map V.str).length := by rw [List.length_map]; exact List.length_pos_iff.mpr nm0
    have wlen : ((fNames rs).map V.str).length ≤ 1000000 := by rw [List.length_map]; omega
    -- the claims
    refine ⟨_, rfl, d, g, c, _, 6, rfl, D7, by omega, by decide, by decide, fun r H8 r0 r1 D8 k8 => ?_⟩
    have g8 := g7.kp G D7 k8 nrd nrg nnd nng
    clear g7 k8 D7 H7
    refine ⟨r, rfl, by omega, by omega, fun lw hlw => ?_⟩
    have nwd := D8.nd hlw
    have nwg := D8.ng hlw
    have nwc : lw ≠ c := fun e => by rw [e, D8.cl] at hlw; cases hlw
    refine lc_it walk_range (fun i' H' => ∃ (xs : List V) (cs : List (Str × Int)), H' lw = some (.lst xs) ∧ CsAt H' xs cs ∧ cs.length = i' ∧ (∀ q ∈ cs, q.1 ∈ fNames rs ∧ 1 ≤ q.2 ∧ q.2 ≤ 4) ∧ Dw ns d g c (i * 3000 + 500 + i' * 2) H' ∧ Kp d g H8 H')
      ⟨[], [], upd_same, .nil, rfl, (fun q hq => by cases hq), (D8.new hlw).mono (by omega), Kp.new hlw⟩ (fun i H' _ _ => trivial) ?_ ?_
    · rintro i' x Ha Ha' hi' ⟨xs, cs, L3, c3, cl, co, D3, k3⟩ ⟨rfl, rfl⟩
      have gh : Gd3 C Ha' lr y ln rx rs := g8.kp G D8 k3 nrd nrg nnd nng
      refine ⟨rfl, ?_⟩
      refine ⟨_, rfl, _, rfl, d, g, c, _, D3, by omega, .inl ⟨ln, _, rfl, gh.n, nnd, nng, wpos, wlen, fun x Hb hx Db kb => ?_⟩⟩
      obtain ⟨nm, hnm, rfl⟩ := List.mem_map.mp hx
      refine ⟨_, rfl, d, g, c, _, 4, rfl, Db, by omega, by decide, by decide, fun z Hc z0 z1 Dc kc => ?_⟩
      refine ⟨_, _, rfl, rfl, by show 2 ≤ sizeLine; decide, fun t ht => ?_⟩
      have k36 := kb.trans kc
      have L7 := k36 _ _ nwd nwg L3
      have L8 := new_same (o := .tup [.str nm, .int (1 + z)]) ht _ _ L7
      have c8 : CsAt (upd Hc t (.tup [.str nm, .int (1 + z)])) xs cs := (c3.kp D3 k36).ext (Ext.new ht)
      have xl := c3.1
      have Dd := (Dc.new (o := .tup [.str nm, .int (1 + z)]) ht).put (o := .lst (xs ++ [.ref t])) L8 nwd nwg nwc
      refine ⟨_, L8, small1000 (by omega), xs ++ [.ref t], cs ++ [(nm, 1 + z)], upd_same, ?_, by rw [List.length_append, cl]; rfl, fun q hq => ?_, Dd.mono (by omega), ?_⟩
      · exact CsAt.put (CsAt.snoc (c := (nm, 1 + z)) c8 upd_same) L8 (by intro z e; cases e)
      · rcases List.mem_append.mp hq with hq | hq
        · exact co q hq
        · rw [List.mem_singleton.mp hq]
          exact ⟨hnm, by show 1 ≤ 1 + z; omega, by show 1 + z ≤ 4; omega⟩
      · exact kp_upd ((k3.trans k36).trans (Kp.new ht)) hlw
    rintro H9 ⟨xs, cs, w9, c9, cl, co, D9, k9⟩
    have g9 := g8.kp G D8 k9 nrd nrg nnd nng
    clear g8 D8 k9 hlw
    have cl6 : cs.length ≤ 6 := by omega
    have D9 : Dw ns d g c (i * 3000 + 600) H9 := D9.mono (by omega)
    have xl := c9.1
    -- what was spent
    refine ⟨_, rfl, lw, rfl, ⟨_, SqL.of w9⟩, fun po hpo => ?_⟩
    have npd := D9.nd hpo
    have npg := D9.ng hpo
    have npc : po ≠ c := fun e => by rw [e, D9.cl] at hpo; cases hpo
    refine lc_it walk_list (fun i' H' => ∃ ps : List Int, H' po = some (.lst (ps.map V.int)) ∧ ps.length = i' ∧ (∀ z ∈ ps, 0 ≤ z ∧ z ≤ 2) ∧ Dw ns d g c (i * 3000 + 600 + i') H' ∧ Kp d g H9 H')
      ⟨[], upd_same, rfl, (fun q hq => by cases hq), (D9.new hpo).mono (by omega), Kp.new hpo⟩ (fun i H' _ ⟨_, _, _, _, _, e⟩ => SqL.of (e _ _ nwd nwg w9)) ?_ ?_
    · rintro i' x Ha Ha' hi' ⟨ps, L3, pl, po', D3, k3⟩ ⟨rfl, hx⟩
      refine ⟨rfl, ?_⟩
      refine ⟨_, rfl, d, g, c, _, 3, rfl, D3, by omega, by decide, by decide, fun z Hc z0 z1 Dc kc => ?_⟩
      have L7 := kc _ _ npd npg L3
      refine ⟨_, L7, small1000 (by rw [List.length_map]; omega), ps ++ [z], by rw [upd_same, List.map_append]; rfl, by rw [List.length_append, pl]; rfl, fun q hq => ?_, (Dc.put L7 npd npg npc).mono (by omega), kp_upd (k3.trans kc) hpo⟩
      rcases List.mem_append.mp hq with hq | hq
      · exact po' q hq
      · rw [List.mem_singleton.mp hq]; omega
    rintro Ha ⟨ps, pa, pl, pso, Da, ka⟩
    have ga := g9.kp G D9 ka nrd nrg nnd nng
    have wa := ka _ _ nwd nwg w9
    have ca := c9.kp D9 ka
    rw [xl] at pl
    have Da : Dw ns d g c (i * 3000 + 700) Ha := Da.mono (by omega)
    clear g9 w9 c9 D9 ka hpo
    -- the balances
    refine ⟨_, rfl, ln, rfl, ⟨_, SqL.of ga.n⟩, fun zo hzo => ?_⟩
    have nzd := Da.nd hzo
    have nzg := Da.ng hzo
    have nzc : zo ≠ c := fun e => by rw [e, Da.cl] at hzo; cases hzo
    refine lc_it walk_list (fun i' H' => ∃ (zs : List V) (bs : List (Str × Int)), H' zo = some (.lst zs) ∧ CsAt H' zs bs ∧ bs.map (·.1) = (fNames rs).take i' ∧ (∀ q ∈ bs, 0 ≤ q.2 ∧ q.2 ≤ 3) ∧ Dw ns d g c (i * 3000 + 700 + i') H' ∧ Kp d g Ha H')
      ⟨[], [], upd_same, .nil, rfl, (fun q hq => by cases hq), (Da.new hzo).mono (by omega), Kp.new hzo⟩ (fun i H' _ ⟨_, _, _, _, _, _, _, e⟩ => SqL.of (e _ _ nnd nng ga.n)) ?_ ?_
    · rintro i' x Hb Hb' hi' ⟨zs, bs, L3, c3, bl, bo, D3, k3⟩ ⟨rfl, hx⟩
      rw [List.getElem?_map] at hx
      obtain ⟨nm, hnm, rfl⟩ := Option.map_eq_some_iff.mp hx
      have hil := (List.getElem?_eq_some_iff.mp hnm).1
      refine ⟨rfl, ?_⟩
      refine ⟨_, rfl, _, rfl, d, g, c, _, 4, rfl, D3, by omega, by decide, by decide, fun z Hc z0 z1 Dc kc => ?_⟩
      refine ⟨by show 2 ≤ sizeLine; decide, fun t ht => ?_⟩
      have L7 := kc _ _ nzd nzg L3
      have L8 := new_same (o := .tup [.str nm, .int z]) ht _ _ L7
      have c8 : CsAt (upd Hc t (.tup [.str nm, .int z])) zs bs := (c3.kp D3 kc).ext (Ext.new ht)
      have zl : zs.length ≤ 8 := by
        have := congrArg List.length bl
        rw [List.length_map, List.length_take] at this
        have := c3.1
        omega
      have Dd := (Dc.new (o := .tup [.str nm, .int z]) ht).put (o := .lst (zs ++ [.ref t])) L8 nzd nzg nzc
      refine ⟨_, L8, small1000 (by omega), zs ++ [.ref t], bs ++ [(nm, z)], upd_same, ?_, by rw [List.map_append, bl, take_snoc hnm]; rfl, fun q hq => ?_, Dd.mono (by omega), ?_⟩
      · exact CsAt.put (CsAt.snoc (c := (nm, z)) c8 upd_same) L8 (by intro z e; cases e)
      · rcases List.mem_append.mp hq with hq | hq
        · exact bo q hq
        · rw [List.mem_singleton.mp hq]
          exact ⟨z0, by show z ≤ 3; omega⟩
      · exact kp_upd ((k3.trans kc).trans (Kp.new ht)) hzo
    rintro Hb ⟨zs, bs, zb, cb, bl, bo, Db, kb⟩
    rw [List.length_map, List.take_length] at bl
    have gb := ga.kp G Da kb nrd nrg nnd nng
    have wb := kb _ _ nwd nwg wa
    have cb' := ca.kp Da kb
    have pb := kb _ _ npd npg pa
    have Db : Dw ns d g c (i * 3000 + 800) Hb := Db.mono (by rw [List.length_map]; omega)
    clear ga wa ca pa Da kb hzo
    obtain ⟨ds, rfl, dsp⟩ := cs_refs cb
    refine ⟨zo, ds, _, rfl, SqL.of zb, Paired.mapP dsp fun p kv z => SqT.of z, fun bf hbf => ?_⟩
    have hBn : BsN rs bs := ⟨by rw [bl]; exact nmn, fun p hp => by rw [← bl]; exact List.mem_map.mpr ⟨p, hp, rfl⟩⟩
    rw [merge_dB hBn.1]
    have hB : BsOk rs bs := ⟨hBn, fun p hp => ⟨(bo p hp).1, by have := (bo p hp).2; omega⟩⟩
    have kc := Ext.new (o := .dK (dB bs)) hbf
    have gc := gb.ext kc
    have wc := kc _ _ wb
    have cc := cb'.ext kc
    have pc := kc _ _ pb
    have Dc := Db.new (o := .dK (dB bs)) hbf
    have bc : (upd Hb bf (.dK (dB bs))) bf = some (.dK (dB bs)) := upd_same
    generalize upd Hb bf (.dK (dB bs)) = Hc at gc wc cc pc Dc bc ⊢
    clear gb wb cb' pb Db zb cb dsp kc hbf
    have co' : CsOk rs cs := ⟨by omega, fun q hq => ⟨(co q hq).1, by have := (co q hq).2; omega, by have := (co q hq).2; omega⟩⟩
    have b8 := bs_len G hBn
    -- what fund tells
    refine ⟨_, rfl, _, rfl, _, rfl, _, rfl, y, lw, po, bf, rs, bs, cs, xs, ps, rfl, gc.F, G, .inl ⟨wc, pc⟩, cc, co', ⟨by omega, fun z hz => (pso z hz).1⟩, bc, hB, fun He p ke hp hT => ?_⟩
    have ge := gc.ext ke
    have we := ke _ _ wc
    have ce := cc.ext ke
    have pe := ke _ _ pc
    have be := ke _ _ bc
    have De := Dc.keep ke
    clear gc wc cc pc Dc bc ke hp
    obtain ⟨ys, hp, hy2⟩ : ∃ ys, He p = some (.tup ys) ∧ ys.length = 2 := by
      rcases hT with ⟨n, _, h⟩ | ⟨_, q, P, h, _⟩
      · exact ⟨_, h, rfl⟩
      · exact ⟨_, h, rfl⟩
    refine ⟨_, rfl, _, _, _, _, true, rfl, .ty _, (TyT.tup hp).x, kit_ty (by decide +kernel), true, rfl, iteF ?_⟩
    refine ⟨_, rfl, p, _, rfl, .inr (SqT.of hp), rfl, _, rfl, iteNS (by rw [hy2]; rfl) ?_⟩
    clear hp hy2 ys
    refine ⟨_, rfl, _, rfl, _, rfl, _, rfl, lr, lw, po, bf, rx, xs, rs, bs, cs, ps, rfl, ge.r, ge.R, G, we, ce, fun q hq => (co q hq).1, by omega, pe, by omega, fun z hz => ⟨(pso z hz).1, by have := (pso z hz).2; omega⟩, be, hBn, fun q hq => ⟨(bo q hq).1, by have := (bo q hq).2; omega⟩, by omega, fun Hf kf => ?_⟩
    have hT2 := hT.ext kf
    have gf := ge.ext kf
    have wf := kf _ _ we
    have cf := ce.ext kf
    have pf := kf _ _ pe
    have bf' := kf _ _ be
    have Df := De.keep kf
    clear hT ge we ce pe be De kf
    rcases hT2 with ⟨n, ho, h1⟩ | ⟨ho, q, P, h1, hq, hP⟩
    · rw [ho]
      refine ⟨_, rfl, iteF ?_⟩
      have hn : n ∈ fNames rs := List.mem_of_find?_eq_some ho
      have ho2 : totF rs bs n < cntF rs cs ps n := by
        unfold overF at ho
        have z := List.find?_some ho
        exact of_decide_eq_true z
      have wl : (wantL cs ps).length = cs.length := by unfold wantL; rw [List.length_map, List.length_zip]; omega
      refine ⟨_, rfl, p, _, _, _, rfl, rfl, SqT.of h1, (show atI _ ((0 : Nat) : Int) = _ from atI_nat rfl), rfl, _, rfl, iteF ?_⟩
      refine ⟨_, rfl, p, _, _, _, rfl, rfl, SqT.of h1, (show atI _ ((1 : Nat) : Int) = _ from atI_nat rfl), _, rfl, ln, _, rfl, .inl (SqL.of gf.n), rfl, strs_flat _, _, rfl, ?_⟩
      show if (!inV (V.str n) ((fNames rs).map V.str)) = true then _ else _
      rw [inV_strs, decide_eq_true hn]
      refine iteF ?_
      refine ⟨_, rfl, lw, _, rfl, .inl (SqL.of wf), _, rfl, by omega, by omega, fun L hL => ?_⟩
      refine lc_it walk_range (fun i' H' => H' L = some (.lst ((inL rs n ((wantL cs ps).take i')).map V.int)) ∧ Ext Hf H') ⟨upd_same, Ext.new hL⟩ (fun i H' _ _ => trivial) ?_ ?_
      · rintro i' x Hg Hg' hi' ⟨L3, k3⟩ ⟨rfl, rfl⟩
        have e0 : (0 : Int) + ((i' : Nat) : Int) = ((i' : Nat) : Int) := by omega
        have hic : i' < cs.length := by omega
        have hc := List.getElem?_eq_getElem hic
        generalize cs[i'] = cc at hc
        have hz := List.getElem?_eq_getElem (l := ps) (i := i') (by omega)
        generalize ps[i'] = z at hz
        obtain ⟨pc, hpc1, hpc2⟩ := cf.2 i' cc hc
        have hW := wantL_at hc hz
        refine ⟨rfl, ?_⟩
        refine ⟨_, rfl, p, _, _, _, rfl, rfl, SqT.of (k3 _ _ h1), (show atI _ ((1 : Nat) : Int) = _ from atI_nat rfl), ?_⟩
        refine ⟨_, rfl, _, rfl, _, rfl, lw, xs, _, _, rfl, rfl, SqL.of (k3 _ _ wf), (by rw [e0]; exact atI_nat hpc1), pc, _, _, _, rfl, rfl, SqT.of (k3 _ _ hpc2), (show atI _ ((0 : Nat) : Int) = _ from atI_nat rfl), ?_⟩
        refine ⟨lr, rx, rs, cc.1, rfl, k3 _ _ gf.r, gf.R.ext k3, G, (co _ (List.mem_of_getElem? hc)).1, fun H6 v k6 hv0 hv => ?_⟩
        refine ⟨v, _, rfl, .inl (SqL.of hv), rfl, strs_flat _, _, rfl, ?_⟩
        show if inV (V.str n) ((anc rs cc.1).map V.str) = true then _ else _
        rw [inV_strs]
        have L6 := k6 _ _ L3
        have k36 := k3.trans k6
        by_cases e : n ∈ anc rs cc.1
        · refine iteS e ?_
          have ll := inL_len rs n ((wantL cs ps).take i')
          rw [List.length_take] at ll
          refine ⟨_, rfl, _, rfl, po, _, _, _, rfl, rfl, SqL.of (k36 _ _ pf), (by rw [e0]; exact atI_nat (by rw [List.getElem?_map, hz]; rfl)), _, L6, small1000 (by rw [List.length_map]; omega), ?_, ext_upd k36 hL⟩
          rw [upd_same, inL_pos (c := (cc.1, z)) hW e, List.map_append]
          rfl
        · refine iteN e ⟨?_, k36⟩
          rw [inL_neg (c := (cc.1, z)) hW e]
          exact L6
      rintro Hg ⟨L3, k3⟩
      rw [Int.toNat_natCast, xl, ← wl, List.take_length] at L3
      refine ⟨_, rfl, L, _, rfl, SqL.of L3, ?_⟩
      -- the money
      have b2 := k3 _ _ bf'
      refine ⟨bf, _, b2, trivial, fun od => ?_⟩
      have nL : ∀ x o, x ≠ bf → Hg x = some o → (upd Hg bf (.frz od (.dK (dB bs)))) x = some o := fun x o n e => by rw [upd_ne n]; exact e
      have atL : (upd Hg bf (.frz od (.dK (dB bs)))) bf = some (.frz od (.dK (dB bs))) := upd_same
      have bnL : ∀ x, (upd Hg bf (.frz od (.dK (dB bs)))) x = none → Hg x = none ∧ x ≠ bf := fun x hx => by
        have n : x ≠ bf := fun e => by rw [e, atL] at hx; cases hx
        rw [upd_ne n] at hx
        exact ⟨hx, n⟩
      generalize upd Hg bf (.frz od (.dK (dB bs))) = HL at nL atL bnL ⊢
      refine ⟨_, rfl, bf, od, rfl, .inl ⟨_, atL, fun M hM => ?_⟩⟩
      have r2 := nL _ _ (ne_of (k3 _ _ gf.r) b2 (by intro z; cases z)) (k3 _ _ gf.r)
      have R2 : RowsAt HL rx rs := ⟨gf.R.1, fun j r hr => by
        obtain ⟨pp, z1, z2⟩ := gf.R.2 j r hr
        exact ⟨pp, z1, nL _ _ (ne_of (k3 _ _ z2) b2 (by intro z; cases z)) (k3 _ _ z2)⟩⟩
      have p2 := nL _ _ (ne_of (k3 _ _ h1) b2 (by intro z; cases z)) (k3 _ _ h1)
      refine lc_it walk_keys (fun i' H' => H' M = some (.lst ((inL rs n (bs.take i')).map V.int)) ∧ Ext HL H') ⟨upd_same, Ext.new hM⟩ (fun i H' _ ⟨_, e⟩ => e _ _ atL) ?_ ?_
      · rintro i' x H3 H3' hi ⟨M3, k4⟩ ⟨rfl, ky, vv, hkv, rfl⟩
        obtain ⟨q, hq, rfl, rfl⟩ : ∃ q, bs[i']? = some q ∧ (Sum.inr q.1 : Key) = ky ∧ V.int q.2 = vv := by
          unfold dB at hkv
          rw [List.getElem?_map] at hkv
          obtain ⟨p, hp, e⟩ := Option.map_eq_some_iff.mp hkv
          cases e
          exact ⟨p, hp, rfl, rfl⟩
        have hib := (List.getElem?_eq_some_iff.mp hq).1
        refine ⟨rfl, ?_⟩
        refine ⟨_, rfl, p, _, _, _, rfl, rfl, SqT.of (k4 _ _ p2), (show atI _ ((1 : Nat) : Int) = _ from atI_nat rfl), ?_⟩
        refine ⟨_, rfl, _, rfl, lr, rx, rs, q.1, rfl, k4 _ _ r2, R2.ext k4, G, hBn.2 _ (List.mem_of_getElem? hq), fun H6 v k6 hv0 hv => ?_⟩
        refine ⟨v, _, rfl, .inl (SqL.of hv), rfl, strs_flat _, _, rfl, ?_⟩
        show if inV (V.str n) ((anc rs q.1).map V.str) = true then _ else _
        rw [inV_strs]
        have M6 := k6 _ _ M3
        have k46 := k4.trans k6
        by_cases e : n ∈ anc rs q.1
        · refine iteS e ?_
          have ll := inL_len rs n (bs.take i')
          rw [List.length_take] at ll
          refine ⟨_, rfl, _, rfl, bf, _, rfl, get_dB (.inr ⟨od, k46 _ _ atL⟩) hBn.1 (List.mem_of_getElem? hq), _, M6, small1000 (by rw [List.length_map]; omega), ?_, ext_upd k46 hM⟩
          rw [upd_same, inL_pos hq e, List.map_append]
          rfl
        · refine iteN e ⟨?_, k46⟩
          rw [inL_neg hq e]
          exact M6
      rintro H3 ⟨M3, k4⟩
      have dBl : (dB bs).length = bs.length := by unfold dB; rw [List.length_map]
      rw [dBl, List.take_length] at M3
      obtain ⟨hM2, hMb⟩ := bnL M hM
      refine ⟨k4 _ _ atL, ?_⟩
      have k5 : Ext Hg (upd H3 bf (.dK (dB bs))) := fun x o e => by
        by_cases n : x = bf
        · subst n
          rw [upd_same, ← b2, e]
        · rw [upd_ne n]
          exact k4 _ _ (nL x o n e)
      have M4 : (upd H3 bf (.dK (dB bs))) M = some (.lst ((inL rs n bs).map V.int)) := by rw [upd_ne hMb]; exact M3
      generalize upd H3 bf (.dK (dB bs)) = H4 at k5 M4 ⊢
      refine ⟨M, _, rfl, SqL.of M4, _, _, rfl, rfl, _, rfl, ?_⟩
      have s1 : (inL rs n (wantL cs ps)).sum = cntF rs cs ps n := by
        rw [inL_sum, cnt_is_units G (fun q hq => (co q hq).1) (fun z hz => (pso z hz).1), units_count _ fun c hc => (pso _ (wantL_mem hc).2).1, ← sumI_map]
      have s2 : (inL rs n bs).sum = totF rs bs n := by
        rw [inL_sum, tot_is_units G hBn (fun q hq => (bo q hq).1), units_count _ fun q hq => (bo q hq).1, ← sumI_map]
      rw [s1, s2]
      refine iteN (by omega) ?_
      exact ⟨_, _, _, _, _, _, _, _, _, rfl, (Df.keep (k3.trans k5)).mono (by omega)⟩
    · rw [ho]
      refine ⟨_, rfl, iteT ?_⟩
      refine ⟨_, rfl, p, _, _, _, rfl, rfl, SqT.of h1, (show atI _ ((0 : Nat) : Int) = _ from atI_nat rfl), rfl, _, rfl, iteF ?_⟩
      refine ⟨_, rfl, _, rfl, _, rfl, _, rfl, _, rfl, p, _, _, _, rfl, rfl, SqT.of h1, (show atI _ ((1 : Nat) : Int) = _ from atI_nat rfl), ?_⟩
      refine ⟨lr, lw, po, bf, q, rx, xs, rs, bs, cs, ps, P, rfl, gf.r, gf.R, G, wf, cf, by omega, pf, by omega, fun z hz => ⟨(pso z hz).1, by have := (pso z hz).2; omega⟩, bf', hBn, hq, hP.ok, fun Hg kg => ?_⟩
      refine ⟨_, rfl, iteF ?_⟩
      exact ⟨_, _, _, _, _, _, _, _, _, rfl, (Df.keep kg).mono (by omega)⟩
  · rintro σ H2 ⟨v2, v3, v4, v5, v6, v7, v8, v9, v10, rfl, D2⟩
    rfl
end
end Lw

set_option Elab.async false
set_option linter.all false
set_option maxRecDepth 100000
set_option maxHeartbeats 8000000
namespace Lw
open L2 hiding Ext
open PySem PySem.Spec PyProof.Rows Gn Gr Gk Go Gt Gf Gu Ge
theorem kit_self {K : PySem.W.Frag} {C : Addr} : PySem.W.kitOne K (.ref C) (.ref C) = some true := by
  unfold PySem.W.kitOne
  rw [if_pos (by simp)]
/-- what the top has left, def by def -/
theorem all_mk {P : Program} {w : World} {K : PySem.W.Frag} {h : Heap} {mg : Str → Option Value} {fa : Addr} (X : K.In h) (G : h.Ns mainGlobals mg) (hfa : mg "law" = some (.ref fa))
    {fq0 : Addr} {odq0 anq0 : Option Addr} {slq0 : Array (Option Value)} {ocq0 kVq0 dcq0 pmq0 cdq0 ctq0 : Value}
    (aq0 : PySem.W.nsIn K mainGlobals "_law_begun" = some (some (.ref fq0))) (lq0 : K.lookup fq0 = some ⟨ocq0, odq0, .func (PySem.W.fnOf "_law_begun" "_law_begun" (defArgs sBegun) (defBody sBegun) (defScope sBegun) .none kVq0 dcq0 pmq0 anq0 cdq0 ctq0), slq0⟩) (cq0 : PySem.W.codeIn K cdq0 "_law_begun" = true) (kq0 : PySem.W.keepIn K (.ref fq0) = true)
    {fq1 : Addr} {odq1 anq1 : Option Addr} {slq1 : Array (Option Value)} {ocq1 kVq1 dcq1 pmq1 cdq1 ctq1 : Value}
    (aq1 : PySem.W.nsIn K mainGlobals "_law_mixed" = some (some (.ref fq1))) (lq1 : K.lookup fq1 = some ⟨ocq1, odq1, .func (PySem.W.fnOf "_law_mixed" "_law_mixed" (defArgs sMixed) (defBody sMixed) (defScope sMixed) .none kVq1 dcq1 pmq1 anq1 cdq1 ctq1), slq1⟩) (cq1 : PySem.W.codeIn K cdq1 "_law_mixed" = true) (kq1 : PySem.W.keepIn K (.ref fq1) = true)
    {fq2 : Addr} {odq2 anq2 : Option Addr} {slq2 : Array (Option Value)} {ocq2 kVq2 dcq2 pmq2 cdq2 ctq2 : Value}
    (aq2 : PySem.W.nsIn K mainGlobals "_law_take" = some (some (.ref fq2))) (lq2 : K.lookup fq2 = some ⟨ocq2, odq2, .func (PySem.W.fnOf "_law_take" "_law_take" (defArgs sTake) (defBody sTake) (defScope sTake) .none kVq2 dcq2 pmq2 anq2 cdq2 ctq2), slq2⟩) (cq2 : PySem.W.codeIn K cdq2 "_law_take" = true) (kq2 : PySem.W.keepIn K (.ref fq2) = true)
    {fq3 : Addr} {odq3 anq3 : Option Addr} {slq3 : Array (Option Value)} {ocq3 kVq3 dcq3 pmq3 cdq3 ctq3 : Value}
    (aq3 : PySem.W.nsIn K mainGlobals "_law_pick" = some (some (.ref fq3))) (lq3 : K.lookup fq3 = some ⟨ocq3, odq3, .func (PySem.W.fnOf "_law_pick" "_law_pick" (defArgs sPick) (defBody sPick) (defScope sPick) .none kVq3 dcq3 pmq3 anq3 cdq3 ctq3), slq3⟩) (cq3 : PySem.W.codeIn K cdq3 "_law_pick" = true) (kq3 : PySem.W.keepIn K (.ref fq3) = true)
    {fq4 : Addr} {odq4 anq4 : Option Addr} {slq4 : Array (Option Value)} {ocq4 kVq4 dcq4 pmq4 cdq4 ctq4 : Value}
    (aq4 : PySem.W.nsIn K mainGlobals "_law_words" = some (some (.ref fq4))) (lq4 : K.lookup fq4 = some ⟨ocq4, odq4, .func (PySem.W.fnOf "_law_words" "_law_words" (defArgs sWords) (defBody sWords) (defScope sWords) .none kVq4 dcq4 pmq4 anq4 cdq4 ctq4), slq4⟩) (cq4 : PySem.W.codeIn K cdq4 "_law_words" = true) (kq4 : PySem.W.keepIn K (.ref fq4) = true)
    {fq5 : Addr} {odq5 anq5 : Option Addr} {slq5 : Array (Option Value)} {ocq5 kVq5 dcq5 pmq5 cdq5 ctq5 : Value}
    (aq5 : PySem.W.nsIn K mainGlobals "_law_forest" = some (some (.ref fq5))) (lq5 : K.lookup fq5 = some ⟨ocq5, odq5, .func (PySem.W.fnOf "_law_forest" "_law_forest" (defArgs sForest) (defBody sForest) (defScope sForest) .none kVq5 dcq5 pmq5 anq5 cdq5 ctq5), slq5⟩) (cq5 : PySem.W.codeIn K cdq5 "_law_forest" = true) (kq5 : PySem.W.keepIn K (.ref fq5) = true)
    {fq6 : Addr} {odq6 anq6 : Option Addr} {slq6 : Array (Option Value)} {ocq6 kVq6 dcq6 pmq6 cdq6 ctq6 : Value}
    (aq6 : PySem.W.nsIn K mainGlobals "is_int" = some (some (.ref fq6))) (lq6 : K.lookup fq6 = some ⟨ocq6, odq6, .func (PySem.W.fnOf "is_int" "is_int" (defArgs sInt) (defBody sInt) (defScope sInt) .none kVq6 dcq6 pmq6 anq6 cdq6 ctq6), slq6⟩) (cq6 : PySem.W.codeIn K cdq6 "is_int" = true) (kq6 : PySem.W.keepIn K (.ref fq6) = true)
    {fq7 : Addr} {odq7 anq7 : Option Addr} {slq7 : Array (Option Value)} {ocq7 kVq7 dcq7 pmq7 cdq7 ctq7 : Value}
    (aq7 : PySem.W.nsIn K mainGlobals "is_name" = some (some (.ref fq7))) (lq7 : K.lookup fq7 = some ⟨ocq7, odq7, .func (PySem.W.fnOf "is_name" "is_name" (defArgs sName) (defBody sName) (defScope sName) .none kVq7 dcq7 pmq7 anq7 cdq7 ctq7), slq7⟩) (cq7 : PySem.W.codeIn K cdq7 "is_name" = true) (kq7 : PySem.W.keepIn K (.ref fq7) = true)
    {fq8 : Addr} {odq8 anq8 : Option Addr} {slq8 : Array (Option Value)} {ocq8 kVq8 dcq8 pmq8 cdq8 ctq8 : Value}
    (aq8 : PySem.W.nsIn K mainGlobals "is_amount" = some (some (.ref fq8))) (lq8 : K.lookup fq8 = some ⟨ocq8, odq8, .func (PySem.W.fnOf "is_amount" "is_amount" (defArgs sAmount) (defBody sAmount) (defScope sAmount) .none kVq8 dcq8 pmq8 anq8 cdq8 ctq8), slq8⟩) (cq8 : PySem.W.codeIn K cdq8 "is_amount" = true) (kq8 : PySem.W.keepIn K (.ref fq8) = true)
    {fq9 : Addr} {odq9 anq9 : Option Addr} {slq9 : Array (Option Value)} {ocq9 kVq9 dcq9 pmq9 cdq9 ctq9 : Value}
    (aq9 : PySem.W.nsIn K mainGlobals "is_row" = some (some (.ref fq9))) (lq9 : K.lookup fq9 = some ⟨ocq9, odq9, .func (PySem.W.fnOf "is_row" "is_row" (defArgs sRow) (defBody sRow) (defScope sRow) .none kVq9 dcq9 pmq9 anq9 cdq9 ctq9), slq9⟩) (cq9 : PySem.W.codeIn K cdq9 "is_row" = true) (kq9 : PySem.W.keepIn K (.ref fq9) = true)
    {fq10 : Addr} {odq10 anq10 : Option Addr} {slq10 : Array (Option Value)} {ocq10 kVq10 dcq10 pmq10 cdq10 ctq10 : Value}
    (aq10 : PySem.W.nsIn K mainGlobals "first_wrong" = some (some (.ref fq10))) (lq10 : K.lookup fq10 = some ⟨ocq10, odq10, .func (PySem.W.fnOf "first_wrong" "first_wrong" (defArgs sWrong) (defBody sWrong) (defScope sWrong) .none kVq10 dcq10 pmq10 anq10 cdq10 ctq10), slq10⟩) (cq10 : PySem.W.codeIn K cdq10 "first_wrong" = true) (kq10 : PySem.W.keepIn K (.ref fq10) = true)
    {fq11 : Addr} {odq11 anq11 : Option Addr} {slq11 : Array (Option Value)} {ocq11 kVq11 dcq11 pmq11 cdq11 ctq11 : Value}
    (aq11 : PySem.W.nsIn K mainGlobals "law" = some (some (.ref fq11))) (lq11 : K.lookup fq11 = some ⟨ocq11, odq11, .func (PySem.W.fnOf "law" "law" (defArgs sLaw) (defBody sLaw) (defScope sLaw) .none kVq11 dcq11 pmq11 anq11 cdq11 ctq11), slq11⟩) (cq11 : PySem.W.codeIn K cdq11 "law" = true) (kq11 : PySem.W.keepIn K (.ref fq11) = true)
    {fq12 : Addr} {odq12 anq12 : Option Addr} {slq12 : Array (Option Value)} {ocq12 kVq12 dcq12 pmq12 cdq12 ctq12 : Value}
    (aq12 : PySem.W.nsIn K mainGlobals "is_claim" = some (some (.ref fq12))) (lq12 : K.lookup fq12 = some ⟨ocq12, odq12, .func (PySem.W.fnOf "is_claim" "is_claim" (defArgs sIsClaim) (defBody sIsClaim) (defScope sIsClaim) .none kVq12 dcq12 pmq12 anq12 cdq12 ctq12), slq12⟩) (cq12 : PySem.W.codeIn K cdq12 "is_claim" = true) (kq12 : PySem.W.keepIn K (.ref fq12) = true)
    {fq13 : Addr} {odq13 anq13 : Option Addr} {slq13 : Array (Option Value)} {ocq13 kVq13 dcq13 pmq13 cdq13 ctq13 : Value}
    (aq13 : PySem.W.nsIn K mainGlobals "check_claims" = some (some (.ref fq13))) (lq13 : K.lookup fq13 = some ⟨ocq13, odq13, .func (PySem.W.fnOf "check_claims" "check_claims" (defArgs sCheckClaims) (defBody sCheckClaims) (defScope sCheckClaims) .none kVq13 dcq13 pmq13 anq13 cdq13 ctq13), slq13⟩) (cq13 : PySem.W.codeIn K cdq13 "check_claims" = true) (kq13 : PySem.W.keepIn K (.ref fq13) = true)
    {fq14 : Addr} {odq14 anq14 : Option Addr} {slq14 : Array (Option Value)} {ocq14 kVq14 dcq14 pmq14 cdq14 ctq14 : Value}
    (aq14 : PySem.W.nsIn K mainGlobals "check_balances" = some (some (.ref fq14))) (lq14 : K.lookup fq14 = some ⟨ocq14, odq14, .func (PySem.W.fnOf "check_balances" "check_balances" (defArgs sCheckBalances) (defBody sCheckBalances) (defScope sCheckBalances) .none kVq14 dcq14 pmq14 anq14 cdq14 ctq14), slq14⟩) (cq14 : PySem.W.codeIn K cdq14 "check_balances" = true) (kq14 : PySem.W.keepIn K (.ref fq14) = true)
    {fq15 : Addr} {odq15 anq15 : Option Addr} {slq15 : Array (Option Value)} {ocq15 kVq15 dcq15 pmq15 cdq15 ctq15 : Value}
    (aq15 : PySem.W.nsIn K mainGlobals "totals_of" = some (some (.ref fq15))) (lq15 : K.lookup fq15 = some ⟨ocq15, odq15, .func (PySem.W.fnOf "totals_of" "totals_of" (defArgs sTotalsOf) (defBody sTotalsOf) (defScope sTotalsOf) .none kVq15 dcq15 pmq15 anq15 cdq15 ctq15), slq15⟩) (cq15 : PySem.W.codeIn K cdq15 "totals_of" = true) (kq15 : PySem.W.keepIn K (.ref fq15) = true)
    {fq16 : Addr} {odq16 anq16 : Option Addr} {slq16 : Array (Option Value)} {ocq16 kVq16 dcq16 pmq16 cdq16 ctq16 : Value}
    (aq16 : PySem.W.nsIn K mainGlobals "_law_up" = some (some (.ref fq16))) (lq16 : K.lookup fq16 = some ⟨ocq16, odq16, .func (PySem.W.fnOf "_law_up" "_law_up" (defArgs sLUp) (defBody sLUp) (defScope sLUp) .none kVq16 dcq16 pmq16 anq16 cdq16 ctq16), slq16⟩) (cq16 : PySem.W.codeIn K cdq16 "_law_up" = true) (kq16 : PySem.W.keepIn K (.ref fq16) = true)
    {fq17 : Addr} {odq17 anq17 : Option Addr} {slq17 : Array (Option Value)} {ocq17 kVq17 dcq17 pmq17 cdq17 ctq17 : Value}
    (aq17 : PySem.W.nsIn K mainGlobals "check_spent" = some (some (.ref fq17))) (lq17 : K.lookup fq17 = some ⟨ocq17, odq17, .func (PySem.W.fnOf "check_spent" "check_spent" (defArgs sCheckSpent) (defBody sCheckSpent) (defScope sCheckSpent) .none kVq17 dcq17 pmq17 anq17 cdq17 ctq17), slq17⟩) (cq17 : PySem.W.codeIn K cdq17 "check_spent" = true) (kq17 : PySem.W.keepIn K (.ref fq17) = true)
    {fq18 : Addr} {odq18 anq18 : Option Addr} {slq18 : Array (Option Value)} {ocq18 kVq18 dcq18 pmq18 cdq18 ctq18 : Value}
    (aq18 : PySem.W.nsIn K mainGlobals "unspent" = some (some (.ref fq18))) (lq18 : K.lookup fq18 = some ⟨ocq18, odq18, .func (PySem.W.fnOf "unspent" "unspent" (defArgs sUnspent) (defBody sUnspent) (defScope sUnspent) .none kVq18 dcq18 pmq18 anq18 cdq18 ctq18), slq18⟩) (cq18 : PySem.W.codeIn K cdq18 "unspent" = true) (kq18 : PySem.W.keepIn K (.ref fq18) = true)
    {fq19 : Addr} {odq19 anq19 : Option Addr} {slq19 : Array (Option Value)} {ocq19 kVq19 dcq19 pmq19 cdq19 ctq19 : Value}
    (aq19 : PySem.W.nsIn K mainGlobals "first_overdrawn" = some (some (.ref fq19))) (lq19 : K.lookup fq19 = some ⟨ocq19, odq19, .func (PySem.W.fnOf "first_overdrawn" "first_overdrawn" (defArgs sFirstOverdrawn) (defBody sFirstOverdrawn) (defScope sFirstOverdrawn) .none kVq19 dcq19 pmq19 anq19 cdq19 ctq19), slq19⟩) (cq19 : PySem.W.codeIn K cdq19 "first_overdrawn" = true) (kq19 : PySem.W.keepIn K (.ref fq19) = true)
    {fq20 : Addr} {odq20 anq20 : Option Addr} {slq20 : Array (Option Value)} {ocq20 kVq20 dcq20 pmq20 cdq20 ctq20 : Value}
    (aq20 : PySem.W.nsIn K mainGlobals "pay" = some (some (.ref fq20))) (lq20 : K.lookup fq20 = some ⟨ocq20, odq20, .func (PySem.W.fnOf "pay" "pay" (defArgs sPay) (defBody sPay) (defScope sPay) .none kVq20 dcq20 pmq20 anq20 cdq20 ctq20), slq20⟩) (cq20 : PySem.W.codeIn K cdq20 "pay" = true) (kq20 : PySem.W.keepIn K (.ref fq20) = true)
    {fq21 : Addr} {odq21 anq21 : Option Addr} {slq21 : Array (Option Value)} {ocq21 kVq21 dcq21 pmq21 cdq21 ctq21 : Value}
    (aq21 : PySem.W.nsIn K mainGlobals "make_plan" = some (some (.ref fq21))) (lq21 : K.lookup fq21 = some ⟨ocq21, odq21, .func (PySem.W.fnOf "make_plan" "make_plan" (defArgs sMakePlan) (defBody sMakePlan) (defScope sMakePlan) .none kVq21 dcq21 pmq21 anq21 cdq21 ctq21), slq21⟩) (cq21 : PySem.W.codeIn K cdq21 "make_plan" = true) (kq21 : PySem.W.keepIn K (.ref fq21) = true)
    {fq22 : Addr} {odq22 anq22 : Option Addr} {slq22 : Array (Option Value)} {ocq22 kVq22 dcq22 pmq22 cdq22 ctq22 : Value}
    (aq22 : PySem.W.nsIn K mainGlobals "fund" = some (some (.ref fq22))) (lq22 : K.lookup fq22 = some ⟨ocq22, odq22, .func (PySem.W.fnOf "fund" "fund" (defArgs sFund) (defBody sFund) (defScope sFund) .none kVq22 dcq22 pmq22 anq22 cdq22 ctq22), slq22⟩) (cq22 : PySem.W.codeIn K cdq22 "fund" = true) (kq22 : PySem.W.keepIn K (.ref fq22) = true)
    {fq23 : Addr} {odq23 anq23 : Option Addr} {slq23 : Array (Option Value)} {ocq23 kVq23 dcq23 pmq23 cdq23 ctq23 : Value}
    (aq23 : PySem.W.nsIn K mainGlobals "_law_turned" = some (some (.ref fq23))) (lq23 : K.lookup fq23 = some ⟨ocq23, odq23, .func (PySem.W.fnOf "_law_turned" "_law_turned" (defArgs sLTurned) (defBody sLTurned) (defScope sLTurned) .none kVq23 dcq23 pmq23 anq23 cdq23 ctq23), slq23⟩) (cq23 : PySem.W.codeIn K cdq23 "_law_turned" = true) (kq23 : PySem.W.keepIn K (.ref fq23) = true)
    {fq24 : Addr} {odq24 anq24 : Option Addr} {slq24 : Array (Option Value)} {ocq24 kVq24 dcq24 pmq24 cdq24 ctq24 : Value}
    (aq24 : PySem.W.nsIn K mainGlobals "_law_is_augmented" = some (some (.ref fq24))) (lq24 : K.lookup fq24 = some ⟨ocq24, odq24, .func (PySem.W.fnOf "_law_is_augmented" "_law_is_augmented" (defArgs sLIsAugmented) (defBody sLIsAugmented) (defScope sLIsAugmented) .none kVq24 dcq24 pmq24 anq24 cdq24 ctq24), slq24⟩) (cq24 : PySem.W.codeIn K cdq24 "_law_is_augmented" = true) (kq24 : PySem.W.keepIn K (.ref fq24) = true)
    {fq25 : Addr} {odq25 anq25 : Option Addr} {slq25 : Array (Option Value)} {ocq25 kVq25 dcq25 pmq25 cdq25 ctq25 : Value}
    (aq25 : PySem.W.nsIn K mainGlobals "_law_units" = some (some (.ref fq25))) (lq25 : K.lookup fq25 = some ⟨ocq25, odq25, .func (PySem.W.fnOf "_law_units" "_law_units" (defArgs sLUnits) (defBody sLUnits) (defScope sLUnits) .none kVq25 dcq25 pmq25 anq25 cdq25 ctq25), slq25⟩) (cq25 : PySem.W.codeIn K cdq25 "_law_units" = true) (kq25 : PySem.W.keepIn K (.ref fq25) = true)
    {fq26 : Addr} {odq26 anq26 : Option Addr} {slq26 : Array (Option Value)} {ocq26 kVq26 dcq26 pmq26 cdq26 ctq26 : Value}
    (aq26 : PySem.W.nsIn K mainGlobals "_law_is_matched" = some (some (.ref fq26))) (lq26 : K.lookup fq26 = some ⟨ocq26, odq26, .func (PySem.W.fnOf "_law_is_matched" "_law_is_matched" (defArgs sLIsMatched) (defBody sLIsMatched) (defScope sLIsMatched) .none kVq26 dcq26 pmq26 anq26 cdq26 ctq26), slq26⟩) (cq26 : PySem.W.codeIn K cdq26 "_law_is_matched" = true) (kq26 : PySem.W.keepIn K (.ref fq26) = true)
    {fq27 : Addr} {odq27 anq27 : Option Addr} {slq27 : Array (Option Value)} {ocq27 kVq27 dcq27 pmq27 cdq27 ctq27 : Value}
    (aq27 : PySem.W.nsIn K mainGlobals "_law_is_matching" = some (some (.ref fq27))) (lq27 : K.lookup fq27 = some ⟨ocq27, odq27, .func (PySem.W.fnOf "_law_is_matching" "_law_is_matching" (defArgs sLIsMatching) (defBody sLIsMatching) (defScope sLIsMatching) .none kVq27 dcq27 pmq27 anq27 cdq27 ctq27), slq27⟩) (cq27 : PySem.W.codeIn K cdq27 "_law_is_matching" = true) (kq27 : PySem.W.keepIn K (.ref fq27) = true)
    {C : Addr} (aC : PySem.W.nsIn K mainGlobals "Forest" = some (some (.ref C)))
    {fI : Addr} {odI anI : Option Addr} {slI : Array (Option Value)} {ocI kVI dcI pmI cdI ctI : Value}
    (aI : PySem.W.findIn K (.ref C) "__init__" = some (some (.ref fI))) (iI : PySem.W.isFn K (.ref fI) = true)
    (lI : K.lookup fI = some ⟨ocI, odI, .func (PySem.W.fnOf "__init__" "Forest.__init__" (defArgs sInit) (defBody sInit) (defScope sInit) .none kVI dcI pmI anI cdI ctI), slI⟩) (cI : PySem.W.codeIn K cdI "Forest.__init__" = true) (kI : PySem.W.keepIn K (.ref fI) = true)
    {fS : Addr} {odS anS : Option Addr} {slS : Array (Option Value)} {ocS kVS dcS pmS cdS ctS : Value}
    {pS : Addr} {rrS : List Value} (aS : PySem.W.findIn K (.ref C) "names" = some (some (.ref pS))) (gS : PySem.W.specialIn K (.ref pS) "__get__" = some (some (.builtin "property.__get__"))) (tS : PySem.W.takesIn K (.ref pS) = some true) (rS : PySem.W.recIn K pS "property" = some (.ref fS :: rrS))
    (lS : K.lookup fS = some ⟨ocS, odS, .func (PySem.W.fnOf "names" "Forest.names" (defArgs sNames) (defBody sNames) (defScope sNames) .none kVS dcS pmS anS cdS ctS), slS⟩) (cS : PySem.W.codeIn K cdS "Forest.names" = true) (kS : PySem.W.keepIn K (.ref fS) = true)
    {fA : Addr} {odA anA : Option Addr} {slA : Array (Option Value)} {ocA kVA dcA pmA cdA ctA : Value}
    (aA : PySem.W.findIn K (.ref C) "ancestors" = some (some (.ref fA))) (iA : PySem.W.isFn K (.ref fA) = true)
    (lA : K.lookup fA = some ⟨ocA, odA, .func (PySem.W.fnOf "ancestors" "Forest.ancestors" (defArgs sAnc) (defBody sAnc) (defScope sAnc) .none kVA dcA pmA anA cdA ctA), slA⟩) (cA : PySem.W.codeIn K cdA "Forest.ancestors" = true) (kA : PySem.W.keepIn K (.ref fA) = true)
    {fU : Addr} {odU anU : Option Addr} {slU : Array (Option Value)} {ocU kVU dcU pmU cdU ctU : Value}
    (aU : PySem.W.findIn K (.ref C) "subtree" = some (some (.ref fU))) (iU : PySem.W.isFn K (.ref fU) = true)
    (lU : K.lookup fU = some ⟨ocU, odU, .func (PySem.W.fnOf "subtree" "Forest.subtree" (defArgs sSub) (defBody sSub) (defScope sSub) .none kVU dcU pmU anU cdU ctU), slU⟩) (cU : PySem.W.codeIn K cdU "Forest.subtree" = true) (kU : PySem.W.keepIn K (.ref fU) = true)
    {tM : Tok}
    (pg : PySem.W.plainGet K C Str.empty = true)
    (hd : PySem.W.hasDictIn K C = true)
    (po : PySem.W.plainOver K C = true)
    (sa : PySem.W.findIn K (.ref C) "__setattr__" = some (some (.builtin "object.__setattr__")))
    (mk : PySem.W.makesIn K C = true)
    (kc : PySem.W.keepIn K (.ref C) = true)
    (nP : PySem.W.findIn K (.ref C) "_parents" = some none)
    (rd : PySem.W.readsIn K C (.type "type") = true)
    (ga : PySem.W.specialIn K (.ref C) "__getattribute__" = some (some (.builtin "type.__getattribute__")))
    (mo : PySem.W.findCls K (.ref C) (.type "type") "MOST" = some (.val (.int 8 tM)))
    (ha : PySem.W.findIn K (.ref C) "__class__" = some (some (.builtin "object.__class__")))
    (hn : PySem.W.specialIn K (.builtin "object.__class__") "__get__" = some (some (.builtin "getset_descriptor.__get__")))
    (ht : PySem.W.takesIn K (.builtin "object.__class__") = some true)
    (hm : PySem.W.mroIn K C (.type "object") = some true)
    {tk0 : Tok} (kg0 : PySem.W.nsIn K mainGlobals "LETTERS" = some (some (.str letters tk0)))
    {tk1 : Tok} (kg1 : PySem.W.nsIn K mainGlobals "LONGEST" = some (some (.int 8 tk1)))
    {tk2 : Tok} (kg2 : PySem.W.nsIn K mainGlobals "LARGEST" = some (some (.int 1000000000 tk2)))
    {tk3 : Tok} (kg3 : PySem.W.nsIn K mainGlobals "MOST_CLAIMS" = some (some (.int 20 tk3)))
    {tk4 : Tok} (kg4 : PySem.W.nsIn K mainGlobals "MOST_BALANCE" = some (some (.int 1000000000000 tk4)))
    (z0 : PySem.W.nsIn K mainGlobals "isinstance" = some none)
    (z1 : PySem.W.nsIn K mainGlobals "str" = some none)
    (z2 : PySem.W.nsIn K mainGlobals "int" = some none)
    (z3 : PySem.W.nsIn K mainGlobals "bool" = some none)
    (z4 : PySem.W.nsIn K mainGlobals "list" = some none)
    (z5 : PySem.W.nsIn K mainGlobals "tuple" = some none)
    (z6 : PySem.W.nsIn K mainGlobals "dict" = some none)
    (z7 : PySem.W.nsIn K mainGlobals "len" = some none)
    (z8 : PySem.W.nsIn K mainGlobals "all" = some none)
    (z9 : PySem.W.nsIn K mainGlobals "enumerate" = some none)
    (z10 : PySem.W.nsIn K mainGlobals "range" = some none)
    (z11 : PySem.W.nsIn K mainGlobals "min" = some none)
    (z12 : PySem.W.nsIn K mainGlobals "zip" = some none)
    (z13 : PySem.W.nsIn K mainGlobals "repr" = some none)
    (z14 : PySem.W.nsIn K mainGlobals "reversed" = some none)
    (z15 : PySem.W.nsIn K mainGlobals "sorted" = some none)
    (z16 : PySem.W.nsIn K mainGlobals "sum" = some none)
    : ∃ fd : FuncData, Fun K "law" "law" sLaw fa fd ∧ (∀ (s : Shared) (u : Value), BindsTo s fd ⟨[u], []⟩ [("_law_script", u)]) ∧
      ∀ (base : Heap) (A : Around) (s : Shared) (H : Hp) (cdv : Value) (a : Addr) (ns : List Int), ns.length ≤ 63 → Bed K mg base A → Room 7 (A.deeper (envOfC "law" (defScope sLaw) s.heap.objs.size fa cdv)) → SqL K H a (ns.map V.int) →
        ∃ t, PSs (cxOf CX0 P w K mg base nLaw "law" (defScope sLaw) fa cdv A [] s H E0).nox (defBody sLaw) t ∧ t { nx := fun _ _ => False, rt := fun v _ => v = .bl true } (L2.start nLaw [.ref a]) H := by
  have e := hfa.symm.trans (PySem.W.mg_of X G aq11)
  cases e
  have Fq0 := fun_mk (st := sBegun) lq0 cq0 kq0
  have mq0 := PySem.W.mg_of X G aq0
  have bq0 := Fq0.binds (ps := ["_law_script"]) fun _ _ _ _ _ _ us hl => match us, hl with | [_], _ => rfl
  have Fq1 := fun_mk (st := sMixed) lq1 cq1 kq1
  have mq1 := PySem.W.mg_of X G aq1
  have bq1 := Fq1.binds (ps := ["_law_state"]) fun _ _ _ _ _ _ us hl => match us, hl with | [_], _ => rfl
  have Fq2 := fun_mk (st := sTake) lq2 cq2 kq2
  have mq2 := PySem.W.mg_of X G aq2
  have bq2 := Fq2.binds (ps := ["_law_state", "_law_size"]) fun _ _ _ _ _ _ us hl => match us, hl with | [_, _], _ => rfl
  have Fq3 := fun_mk (st := sPick) lq3 cq3 kq3
  have mq3 := PySem.W.mg_of X G aq3
  have bq3 := Fq3.binds (ps := ["_law_state", "_law_some"]) fun _ _ _ _ _ _ us hl => match us, hl with | [_, _], _ => rfl
  have Fq4 := fun_mk (st := sWords) lq4 cq4 kq4
  have mq4 := PySem.W.mg_of X G aq4
  have bq4 := Fq4.binds (ps := ["_law_state", "_law_size"]) fun _ _ _ _ _ _ us hl => match us, hl with | [_, _], _ => rfl
  have Fq5 := fun_mk (st := sForest) lq5 cq5 kq5
  have mq5 := PySem.W.mg_of X G aq5
  have bq5 := Fq5.binds (ps := ["_law_state", "_law_most"]) fun _ _ _ _ _ _ us hl => match us, hl with | [_, _], _ => rfl
  have Fq6 := fun_mk (st := sInt) lq6 cq6 kq6
  have mq6 := PySem.W.mg_of X G aq6
  have bq6 := Fq6.binds (ps := ["value"]) fun _ _ _ _ _ _ us hl => match us, hl with | [_], _ => rfl
  have Fq7 := fun_mk (st := sName) lq7 cq7 kq7
  have mq7 := PySem.W.mg_of X G aq7
  have bq7 := Fq7.binds (ps := ["value"]) fun _ _ _ _ _ _ us hl => match us, hl with | [_], _ => rfl
  have Fq8 := fun_mk (st := sAmount) lq8 cq8 kq8
  have mq8 := PySem.W.mg_of X G aq8
  have bq8 := Fq8.binds (ps := ["value"]) fun _ _ _ _ _ _ us hl => match us, hl with | [_], _ => rfl
  have Fq9 := fun_mk (st := sRow) lq9 cq9 kq9
  have mq9 := PySem.W.mg_of X G aq9
  have bq9 := Fq9.binds (ps := ["value", "earlier"]) fun _ _ _ _ _ _ us hl => match us, hl with | [_, _], _ => rfl
  have Fq10 := fun_mk (st := sWrong) lq10 cq10 kq10
  have mq10 := PySem.W.mg_of X G aq10
  have bq10 := Fq10.binds (ps := ["rows"]) fun _ _ _ _ _ _ us hl => match us, hl with | [_], _ => rfl
  have Fq11 := fun_mk (st := sLaw) lq11 cq11 kq11
  have mq11 := PySem.W.mg_of X G aq11
  have bq11 := Fq11.binds (ps := ["_law_script"]) fun _ _ _ _ _ _ us hl => match us, hl with | [_], _ => rfl
  have Fq12 := fun_mk (st := sIsClaim) lq12 cq12 kq12
  have mq12 := PySem.W.mg_of X G aq12
  have bq12 := Fq12.binds (ps := ["forest", "value"]) fun _ _ _ _ _ _ us hl => match us, hl with | [_, _], _ => rfl
  have Fq13 := fun_mk (st := sCheckClaims) lq13 cq13 kq13
  have mq13 := PySem.W.mg_of X G aq13
  have bq13 := Fq13.binds (ps := ["forest", "claims"]) fun _ _ _ _ _ _ us hl => match us, hl with | [_, _], _ => rfl
  have Fq14 := fun_mk (st := sCheckBalances) lq14 cq14 kq14
  have mq14 := PySem.W.mg_of X G aq14
  have bq14 := Fq14.binds (ps := ["forest", "balances"]) fun _ _ _ _ _ _ us hl => match us, hl with | [_, _], _ => rfl
  have Fq15 := fun_mk (st := sTotalsOf) lq15 cq15 kq15
  have mq15 := PySem.W.mg_of X G aq15
  have bq15 := Fq15.binds (ps := ["forest", "balances"]) fun _ _ _ _ _ _ us hl => match us, hl with | [_, _], _ => rfl
  have Fq16 := fun_mk (st := sLUp) lq16 cq16 kq16
  have mq16 := PySem.W.mg_of X G aq16
  have bq16 := Fq16.binds (ps := ["_law_rows", "_law_name"]) fun _ _ _ _ _ _ us hl => match us, hl with | [_, _], _ => rfl
  have Fq17 := fun_mk (st := sCheckSpent) lq17 cq17 kq17
  have mq17 := PySem.W.mg_of X G aq17
  have bq17 := Fq17.binds (ps := ["claims", "spent"]) fun _ _ _ _ _ _ us hl => match us, hl with | [_, _], _ => rfl
  have Fq18 := fun_mk (st := sUnspent) lq18 cq18 kq18
  have mq18 := PySem.W.mg_of X G aq18
  have bq18 := Fq18.binds (ps := ["forest", "claims", "spent", "balances"]) fun _ _ _ _ _ _ us hl => match us, hl with | [_, _, _, _], _ => rfl
  have Fq19 := fun_mk (st := sFirstOverdrawn) lq19 cq19 kq19
  have mq19 := PySem.W.mg_of X G aq19
  have bq19 := Fq19.binds (ps := ["forest", "claims", "spent", "balances"]) fun _ _ _ _ _ _ us hl => match us, hl with | [_, _, _, _], _ => rfl
  have Fq20 := fun_mk (st := sPay) lq20 cq20 kq20
  have mq20 := PySem.W.mg_of X G aq20
  have bq20 := Fq20.binds (ps := ["left", "names", "due"]) fun _ _ _ _ _ _ us hl => match us, hl with | [_, _, _], _ => rfl
  have Fq21 := fun_mk (st := sMakePlan) lq21 cq21 kq21
  have mq21 := PySem.W.mg_of X G aq21
  have bq21 := Fq21.binds (ps := ["forest", "claims", "spent", "balances"]) fun _ _ _ _ _ _ us hl => match us, hl with | [_, _, _, _], _ => rfl
  have Fq22 := fun_mk (st := sFund) lq22 cq22 kq22
  have mq22 := PySem.W.mg_of X G aq22
  have bq22 := Fq22.binds (ps := ["forest", "claims", "spent", "balances"]) fun _ _ _ _ _ _ us hl => match us, hl with | [_, _, _, _], _ => rfl
  have Fq23 := fun_mk (st := sLTurned) lq23 cq23 kq23
  have mq23 := PySem.W.mg_of X G aq23
  have bq23 := Fq23.binds (ps := ["_law_owner", "_law_before", "_law_at", "_law_first"]) fun _ _ _ _ _ _ us hl => match us, hl with | [_, _, _, _], _ => rfl
  have Fq24 := fun_mk (st := sLIsAugmented) lq24 cq24 kq24
  have mq24 := PySem.W.mg_of X G aq24
  have bq24 := Fq24.binds (ps := ["_law_rows", "_law_wants", "_law_money", "_law_owner", "_law_first"]) fun _ _ _ _ _ _ us hl => match us, hl with | [_, _, _, _, _], _ => rfl
  have Fq25 := fun_mk (st := sLUnits) lq25 cq25 kq25
  have mq25 := PySem.W.mg_of X G aq25
  have bq25 := Fq25.binds (ps := ["_law_pairs"]) fun _ _ _ _ _ _ us hl => match us, hl with | [_], _ => rfl
  have Fq26 := fun_mk (st := sLIsMatched) lq26 cq26 kq26
  have mq26 := PySem.W.mg_of X G aq26
  have bq26 := Fq26.binds (ps := ["_law_rows", "_law_claims", "_law_spent", "_law_balances"]) fun _ _ _ _ _ _ us hl => match us, hl with | [_, _, _, _], _ => rfl
  have Fq27 := fun_mk (st := sLIsMatching) lq27 cq27 kq27
  have mq27 := PySem.W.mg_of X G aq27
  have bq27 := Fq27.binds (ps := ["_law_rows", "_law_claims", "_law_spent", "_law_balances", "_law_plan"]) fun _ _ _ _ _ _ us hl => match us, hl with | [_, _, _, _, _], _ => rfl
  have FI := fun_mk (st := sInit) lI cI kI
  have bI := FI.binds (ps := ["self", "rows"]) fun _ _ _ _ _ _ us hl => match us, hl with | [_, _], _ => rfl
  have FS := fun_mk (st := sNames) lS cS kS
  have bS := FS.binds (ps := ["self"]) fun _ _ _ _ _ _ us hl => match us, hl with | [_], _ => rfl
  have FA := fun_mk (st := sAnc) lA cA kA
  have bA := FA.binds (ps := ["self", "name"]) fun _ _ _ _ _ _ us hl => match us, hl with | [_, _], _ => rfl
  have FU := fun_mk (st := sSub) lU cU kU
  have bU := FU.binds (ps := ["self", "name"]) fun _ _ _ _ _ _ us hl => match us, hl with | [_, _], _ => rfl
  have Z0 : FC K mg C fI (.type "type") := ⟨⟨pg, hd, po, sa⟩, ⟨mk, aI, iI, kc⟩, nP, ⟨rd, ga⟩, ⟨_, mo, ⟨_, rfl⟩⟩, ha, hn, ht, hm, kit_self, PySem.W.mg_of X G aC⟩
  have T : Names mg := ⟨(PySem.W.mg_none_of X G z0), (PySem.W.mg_none_of X G z1), (PySem.W.mg_none_of X G z2), (PySem.W.mg_none_of X G z3), (PySem.W.mg_none_of X G z4), (PySem.W.mg_none_of X G z5), (PySem.W.mg_none_of X G z6), (PySem.W.mg_none_of X G z7), (PySem.W.mg_none_of X G z8), (PySem.W.mg_none_of X G z9), (PySem.W.mg_none_of X G z10), (PySem.W.mg_none_of X G z11), (PySem.W.mg_none_of X G z12), (PySem.W.mg_none_of X G z13), ⟨_, PySem.W.mg_of X G kg0⟩, ⟨_, PySem.W.mg_of X G kg1⟩, ⟨_, PySem.W.mg_of X G kg2⟩⟩
  refine ⟨_, Fq11, fun s v => .of_eq rfl, fun base A s H cdv a ns hl B hr hS => ?_⟩
  have GM : FnOk P w K mg base CX0 1 _ _ ["_law_state"] (spMixed ns) := ok_mixed ns Fq1
  have GT : FnOk P w K mg base CX0 2 _ _ ["_law_state", "_law_size"] (spTake ns) := ok_take ns Fq2 GM bq1 kq1 mq1
  have GP : FnOk P w K mg base CX0 3 _ _ ["_law_state", "_law_some"] (spPick K ns) := ok_pick ns Fq3 GT bq2 kq2 mq2 T.len
  have R : Draw P w K mg base ns fq2 fq3 _ _ := ⟨GT, bq2, kq2, mq2, GP, bq3, kq3, mq3, T.len, T.range⟩
  have GW := ok_words (P := P) (w := w) (base := base) ns Fq4 R
  have GF := ok_forest (P := P) (w := w) (base := base) ns Fq5 R GW bq4 kq4 mq4
  have GN : FnOk P w K mg base CX0 1 _ _ ["value"] spName := ok_name Fq7 T
  have GO := ok_row (P := P) (w := w) (base := base) Fq9 T GN bq7 kq7 mq7
  have GX := ok_wrong (P := P) (w := w) (base := base) Fq10 T GO bq9 kq9 mq9
  have GI := ok_init (P := P) (w := w) (base := base) FI T Z0 GX bq10 kq10 mq10
  have GS := ok_names (P := P) (w := w) (base := base) FS T Z0
  have hS' : PropOf K C "names" pS fS := ⟨aS, gS, tS, ⟨_, rS⟩⟩
  have GA := ok_anc (P := P) (w := w) (base := base) FA T Z0 hS' GS bS
  have Z : Fo P w K mg base C fI pS fS fA (.type "type") _ _ := ⟨Z0, hS', GS, bS, ⟨aA, iA, kA⟩, GA, bA⟩
  have GJ := ok_int (P := P) (w := w) (base := base) Fq6 T
  have GQ := ok_amount (P := P) (w := w) (base := base) Fq8 T GJ bq6 kq6 mq6
  have GC := ok_isClaim (P := P) (w := w) (base := base) Fq12 T Z GJ bq6 kq6 mq6 GQ bq8 kq8 mq8
  have GCC := ok_ckClaims (P := P) (w := w) (base := base) Fq13 T ⟨_, PySem.W.mg_of X G kg3⟩ GC bq12 kq12 mq12
  have GCB := ok_ckBal (P := P) (w := w) (base := base) Fq14 T Z ⟨_, PySem.W.mg_of X G kg4⟩ GJ bq6 kq6 mq6
  have GTO := ok_totOf (P := P) (w := w) (base := base) Fq15 Z
  have GU := ok_up (P := P) (w := w) (base := base) Fq16 T
  have GSk := ok_ckSp (P := P) (w := w) (base := base) Fq17 T GJ bq6 kq6 mq6
  have GUn := ok_unsp (P := P) (w := w) (base := base) Fq18 T Z GTO bq15 kq15 mq15
  have GFi := ok_first (P := P) (w := w) (base := base) Fq19 T Z GUn bq18 kq18 mq18
  have GPy := ok_pay (P := P) (w := w) (base := base) Fq20 T
  have GSb := ok_sub (P := P) (w := w) (base := base) FU T Z
  have GPl := ok_plan (P := P) (w := w) (base := base) Fq21 T (PySem.W.mg_none_of X G z14) (PySem.W.mg_none_of X G z15) Z ⟨aU, iU, kU⟩ GSb bU GPy bq20 kq20 mq20
  have GFd := ok_fund (P := P) (w := w) (base := base) Fq22 GCC bq13 kq13 mq13 GSk bq17 kq17 mq17 GCB bq14 kq14 mq14 GFi bq19 kq19 mq19 GPl bq21 kq21 mq21
  have GTn := ok_turned (P := P) (w := w) (base := base) Fq23 T
  have GAu := ok_aug (P := P) (w := w) (base := base) Fq24 T GU bq16 kq16 mq16 GTn bq23 kq23 mq23
  have GUs := ok_units (P := P) (w := w) (base := base) Fq25 T
  have GMd := ok_matched (P := P) (w := w) (base := base) Fq26 T GUs bq25 kq25 mq25 GAu bq24 kq24 mq24
  have GMg := ok_matching (P := P) (w := w) (base := base) Fq27 T (PySem.W.mg_none_of X G z15) GUs bq25 kq25 mq25 GU bq16 kq16 mq16
  exact ok_law hl B hr hS R T (PySem.W.mg_none_of X G z16) Z0 GI bI (ok_begun ns Fq0 T.list) bq0 kq0 mq0 GF bq5 kq5 mq5 GU bq16 kq16 mq16 GMd bq26 kq26 mq26 GMg bq27 kq27 mq27 GFd bq22 kq22 mq22
end Lw
open PySem PySem.W PyProof.Rows
set_option maxRecDepth 100000 in
set_option maxHeartbeats 0 in
theorem PySem.Challenge.cw_hearpurse_k13_whole_units_matched_holds : PySem.Challenge.rw_hearpurse_k13_whole_units_matched.Holds := by
  w_on; o_law; k_head; (case hw => w_witness2)
  k_fill
  refine Ge.walk_law (l := PySem.Challenge.rw_hearpurse_k13_whole_units_matched) (n := 63) (k := 7) (x := "_law_script") (st := Lw.sLaw) (N := Lw.nLaw) rfl (by decide) rfl ⟨rfl, by decide, by decide⟩ (by decide +kernel) Lw.scLaw (fun w h Y => PySem.W.kIn_of Y) ?F
  case F =>
    intro w mg fa h KX G hmg
    refine' Lw.all_mk KX G hmg ?aq0 ?lq0 ?cq0 ?kq0 ?aq1 ?lq1 ?cq1 ?kq1 ?aq2 ?lq2 ?cq2 ?kq2 ?aq3 ?lq3 ?cq3 ?kq3 ?aq4 ?lq4 ?cq4 ?kq4 ?aq5 ?lq5 ?cq5 ?kq5 ?aq6 ?lq6 ?cq6 ?kq6 ?aq7 ?lq7 ?cq7 ?kq7 ?aq8 ?lq8 ?cq8 ?kq8 ?aq9 ?lq9 ?cq9 ?kq9 ?aq10 ?lq10 ?cq10 ?kq10 ?aq11 ?lq11 ?cq11 ?kq11 ?aq12 ?lq12 ?cq12 ?kq12 ?aq13 ?lq13 ?cq13 ?kq13 ?aq14 ?lq14 ?cq14 ?kq14 ?aq15 ?lq15 ?cq15 ?kq15 ?aq16 ?lq16 ?cq16 ?kq16 ?aq17 ?lq17 ?cq17 ?kq17 ?aq18 ?lq18 ?cq18 ?kq18 ?aq19 ?lq19 ?cq19 ?kq19 ?aq20 ?lq20 ?cq20 ?kq20 ?aq21 ?lq21 ?cq21 ?kq21 ?aq22 ?lq22 ?cq22 ?kq22 ?aq23 ?lq23 ?cq23 ?kq23 ?aq24 ?lq24 ?cq24 ?kq24 ?aq25 ?lq25 ?cq25 ?kq25 ?aq26 ?lq26 ?cq26 ?kq26 ?aq27 ?lq27 ?cq27 ?kq27 ?aC ?aI ?iI ?lI ?cI ?kI ?aS ?gS ?tS ?rS ?lS ?cS ?kS ?aA ?iA ?lA ?cA ?kA ?aU ?iU ?lU ?cU ?kU ?pg ?hd ?po ?sa ?mk ?kc ?nP ?rd ?ga ?mo ?ha ?hn ?ht ?hm ?kg0 ?kg1 ?kg2 ?kg3 ?kg4 ?z0 ?z1 ?z2 ?z3 ?z4 ?z5 ?z6 ?z7 ?z8 ?z9 ?z10 ?z11 ?z12 ?z13 ?z14 ?z15 ?z16
    (case aq0 => k_is)
    (case lq0 => k_is)
    (case cq0 => k_is)
    (case kq0 => k_is)
    (case aq1 => k_is)
    (case lq1 => k_is)
    (case cq1 => k_is)
    (case kq1 => k_is)
    (case aq2 => k_is)
    (case lq2 => k_is)
    (case cq2 => k_is)
    (case kq2 => k_is)
    (case aq3 => k_is)
    (case lq3 => k_is)
    (case cq3 => k_is)
    (case kq3 => k_is)
    (case aq4 => k_is)
    (case lq4 => k_is)
    (case cq4 => k_is)
    (case kq4 => k_is)
    (case aq5 => k_is)
    (case lq5 => k_is)
    (case cq5 => k_is)
    (case kq5 => k_is)
    (case aq6 => k_is)
    (case lq6 => k_is)
    (case cq6 => k_is)
    (case kq6 => k_is)
    (case aq7 => k_is)
    (case lq7 => k_is)
    (case cq7 => k_is)
    (case kq7 => k_is)
    (case aq8 => k_is)
    (case lq8 => k_is)
    (case cq8 => k_is)
    (case kq8 => k_is)
    (case aq9 => k_is)
    (case lq9 => k_is)
    (case cq9 => k_is)
    (case kq9 => k_is)
    (case aq10 => k_is)
    (case lq10 => k_is)
    (case cq10 => k_is)
    (case kq10 => k_is)
    (case aq11 => k_is)
    (case lq11 => k_is)
    (case cq11 => k_is)
    (case kq11 => k_is)
    (case aq12 => k_is)
    (case lq12 => k_is)
    (case cq12 => k_is)
    (case kq12 => k_is)
    (case aq13 => k_is)
    (case lq13 => k_is)
    (case cq13 => k_is)
    (case kq13 => k_is)
    (case aq14 => k_is)
    (case lq14 => k_is)
    (case cq14 => k_is)
    (case kq14 => k_is)
    (case aq15 => k_is)
    (case lq15 => k_is)
    (case cq15 => k_is)
    (case kq15 => k_is)
    (case aq16 => k_is)
    (case lq16 => k_is)
    (case cq16 => k_is)
    (case kq16 => k_is)
    (case aq17 => k_is)
    (case lq17 => k_is)
    (case cq17 => k_is)
    (case kq17 => k_is)
    (case aq18 => k_is)
    (case lq18 => k_is)
    (case cq18 => k_is)
    (case kq18 => k_is)
    (case aq19 => k_is)
    (case lq19 => k_is)
    (case cq19 => k_is)
    (case kq19 => k_is)
    (case aq20 => k_is)
    (case lq20 => k_is)
    (case cq20 => k_is)
    (case kq20 => k_is)
    (case aq21 => k_is)
    (case lq21 => k_is)
    (case cq21 => k_is)
    (case kq21 => k_is)
    (case aq22 => k_is)
    (case lq22 => k_is)
    (case cq22 => k_is)
    (case kq22 => k_is)
    (case aq23 => k_is)
    (case lq23 => k_is)
    (case cq23 => k_is)
    (case kq23 => k_is)
    (case aq24 => k_is)
    (case lq24 => k_is)
    (case cq24 => k_is)
    (case kq24 => k_is)
    (case aq25 => k_is)
    (case lq25 => k_is)
    (case cq25 => k_is)
    (case kq25 => k_is)
    (case aq26 => k_is)
    (case lq26 => k_is)
    (case cq26 => k_is)
    (case kq26 => k_is)
    (case aq27 => k_is)
    (case lq27 => k_is)
    (case cq27 => k_is)
    (case kq27 => k_is)
    (case aC => k_is)
    (case aI => k_is)
    (case iI => k_is)
    (case lI => k_is)
    (case cI => k_is)
    (case kI => k_is)
    (case aS => k_is)
    (case gS => k_is)
    (case tS => k_is)
    (case rS => k_is)
    (case lS => k_is)
    (case cS => k_is)
    (case kS => k_is)
    (case aA => k_is)
    (case iA => k_is)
    (case lA => k_is)
    (case cA => k_is)
    (case kA => k_is)
    (case aU => k_is)
    (case iU => k_is)
    (case lU => k_is)
    (case cU => k_is)
    (case kU => k_is)
    (case pg => k_is)
    (case hd => k_is)
    (case po => k_is)
    (case sa => k_is)
    (case mk => k_is)
    (case kc => k_is)
    (case nP => k_is)
    (case rd => k_is)
    (case ga => k_is)
    (case mo => k_is)
    (case ha => k_is)
    (case hn => k_is)
    (case ht => k_is)
    (case hm => k_is)
    (case kg0 => k_is)
    (case kg1 => k_is)
    (case kg2 => k_is)
    (case kg3 => k_is)
    (case kg4 => k_is)
    (case z0 => k_is)
    (case z1 => k_is)
    (case z2 => k_is)
    (case z3 => k_is)
    (case z4 => k_is)
    (case z5 => k_is)
    (case z6 => k_is)
    (case z7 => k_is)
    (case z8 => k_is)
    (case z9 => k_is)
    (case z10 => k_is)
    (case z11 => k_is)
    (case z12 => k_is)
    (case z13 => k_is)
    (case z14 => k_is)
    (case z15 => k_is)
    (case z16 => k_is)

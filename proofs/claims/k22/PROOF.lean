import PyProof.Rows.All
import Wide.All
import OpenK.AllK
import Wide.FinOn
import HandS.Base
import HandS.Call
import HandS.List
import HandS.Comp
import HandS.Ends
import HandS.Dict
import HandS.Iter
import HandS.Words
import HandS.Wide
import PyProof.ReprRoads
import HandS.ForMost
import HandS.IsInst
import HandS.Walk
import PyProof.ReprLen
import PyProof.StrLawsRepr
import HandS.ClsMeth
import HandS.Property
import HandS.OwnEq
import HandS.DictComp
import HandS.Conv
import HandS.FStr
import PyProof.InstNe
import HandS.Text
import KE.KDictList
import HandS.Zip
import KE.GoesNew
import KE.GoesEnum
import PyProof.NeKinds
import KE.GoesEnumKw
import PyProof.Rows.CallKwBuiltin
import HandS.TupAny
import HandS.RaiseMore
import HandS.ExcOwn
import HandS.ExcInit
import HandS.Exc
import HandS.ExcValue
import HandS.ExcField
import HandS.ExcIs
import KE.KExcIs
import HandS.WordsExc
import PySem.Challenge.RW_hearpurse_k22_texts_of_facts
set_option Elab.async false
set_option linter.all false
set_option maxRecDepth 100000
set_option maxHeartbeats 4000000
namespace Gn
open PySem PySem.Spec PyProof.Rows L2

/-! ## heaps -/
theorem new_same {H : Hp} {p : Addr} {o : HO} (h : H p = none) : ∀ b u, H b = some u → upd H p o b = some u := by
  intro b u e
  rw [upd_ne (ne_of_none e h)]
  exact e
/-- the heap less two objects: those of the draws -/
def Rs (d g : Addr) (H : Hp) : Hp := fun a => if a = d ∨ a = g then none else H a
section
variable {d g a p : Addr} {H H' H2 : Hp} {o u : HO}
theorem rs_of (h : Rs d g H a = some o) : H a = some o ∧ a ≠ d ∧ a ≠ g := by
  unfold Rs at h
  by_cases c : a = d ∨ a = g
  · rw [if_pos c] at h; cases h
  · rw [if_neg c] at h
    exact ⟨h, fun e => c (.inl e), fun e => c (.inr e)⟩
theorem rs_to (h : H a = some o) (h1 : a ≠ d) (h2 : a ≠ g) : Rs d g H a = some o := by
  unfold Rs
  rw [if_neg (fun c => c.elim h1 h2)]
  exact h
/-- all that is no draw's stands -/
def Kp (d g : Addr) (H H' : Hp) : Prop := ∀ a o, a ≠ d → a ≠ g → H a = some o → H' a = some o
theorem Kp.refl : Kp d g H H := fun _ _ _ _ e => e
theorem Kp.trans (h : Kp d g H H') (k : Kp d g H' H2) : Kp d g H H2 := fun a o n1 n2 e => k a o n1 n2 (h a o n1 n2 e)
theorem Kp.new (hp : H p = none) : Kp d g H (upd H p o) := fun a u _ _ e => new_same hp a u e
theorem Kp.of (h : ∀ a o, H a = some o → H' a = some o) : Kp d g H H' := fun a o _ _ e => h a o e
theorem Kp.at_d : Kp d g H (upd H d o) := fun a u n1 _ e => by rw [upd_ne n1]; exact e
theorem Kp.at_g : Kp d g H (upd H g o) := fun a u _ n2 e => by rw [upd_ne n2]; exact e
end

/-! ## the draws' state -/
def kG : Key := Sum.inr ("great" : Str)
def kC : Key := Sum.inr ("cells" : Str)
def kL : Key := Sum.inr ("left" : Str)
def kT : Key := Sum.inr ("turn" : Str)
def dk (g c : Addr) (l t : Int) : List (Key × V) := [(kG, .ref g), (kC, .ref c), (kL, .int l), (kT, .int t)]
section
variable {g c : Addr} {l t z : Int} {H : Hp} {d : Addr}
theorem nGC : ¬ kG = kC := by decide +kernel
theorem nGL : ¬ kG = kL := by decide +kernel
theorem nGT : ¬ kG = kT := by decide +kernel
theorem nCL : ¬ kC = kL := by decide +kernel
theorem nCT : ¬ kC = kT := by decide +kernel
theorem nLT : ¬ kL = kT := by decide +kernel
theorem dk_g : valV (dk g c l t) kG = some (.ref g) := valV_pos rfl
theorem dk_c : valV (dk g c l t) kC = some (.ref c) := (valV_neg nGC).trans (valV_pos rfl)
theorem dk_l : valV (dk g c l t) kL = some (.int l) := (valV_neg nGL).trans ((valV_neg nCL).trans (valV_pos rfl))
theorem dk_t : valV (dk g c l t) kT = some (.int t) := (valV_neg nGT).trans ((valV_neg nCT).trans ((valV_neg nLT).trans (valV_pos rfl)))
theorem get_g (h : H d = some (.dK (dk g c l t))) : DGet H d (.str "great") (some (.ref g)) := by
  rw [← dk_g (g := g) (c := c) (l := l) (t := t)]
  exact DGet.k (k := kG) h
theorem get_c (h : H d = some (.dK (dk g c l t))) : DGet H d (.str "cells") (some (.ref c)) := by
  rw [← dk_c (g := g) (c := c) (l := l) (t := t)]
  exact DGet.k (k := kC) h
theorem get_l (h : H d = some (.dK (dk g c l t))) : DGet H d (.str "left") (some (.int l)) := by
  rw [← dk_l (g := g) (c := c) (l := l) (t := t)]
  exact DGet.k (k := kL) h
theorem get_t (h : H d = some (.dK (dk g c l t))) : DGet H d (.str "turn") (some (.int t)) := by
  rw [← dk_t (g := g) (c := c) (l := l) (t := t)]
  exact DGet.k (k := kT) h
theorem put_dk_l : putK (dk g c l t) kL (.int z) = dk g c z t := by
  unfold putK dk
  simp [nGL, nCL, Ne.symm nLT, (show ¬ kT = kL from fun e => nLT e.symm)]
theorem put_dk_t : putK (dk g c l t) kT (.int z) = dk g c l z := by
  unfold putK dk
  simp [nGT, nCT, nLT]
theorem put_l (h : H d = some (.dK (dk g c l t))) : DPut H d (.str "left") (.int z) (upd H d (.dK (dk g c z t))) := by
  rw [← put_dk_l (l := l)]
  exact DPut.k (k := kL) h (by show 4 < sizeLine; decide)
theorem put_t (h : H d = some (.dK (dk g c l t))) : DPut H d (.str "turn") (.int z) (upd H d (.dK (dk g c l z))) := by
  rw [← put_dk_t (t := t)]
  exact DPut.k (k := kT) h (by show 4 < sizeLine; decide)
theorem merge_dk : mergeK [] (dk g c l t) = dk g c l t := by
  have e1 : putK [] kG (.ref g) = [(kG, V.ref g)] := rfl
  have e2 : putK [(kG, V.ref g)] kC (.ref c) = [(kG, V.ref g), (kC, V.ref c)] := by unfold putK; simp [nGC]
  have e3 : putK [(kG, V.ref g), (kC, V.ref c)] kL (.int l) = [(kG, V.ref g), (kC, V.ref c), (kL, V.int l)] := by unfold putK; simp [nGL, nCL]
  have e4 : putK [(kG, V.ref g), (kC, V.ref c), (kL, V.int l)] kT (.int t) = [(kG, V.ref g), (kC, V.ref c), (kL, V.int l), (kT, V.int t)] := by unfold putK; simp [nGT, nCT, nLT]
  unfold mergeK dk
  simp only [List.foldl_cons, List.foldl_nil, e1, e2, e3, e4]
end
/-- the draws' dict at d, its lists at g and c; at most b turns were mixed -/
structure Dw (ns : List Int) (d g c : Addr) (b : Nat) (H : Hp) : Prop where
  st : ∃ (gs : List Int) (l t : Int), H d = some (.dK (dk g c l t)) ∧ H g = some (.lst (gs.map V.int)) ∧ 0 ≤ t ∧ t ≤ b
  cl : H c = some (.lst (ns.map V.int))
  ncd : c ≠ d
  ncg : c ≠ g
section
variable {ns : List Int} {d g c p : Addr} {b b' : Nat} {H H' : Hp} {o : HO}
theorem Dw.mono (h : Dw ns d g c b H) (k : b ≤ b') : Dw ns d g c b' H := by
  obtain ⟨⟨gs, l, t, h1, h2, h3, h4⟩, h5, h6, h7⟩ := h
  exact ⟨⟨gs, l, t, h1, h2, h3, by omega⟩, h5, h6, h7⟩
/-- what is new leaves them -/
theorem Dw.keep (h : Dw ns d g c b H) (k : ∀ a o, H a = some o → H' a = some o) : Dw ns d g c b H' := by
  obtain ⟨⟨gs, l, t, h1, h2, h3, h4⟩, h5, h6, h7⟩ := h
  exact ⟨⟨gs, l, t, k _ _ h1, k _ _ h2, h3, h4⟩, k _ _ h5, h6, h7⟩
theorem Dw.new (h : Dw ns d g c b H) (hp : H p = none) : Dw ns d g c b (upd H p o) := h.keep fun a u e => new_same hp a u e
theorem Dw.nd (h : Dw ns d g c b H) (hp : H p = none) : p ≠ d := by
  obtain ⟨⟨gs, l, t, h1, h2, h3, h4⟩, h5, h6, h7⟩ := h
  exact fun e => ne_of_none h1 hp e.symm
theorem Dw.ng (h : Dw ns d g c b H) (hp : H p = none) : p ≠ g := by
  obtain ⟨⟨gs, l, t, h1, h2, h3, h4⟩, h5, h6, h7⟩ := h
  exact fun e => ne_of_none h2 hp e.symm
theorem Dw.some (h : Dw ns d g c b H) : (∃ o, H d = some o) ∧ ∃ o, H g = some o := by
  obtain ⟨⟨gs, l, t, h1, h2, h3, h4⟩, h5, h6, h7⟩ := h
  exact ⟨⟨_, h1⟩, ⟨_, h2⟩⟩
/-- what is new behind a draw was new ahead of it -/
theorem Dw.free (h : Dw ns d g c b H) (h' : Dw ns d g c b' H') (k : Kp d g H H') (hp : H' p = none) : H p = none := by
  cases e : H p with
  | none => rfl
  | some u =>
    have q := k p u (h'.nd hp) (h'.ng hp) e
    rw [hp] at q
    cases q
theorem Dw.put (h : Dw ns d g c b H) (hp : H p = Option.some u) (n1 : p ≠ d) (n2 : p ≠ g) (n3 : p ≠ c) : Dw ns d g c b (upd H p o) := by
  obtain ⟨⟨gs, l, t, h1, h2, h3, h4⟩, h5, h6, h7⟩ := h
  exact ⟨⟨gs, l, t, by rw [upd_ne n1.symm]; exact h1, by rw [upd_ne n2.symm]; exact h2, h3, h4⟩, by rw [upd_ne n3.symm]; exact h5, h6, h7⟩
end
/-! ## small words of arithmetic -/
theorem fmod_lo {a b : Int} (h : 0 < b) : 0 ≤ a.fmod b := by rw [Int.fmod_eq_emod_of_nonneg a (by omega)]; exact Int.emod_nonneg a (by omega)
theorem fmod_hi {a b : Int} (h : 0 < b) : a.fmod b < b := by rw [Int.fmod_eq_emod_of_nonneg a (by omega)]; exact Int.emod_lt_of_pos a h
theorem at_int {xs : List V} {r : Int} (h0 : 0 ≤ r) (h1 : r < (xs.length : Int)) : ∃ v, atI xs r = some v ∧ v ∈ xs := by
  have k : r.toNat < xs.length := by omega
  have e : r = ((r.toNat : Nat) : Int) := by omega
  have q : atI xs ((r.toNat : Nat) : Int) = some xs[r.toNat] := atI_nat (List.getElem?_eq_getElem k)
  rw [← e] at q
  exact ⟨_, q, List.getElem_mem k⟩
/-! ## lists of flat data, by == -/
section
variable {K : PySem.W.Frag} {H : Hp}
theorem dp_ints : ∀ ns : List Int, DpAll K H (ns.map V.int) (ns.map PyData.int)
  | [] => .nil
  | n :: r => .cons (.int n) (dp_ints r)
theorem dp_bools : ∀ ns : List Bool, DpAll K H (ns.map V.bl) (ns.map PyData.bool)
  | [] => .nil
  | n :: r => .cons (.bl n) (dp_bools r)
theorem dp_strs : ∀ ns : List Str, DpAll K H (ns.map V.str) (ns.map PyData.str)
  | [] => .nil
  | n :: r => .cons (.str n) (dp_strs r)
/-- no list, tuple or dict -/
def flatD : PyData → Bool
  | .none => true
  | .bool _ => true
  | .int _ => true
  | .str x => PyData.strOk x
  | _ => false
theorem lay_flat {x : PyData} (h : flatD x = true) : x.canLay0 = true ∧ x.depth ≤ 1 := by
  cases x with
  | none => constructor <;> simp [PyData.canLay0, PyData.depth]
  | bool _ => constructor <;> simp [PyData.canLay0, PyData.depth]
  | int _ => constructor <;> simp [PyData.canLay0, PyData.depth]
  | str x =>
    have h' : PyData.strOk x = true := h
    constructor <;> simp [PyData.canLay0, PyData.depth, h']
  | list _ => cases h
  | tuple _ => cases h
  | dict _ => cases h
theorem lay_flats : ∀ {ds : List PyData}, (∀ x ∈ ds, flatD x = true) → PyData.canLayAll0 ds = true ∧ PyData.depthAll ds ≤ 1
  | [], _ => by constructor <;> simp [PyData.canLayAll0, PyData.depthAll]
  | x :: r, h => by
    obtain ⟨a1, a2⟩ := lay_flat (h x (List.mem_cons_self ..))
    obtain ⟨b1, b2⟩ := lay_flats (ds := r) fun y hy => h y (List.mem_cons_of_mem _ hy)
    constructor
    · simp [PyData.canLayAll0, a1, b1]
    · simp only [PyData.depthAll]
      omega
theorem shaped_flats {ds : List PyData} (h : ∀ x ∈ ds, flatD x = true) : SeqAt.shaped (.list ds) = true := by
  obtain ⟨b1, b2⟩ := lay_flats h
  have e : PyData.depth (.list ds) = PyData.depthAll ds + 1 := by simp only [PyData.depth]
  unfold SeqAt.shaped
  rw [e]
  simp only [PyData.canLay0, b1, Bool.true_and, decide_eq_true_eq]
  omega
theorem shaped_ints (ns : List Int) : SeqAt.shaped (.list (ns.map PyData.int)) = true := shaped_flats fun x hx => by
  obtain ⟨n, _, rfl⟩ := List.mem_map.mp hx
  rfl
theorem shaped_bools (ns : List Bool) : SeqAt.shaped (.list (ns.map PyData.bool)) = true := shaped_flats fun x hx => by
  obtain ⟨n, _, rfl⟩ := List.mem_map.mp hx
  rfl
theorem shaped_strs {ns : List Str} (h : ∀ x ∈ ns, PyData.strOk x = true) : SeqAt.shaped (.list (ns.map PyData.str)) = true := shaped_flats fun x hx => by
  obtain ⟨n, hn, rfl⟩ := List.mem_map.mp hx
  exact h n hn
theorem shaped_nil : SeqAt.shaped (.list []) = true := shaped_flats fun x hx => by cases hx
theorem eqv_nil {ds : List PyData} : PyData.eqv (.list ds) (.list []) = ds.isEmpty := by
  cases ds <;> simp [PyData.eqv, PyData.eqvAll]
theorem eqv_bools : ∀ xs ys : List Bool, PyData.eqvAll (xs.map PyData.bool) (ys.map PyData.bool) = decide (xs = ys)
  | [], [] => by simp [PyData.eqvAll]
  | [], _ :: _ => by simp [PyData.eqvAll]
  | _ :: _, [] => by simp [PyData.eqvAll]
  | x :: xs, y :: ys => by
    simp only [List.map_cons, PyData.eqvAll, PyData.eqv, eqv_bools xs ys]
    by_cases h : x = y <;> by_cases k : xs = ys <;> simp [h, k]
end
end Gn

set_option Elab.async false
set_option linter.all false
set_option maxRecDepth 100000
set_option maxHeartbeats 4000000
namespace Lw
open PySem PySem.Spec PyProof.Rows L2 Gn
def top (i : Nat) : Stmt := PySem.Challenge.pw_hearpurse_k22_texts_of_facts.main.body.getD i (.Pass ⟨0, 0, 0, 0⟩)
abbrev sWall : Stmt := top 0
abbrev sInt : Stmt := top 9
abbrev sName : Stmt := top 10
abbrev sAmount : Stmt := top 11
abbrev sIsPlace : Stmt := top 19
abbrev sIsPart : Stmt := top 20
abbrev sIsFact : Stmt := top 21
abbrev sFactText : Stmt := top 22
abbrev sIsNumber : Stmt := top 23
abbrev sParseFact : Stmt := top 24
abbrev sRow : Stmt := top 26
abbrev sWrong : Stmt := top 27
abbrev sRowText : Stmt := top 28
abbrev sBegun : Stmt := top 31
abbrev sMixed : Stmt := top 32
abbrev sTake : Stmt := top 33
abbrev sPick : Stmt := top 34
abbrev sWords : Stmt := top 35
abbrev sForest : Stmt := top 36
abbrev sLFact : Stmt := top 37
abbrev sLIsNumber : Stmt := top 38
abbrev sLIsFact : Stmt := top 39
abbrev sLNumbered : Stmt := top 40
abbrev sLRead : Stmt := top 41
abbrev sLChanged : Stmt := top 42
abbrev sLTold : Stmt := top 43
abbrev sLaw : Stmt := top 44
def cBody : Stmt → List Stmt
  | .ClassDef (body := b) .. => b
  | _ => []
def meth (i : Nat) : Stmt := (cBody (top 29)).getD i (.Pass ⟨0, 0, 0, 0⟩)
abbrev sInit : Stmt := meth 1
abbrev sEq : Stmt := meth 2
abbrev sNames : Stmt := meth 3
abbrev sText : Stmt := meth 4
abbrev sAnc : Stmt := meth 5
abbrev sSub : Stmt := meth 6
abbrev sParse : Stmt := meth 7
section
variable {P : Program} {w : World} {K : PySem.W.Frag} {mg : Str → Option Value} {base : Heap}
/-! ### _law_mixed -/
def spMixed (ns : List Int) : Sp := fun vs H Q _ => ∃ (d g c : Addr) (b : Nat), vs = [.ref d] ∧ Dw ns d g c b H ∧ b ≤ 1000000000 ∧
  ∀ (r : Int) (H' : Hp), Dw ns d g c (b + 1) H' → Kp d g H H' → Q (.int r) H'
theorem scMixed : FnScope ["_law_state", "_law_found", "_law_prime", "_law_blend", "_law_cell"] ["_law_state"] (defScope sMixed) := ⟨rfl, rfl, rfl, by decide +kernel, rfl, by decide +kernel, by decide +kernel⟩
def primes : List Int := [2147483629, 2147483587, 2147483579, 2147483563, 2147483549, 2147483543]
theorem prime_of {p : Int} (h : p ∈ primes) : 2000000000 < p ∧ p < 2147483648 := by
  unfold primes at h
  simp only [List.mem_cons, List.not_mem_nil, or_false] at h
  omega
theorem ok_mixed {f : Addr} {fd : FuncData} (ns : List Int) (F : Fun K "_law_mixed" "_law_mixed" sMixed f fd) : FnOk P w K mg base CX0 1 f fd ["_law_state"] (spMixed ns) := by
  refine F.ok scMixed (fun vs H Q E h => ?_) (fun cdv A outer s H vs Q E hr h => ?_)
  · obtain ⟨d, g, c, b, rfl, _⟩ := h
    rfl
  · obtain ⟨d, g, c, b, rfl, D, hb, k⟩ := h
    have hu := hu_of hr
    have nd := scMixed.nd
    refine ⟨_, pss_cons (ps_dput hu (pv 0) pe_str (pe_op op_add (pe_dget hu (pv 0) pe_str (fun _ _ => rfl)) pe_int) rfl)
      (pss_cons (ps_set (i := 1) nd rfl (.inl rfl) pe_int)
      (pss_cons (ps_for PassesOwn.never rfl (pi_list (pe_lst (pa_cons pe_int (pa_cons pe_int (pa_cons pe_int (pa_cons pe_int (pa_cons pe_int (pa_cons pe_int pa_nil)))))))) (pg_name (i := 2) nd rfl (.inl rfl))
        (pss_cons (ps_set (i := 3) nd rfl (.inl rfl) (pe_op op_add (pe_op op_mul pe_int (pe_dget hu (pv 0) pe_str (fun _ _ => rfl))) (pe_op op_fdivN (pv 2) pe_int)))
        (pss_cons (ps_for PassesOwn.never rfl (pi_list (pe_dget hu (pv 0) pe_str (fun _ _ => rfl))) (pg_name (i := 4) nd rfl (.inl rfl))
          (pss_one (ps_set (i := 3) nd rfl (.inl rfl) (pe_op op_modN (pe_op op_add (pe_op op_mul (pv 3) pe_int) (pv 4)) (pv 2)))))
        (pss_one (ps_set (i := 1) nd rfl (.inl rfl) (pe_op op_add (pe_op op_mul (pv 1) pe_int) (pe_op op_modN (pe_op op_pow (pv 3) pe_int) (pv 2))))))))
      (pss_one (ps_ret (pv 1))))), ?_⟩
    obtain ⟨⟨gs, l, t, hd, hg, t0, tb⟩, hc, ncd, ncg⟩ := id D
    have ndg : g ≠ d := ne_of hg hd (by intro z; cases z)
    refine ⟨_, rfl, d, _, rfl, get_t hd, t, 1, rfl, rfl, _, rfl, d, _, rfl, put_t hd, ?_⟩
    generalize hH1 : upd H d (.dK (dk g c l (t + 1))) = H1
    have hd1 : H1 d = some (.dK (dk g c l (t + 1))) := by rw [← hH1, upd_same]
    have hg1 : H1 g = some (.lst (gs.map V.int)) := by rw [← hH1, upd_ne ndg]; exact hg
    have hc1 : H1 c = some (.lst (ns.map V.int)) := by rw [← hH1, upd_ne ncd]; exact hc
    have k1 : Kp d g H H1 := by rw [← hH1]; exact Kp.at_d
    refine ⟨by show 6 ≤ sizeLine; decide, fun p hp => ?_⟩
    have hd2 := new_same (o := .lst (primes.map V.int)) hp _ _ hd1
    have hg2 := new_same (o := .lst (primes.map V.int)) hp _ _ hg1
    have hc2 := new_same (o := .lst (primes.map V.int)) hp _ _ hc1
    refine ⟨p, rfl, ⟨_, SqL.of upd_same⟩, for_list (K := K) (a := p) (xs := primes.map V.int) (fun i σ H' => H' = upd H1 p (.lst (primes.map V.int)) ∧ ∃ (f : Int) (v2 v3 v4 : Option V), σ = [some (.ref d), some (.int f), v2, v3, v4])
      ⟨rfl, 0, none, none, none, rfl⟩ (fun i σ H' _ ⟨e, _⟩ => by rw [e]; exact SqL.of upd_same) ?_ ?_⟩
    · rintro i x σ H' hx ⟨rfl, f, v2, v3, v4, rfl⟩
      obtain ⟨pr, hpr, rfl⟩ : ∃ z : Int, z ∈ primes ∧ x = V.int z := by
        obtain ⟨z, hz, e⟩ := List.mem_map.mp (List.mem_of_getElem? hx)
        exact ⟨z, hz, e.symm⟩
      obtain ⟨p1, p2⟩ := prime_of hpr
      refine ⟨_, rfl, d, _, rfl, get_t hd2, 69997, t + 1, rfl, rfl, .inl ⟨by decide, by decide⟩, _, rfl, pr, 11, rfl, rfl, ⟨by decide, by decide⟩, _, _, rfl, rfl, ?_⟩
      have q0 : 0 ≤ pr.fdiv 11 ∧ pr.fdiv 11 < 2147483648 := by
        rw [Int.fdiv_eq_ediv_of_nonneg pr (by decide)]
        omega
      refine ⟨_, rfl, d, _, rfl, get_c hd2, c, rfl, ⟨_, SqL.of hc2⟩, for_list (K := K) (a := c) (xs := ns.map V.int) (fun i σ H' => H' = upd H1 p (.lst (primes.map V.int)) ∧ ∃ (y : Int) (v4 : Option V), y.natAbs < 2 ^ 64 ∧ σ = [some (.ref d), some (.int f), some (.int pr), some (.int y), v4])
        ⟨rfl, _, v4, ?_, rfl⟩ (fun i σ H' _ ⟨e, _⟩ => by rw [e]; exact SqL.of hc2) ?_ ?_⟩
      · omega
      · rintro j x σ H' hx ⟨rfl, y, v4, hy, rfl⟩
        obtain ⟨z, rfl⟩ : ∃ z : Int, x = V.int z := by
          obtain ⟨z, hz, e⟩ := List.mem_map.mp (List.mem_of_getElem? hx)
          exact ⟨z, e.symm⟩
        refine ⟨_, rfl, y, 48271, rfl, rfl, .inr ⟨by decide, by decide⟩, _, rfl, _, z, rfl, rfl, _, rfl, _, pr, rfl, rfl, (by omega), ?_⟩
        have r1 := fmod_lo (a := y * 48271 + z) (b := pr) (by omega)
        have r2 := fmod_hi (a := y * 48271 + z) (b := pr) (by omega)
        exact ⟨rfl, _, some (.int z), by omega, rfl⟩
      · rintro σ H' ⟨rfl, y, v4, hy, rfl⟩
        refine ⟨_, rfl, f, 2147483647, rfl, rfl, .inr ⟨by decide, by decide⟩, _, rfl, y, 5, rfl, rfl, ⟨by decide, by decide, hy⟩, _, rfl, _, pr, rfl, rfl, (by omega), _, _, rfl, rfl, ?_⟩
        exact ⟨rfl, _, some (.int pr), some (.int y), v4, rfl⟩
    · rintro σ H' ⟨rfl, f, v2, v3, v4, rfl⟩
      refine ⟨_, rfl, ?_⟩
      refine k f _ ⟨⟨gs, l, t + 1, hd2, hg2, by omega, by omega⟩, hc2, ncd, ncg⟩ (k1.trans (Kp.new hp))
theorem z60 {z : Int} (h : z ≤ 10000000000000) (h0 : 0 < z := by assumption) : z.natAbs < 2 ^ 60 := by
  have : (2 : Nat) ^ 60 = 1152921504606846976 := by decide
  rw [this]
  omega
/-! ### _law_take -/
def spTake (ns : List Int) : Sp := fun vs H Q _ => ∃ (d g c : Addr) (b : Nat) (z : Int), vs = [.ref d, .int z] ∧ Dw ns d g c b H ∧ b ≤ 1000000000 ∧ 0 < z ∧ z ≤ 10000000000000 ∧
  ∀ (r : Int) (H' : Hp), 0 ≤ r → r < z → Dw ns d g c (b + 1) H' → Kp d g H H' → Q (.int r) H'
theorem scTake : FnScope ["_law_state", "_law_size", "_law_found"] ["_law_state", "_law_size"] (defScope sTake) := ⟨rfl, rfl, rfl, by decide +kernel, rfl, by decide +kernel, by decide +kernel⟩
theorem ok_take {f fM : Addr} {fd fdM : FuncData} (ns : List Int) (F : Fun K "_law_take" "_law_take" sTake f fd) (GM : FnOk P w K mg base CX0 1 fM fdM ["_law_state"] (spMixed ns)) (bM : Binds K fdM ["_law_state"] []) (kM : PySem.W.keepIn K (.ref fM) = true) (mM : mg "_law_mixed" = some (.ref fM)) :
    FnOk P w K mg base CX0 2 f fd ["_law_state", "_law_size"] (spTake ns) := by
  refine F.ok scTake (fun vs H Q E h => ?_) (fun cdv A outer s H vs Q E hr h => ?_)
  · obtain ⟨d, g, c, b, z, rfl, _⟩ := h
    rfl
  · obtain ⟨d, g, c, b, z, rfl, D, hb, z0, z1, k⟩ := h
    have hu := hu_of hr
    have nd := scTake.nd
    refine ⟨_, pss_cons (ps_if (pt_cmpR op_eq (pe_dget hu (pv 0) pe_str (fun _ _ => rfl)) pe_int (nomark _))
        (pss_one (ps_dput hu (pv 0) pe_str (pe_ifExp (pt_cmpR (op_neD hr.units) (pe_dget hu (pv 0) pe_str (fun _ _ => rfl)) (pe_lst pa_nil) (nomark _))
          (pe_bm PySem.F.plainAttrs_list PySem.F.slot_list_pop PySem.F.type_list_pop mt_popAt (pe_dget hu (pv 0) pe_str (fun _ _ => rfl)) (pa_cons pe_int pa_nil))
          (pe_call GM hr rfl mM kM bM .nil pass0 (pa_cons (pv 0) pa_nil))) rfl)) pss_nil)
      (pss_cons (ps_set (i := 2) nd rfl (.inl rfl) (pe_op op_modN (pe_dget hu (pv 0) pe_str (fun _ _ => rfl)) (pv 1)))
      (pss_cons (ps_dput hu (pv 0) pe_str (pe_op op_fdivW (pe_dget hu (pv 0) pe_str (fun _ _ => rfl)) (pv 1)) rfl)
      (pss_one (ps_ret (pv 2))))), ?_⟩
    -- behind the if: the state with a number left
    have tail : ∀ (H1 : Hp), Dw ns d g c (b + 1) H1 → Kp d g H H1 → tSeq (tAsg (tOp (rI (fun _ j => j ≠ 0) fun i j => .int (i.fmod j)) (tDGet (tVar 0) (tC (.str "left"))) (tVar 1)) (gName 2))
        (tSeq (sDPut (tVar 0) (tC (.str "left")) (tOp (rI CDivW fun i j => .int (i / j)) (tDGet (tVar 0) (tC (.str "left"))) (tVar 1))) (tRet (tVar 2))) { nx := fun _ H' => Q .non H', rt := Q } [some (.ref d), some (.int z), none] H1 := by
      intro H1 D1 k1
      obtain ⟨⟨gs, l, t, hd, hg, t0, tb⟩, hc, ncd, ncg⟩ := id D1
      have ndg : g ≠ d := ne_of hg hd (by intro z; cases z)
      refine ⟨_, rfl, d, _, rfl, get_l hd, _, rfl, l, z, rfl, rfl, (by omega), ?_⟩
      refine ⟨_, rfl, d, _, rfl, get_l hd, _, rfl, l, z, rfl, rfl, wide_div (b := 60) z0 (z60 z1) (by decide) (by decide), _, rfl, d, _, rfl, put_l hd, _, rfl, ?_⟩
      refine k _ _ (fmod_lo z0) (fmod_hi z0) ⟨⟨gs, _, t, upd_same, by rw [upd_ne ndg]; exact hg, t0, tb⟩, by rw [upd_ne ncd]; exact hc, ncd, ncg⟩ (k1.trans Kp.at_d)
    obtain ⟨⟨gs, l, t, hd, hg, t0, tb⟩, hc, ncd, ncg⟩ := id D
    have ndg : g ≠ d := ne_of hg hd (by intro z; cases z)
    refine ⟨_, rfl, d, _, rfl, get_l hd, rfl, _, rfl, ?_⟩
    refine ite2 (fun e => ?_) (fun e => tail H (D.mono (by omega)) Kp.refl)
    refine ⟨_, rfl, d, _, rfl, get_g hd, by show 0 ≤ sizeLine; decide, fun p hp => ?_⟩
    have hd1 := new_same (o := .lst []) hp _ _ hd
    have hg1 := new_same (o := .lst []) hp _ _ hg
    have hc1 := new_same (o := .lst []) hp _ _ hc
    refine ⟨_, _, .lst (SqL.of hg1) (dp_ints gs), .lst (SqL.of upd_same) .nil, shaped_ints gs, shaped_nil, _, rfl, ?_⟩
    rw [eqv_nil]
    cases gs with
    | nil =>
      refine iteF ?_
      refine ⟨_, rfl, d, g, c, b, rfl, D.new hp, hb, fun r H' D' k' => ?_⟩
      obtain ⟨⟨gs, l, t, hd', hg', t0, tb⟩, hc', ncd, ncg⟩ := id D'
      have ndg : g ≠ d := ne_of hg' hd' (by intro z; cases z)
      refine ⟨_, rfl, d, _, rfl, put_l hd', ?_⟩
      exact tail _ ⟨⟨gs, _, t, upd_same, by rw [upd_ne ndg]; exact hg', t0, tb⟩, by rw [upd_ne ncd]; exact hc', ncd, ncg⟩ (((Kp.new hp).trans k').trans Kp.at_d)
    | cons n r =>
      refine iteT ?_
      refine ⟨_, rfl, d, _, rfl, get_g hd1, .inl ⟨rfl, _, SqL.of hg1⟩, g, _, 0, 0, _, rfl, rfl, hg1, by decide, by decide, (ixN_seq (n := (List.map V.int (n :: r)).length) (i := 0) (j := 0) (by simp [ixN])).1, rfl, ?_⟩
      refine ⟨_, rfl, d, _, rfl, put_l (by rw [upd_ne ndg.symm]; exact hd1), ?_⟩
      refine tail _ ⟨⟨r, _, t, upd_same, by rw [upd_ne ndg, upd_same]; rfl, t0, by omega⟩, by rw [upd_ne ncd, upd_ne ncg]; exact hc1, ncd, ncg⟩ (((Kp.new hp).trans Kp.at_g).trans Kp.at_d)
/-! ### _law_pick, out of a list and out of a text -/
theorem scPick : FnScope ["_law_state", "_law_some"] ["_law_state", "_law_some"] (defScope sPick) := ⟨rfl, rfl, rfl, by decide +kernel, rfl, by decide +kernel, by decide +kernel⟩
/-- one of the items of a list, or one sign of a text -/
def spPick (K : PySem.W.Frag) (ns : List Int) : Sp := fun vs H Q _ => ∃ (d g c : Addr) (b : Nat), Dw ns d g c b H ∧ b ≤ 1000000000 ∧
  ((∃ (a : Addr) (xs : List V), vs = [.ref d, .ref a] ∧ H a = some (.lst xs) ∧ a ≠ d ∧ a ≠ g ∧ 0 < xs.length ∧ xs.length ≤ 1000000 ∧
    ∀ (x : V) (H' : Hp), x ∈ xs → Dw ns d g c (b + 1) H' → Kp d g H H' → Q x H') ∨
   (∃ z : Str, vs = [.ref d, .str z] ∧ 0 < z.length ∧ z.length ≤ 1000000 ∧ ∀ (x : Nat) (H' : Hp), x ∈ z.cps.toList → Dw ns d g c (b + 1) H' → Kp d g H H' → Q (.str ⟨#[x]⟩) H'))
theorem ok_pick {f fT : Addr} {fd fdT : FuncData} (ns : List Int) (F : Fun K "_law_pick" "_law_pick" sPick f fd) (GT : FnOk P w K mg base CX0 2 fT fdT ["_law_state", "_law_size"] (spTake ns)) (bT : Binds K fdT ["_law_state", "_law_size"] []) (kT : PySem.W.keepIn K (.ref fT) = true) (mT : mg "_law_take" = some (.ref fT))
    (ml : mg "len" = none) : FnOk P w K mg base CX0 3 f fd ["_law_state", "_law_some"] (spPick K ns) := by
  refine F.ok scPick (fun vs H Q E h => ?_) (fun cdv A outer s H vs Q E hr h => ?_)
  · obtain ⟨d, g, c, b, D, hb, ⟨a, xs, rfl, _⟩ | ⟨z, rfl, _⟩⟩ := h <;> rfl
  · obtain ⟨d, g, c, b, D, hb, h⟩ := h
    have hu := hu_of hr
    have nd := scPick.nd
    refine ⟨_, pss_one (ps_ret (pe_ix ix_seq (pv 1) (pe_call GT hr rfl mT kT bT .nil pass0 (pa_cons (pv 0) (pa_cons (pe_callB call_len rfl ml PySem.boot_len (pa_cons (pv 1) pa_nil)) pa_nil))) (fun _ _ => rfl))), ?_⟩
    rcases h with ⟨a, xs, rfl, ha, nad, nag, h0, h1, k⟩ | ⟨z, rfl, h0, h1, k⟩
    · refine ⟨_, rfl, _, rfl, _, rfl, _, _, rfl, .inl ⟨_, SqL.of ha, rfl⟩, d, g, c, b, _, rfl, D, hb, by omega, by omega, fun r H' r0 r1 D' k' => ?_⟩
      obtain ⟨v, hv, hm⟩ := at_int r0 r1
      exact .inl ⟨a, xs, r, v, rfl, rfl, SqL.of (k' a _ nad nag ha), hv, k v H' hm D' k'⟩
    · refine ⟨_, rfl, _, rfl, _, rfl, _, _, rfl, ⟨by rw [sizeLine_eq]; omega, rfl⟩, d, g, c, b, _, rfl, D, hb, by omega, by omega, fun r H' r0 r1 D' k' => ?_⟩
      have e : r = ((r.toNat : Nat) : Int) := by omega
      have hl : r.toNat < z.cps.toList.length := by
        have : z.cps.toList.length = z.length := by simp [Str.length]
        omega
      have q : atI z.cps.toList ((r.toNat : Nat) : Int) = some z.cps.toList[r.toNat] := atI_nat (List.getElem?_eq_getElem hl)
      rw [← e] at q
      exact .inr (.inr ⟨z, r, _, rfl, rfl, by rw [sizeLine_eq]; omega, q, k _ H' (List.getElem_mem hl) D' k'⟩)
/-! ### _law_begun -/
def spBegun (K : PySem.W.Frag) (ns : List Int) : Sp := fun vs H Q _ => ∃ (a : Addr), vs = [.ref a] ∧ SqL K H a (ns.map V.int) ∧ ns.length ≤ 63 ∧
  ∀ (d g c : Addr) (H' : Hp), Dw ns d g c 0 H' → (∀ b o, H b = some o → H' b = some o) → H d = none → H g = none → H c = none → Q (.ref d) H'
theorem scBegun : FnScope ["_law_script", "_law_great", "_law_cell"] ["_law_script"] (defScope sBegun) := ⟨rfl, rfl, rfl, by decide +kernel, rfl, by decide +kernel, by decide +kernel⟩
theorem ok_begun {f : Addr} {fd : FuncData} (ns : List Int) (F : Fun K "_law_begun" "_law_begun" sBegun f fd) (mli : mg "list" = none) : FnOk P w K mg base CX0 1 f fd ["_law_script"] (spBegun K ns) := by
  refine F.ok scBegun (fun vs H Q E h => ?_) (fun cdv A outer s H vs Q E hr h => ?_)
  · obtain ⟨a, rfl, _⟩ := h
    rfl
  · obtain ⟨a, rfl, hS, hl, k⟩ := h
    have hu := hu_of hr
    have nd := scBegun.nd
    refine ⟨_, pss_cons (ps_setLc (i := 1) (own := [("_law_cell", 2)]) (g := gName 2) rfl nd rfl rfl (sw_true rfl rfl rfl (by decide +kernel)) (pi_list (pv 0)) (blkOk_by (N := ["_law_script", "_law_great", "_law_cell"]) (sc := defScope sBegun) (by decide +kernel))
        (fun _ _ _ _ _ => pg_name (i := 2) nd rfl (.inl rfl)) (fun _ _ _ _ _ => pts_one (pt_cmpR op_ge (pv 2) (pe_op op_pow pe_int pe_int) (nomark _))) (fun _ _ _ _ _ => pe_op op_sub (pv 2) (pe_op op_pow pe_int pe_int)))
      (pss_one (ps_ret (pe_disp (pps_cons pe_str (pv 1) (pps_cons pe_str (pe_callTy call_list_of rfl mli (by decide +kernel) (pa_cons (pv 0) pa_nil)) (pps_cons pe_str pe_int (pps_cons pe_str pe_int pps_nil)))) (by rfl) (by rfl) (fun z => by cases z) (by decide)))), ?_⟩
    have keep0 : ∀ {H' : Hp} {g : Addr} {o : HO}, (∀ b o, H b = some o → H' b = some o) → H g = none → ∀ b u, H b = some u → upd H' g o b = some u := fun {H' g o} s hg b u e => by
      rw [upd_ne (ne_of_none e hg)]
      exact s b u e
    refine ⟨_, rfl, a, rfl, ⟨_, hS⟩, fun g hg => ?_⟩
    refine lc_list (K := K) (a := a) (xs := ns.map V.int) (fun i H' => (∀ b o, H b = some o → H' b = some o) ∧ ∃ gs : List Int, gs.length ≤ i ∧ H' g = some (.lst (gs.map V.int)))
      ⟨fun b o e => new_same hg b o e, [], Nat.le_refl _, upd_same⟩ (fun i H' _ ⟨s, _⟩ => Same.seq s hS) ?_ ?_
    · rintro i x H' hx ⟨s5, gs, hgl, hg'⟩
      obtain ⟨z, rfl⟩ : ∃ z : Int, x = V.int z := by
        obtain ⟨z, hz, e⟩ := List.mem_map.mp (List.mem_of_getElem? hx)
        exact ⟨z, e.symm⟩
      have hi : i < ns.length := by
        have := (List.getElem?_eq_some_iff.mp hx).1
        rw [List.length_map] at this
        exact this
      refine ⟨rfl, _, rfl, 10, 18, rfl, rfl, ⟨by decide, by decide, by decide⟩, _, _, rfl, rfl, _, rfl, ?_⟩
      refine ite2 (fun _ => ?_) (fun _ => ?_)
      · refine ⟨_, rfl, 10, 18, rfl, rfl, ⟨by decide, by decide, by decide⟩, _, _, rfl, rfl, _, hg', small1000 (by rw [List.length_map]; omega), keep0 s5 hg, gs ++ [z - 10 ^ (18 : Int).toNat], by rw [List.length_append]; show gs.length + 1 ≤ i + 1; omega, ?_⟩
        rw [upd_same, List.map_append]
        rfl
      · exact ⟨s5, gs, by omega, hg'⟩
    · rintro H1 ⟨s1, gs, hgl, hg1⟩ d hd
      refine ⟨_, rfl, _, rfl, a, _, rfl, .inl (Same.seq (new_same hd) (Same.seq s1 hS)), fun c hc => ?_⟩
      have ndc : c ≠ d := fun e => by rw [e, upd_same] at hc; cases hc
      have hd2 : (upd (upd H1 d (.dK [])) c (.lst (ns.map V.int))) d = some (.dK []) := by rw [upd_ne ndc.symm, upd_same]
      refine ⟨hd2, dk g c 0 0, rfl, (by show 4 ≤ 15; decide), ?_⟩
      rw [merge_dk]
      have ngd : g ≠ d := fun e => by rw [← e, hg1] at hd; cases hd
      have hg2 : upd H1 d (.dK []) g = some (.lst (gs.map V.int)) := by rw [upd_ne ngd]; exact hg1
      have ngc : g ≠ c := fun e => by rw [← e, hg2] at hc; cases hc
      have H1d : H d = none := by
        cases e : H d with
        | none => rfl
        | some u => rw [s1 d u e] at hd; cases hd
      have H1c : H c = none := by
        cases e : H c with
        | none => rfl
        | some u => rw [new_same hd c u (s1 c u e)] at hc; cases hc
      refine k d g c _ ⟨⟨gs, 0, 0, upd_same, by rw [upd_ne ngd, upd_ne ngc]; exact hg2, by omega, by omega⟩, by rw [upd_ne ndc, upd_same], ndc, ngc.symm⟩ (fun b o e => ?_) H1d hg H1c
      rw [upd_ne (ne_of_none e H1d), upd_ne (ne_of_none e H1c), upd_ne (ne_of_none e H1d)]
      exact s1 b o e
end
end Lw

set_option Elab.async false
set_option linter.all false
set_option maxRecDepth 100000
set_option maxHeartbeats 4000000
/-! a law's own body, run by the caller that the row names: what is around it is known there -/
namespace Ge
open PySem PySem.Spec PyProof.Rows L2 Gn
/-- what is known where a law's own body runs -/
structure Bed (K : PySem.W.Frag) (mg : Str → Option Value) (base : Heap) (A : Around) : Prop where
  kin : K.In base
  glob : base.Ns mainGlobals mg
  sys : ∃ o, base.get? sysModules = some o
  gd : A.guards = some []
section
variable {P : Program} {w : World} {K : PySem.W.Frag} {mg : Str → Option Value} {base : Heap}
/-- one call of a def of the text, by its body, at one place -/
theorem call_here {x qual : Str} {st : Stmt} {f : Addr} {fd : FuncData} {N ps : List Str} {k : Nat} {A : Around} {outer : List Env} {s : Shared} {H : Hp} {vs : List V} {us : List Value} {Q : VK}
    (F : Fun K x qual st f fd) (S : FnScope N ps (defScope st)) (hr : Room (k + 1) A) (e0 : Env0 P w K mg base A outer s H) (hb : BindsTo s fd ⟨us, []⟩ (ps.zip us)) (hl : vs.length = ps.length) (r : Vals vs us)
    (body : ∀ cdv : Value, Room k (A.deeper (envOfC qual (defScope st) s.heap.objs.size f cdv)) →
      ∃ t, PSs (cxOf CX0 P w K mg base N qual (defScope st) f cdv A outer s H E0).nox (defBody st) t ∧ t { nx := fun _ H' => Q .non H', rt := Q } (start N vs) H) :
    codeAny (model P w) A (.call (.ref f) ⟨us, []⟩) (CR CX0 outer P w H s Q E0) s := by
  obtain ⟨oc, od, kV, doc, pm, an, cdv, ct, osl, rfl, lk, hcd⟩ := F.ex
  have old : ∀ b o, base.get? b = some o → s.heap.get? b = some o := fun b o e => (e0.bs b o e).1
  have KX : K.In s.heap := e0.mod.kin.keeps old
  obtain ⟨t, ht, hq⟩ := body cdv (hr.deeper _)
  refine codeAny_call_function hr.depth (KX _ _ lk) rfl S.co S.gen rfl (PySem.W.codeRec_of KX hcd) (hb _ _ _ _ ?_)
  refine wpAny_newFunctionEnv_cells S.kind (fun ⟨n, v⟩ hy => ?_) (fun env he s1 z => ?_)
  · cases S.par n (List.of_mem_zip hy).1 with
    | inl q => exact .inl q
    | inr q => exact .inr ⟨q, PySem.W.cellsFrom_some _ _ _ (.inl q)⟩
  · subst he
    refine ⟨(e0.mod.nolimit.keeps old).keeps z.toInCall.keep, codeAny_func ?_⟩
    have I : Inv (cxOf CX0 P w K mg base N qual (defScope st) f cdv A outer s H E0) [] (start N vs) H s1 := inv_start S hr.hd e0 hl r z
    refine wpAny_mono (ht.nox.run [] s1 (start N vs) H _ I hq) (fun fl s' hs => ?_) (fun e s' hs => hs)
    match fl, hs with
    | .ret u, ⟨v, σ', H', J, rv, q⟩ => exact ⟨v, H', J.os, J.bare, J.base, J.hok, rv, q⟩
    | .next, ⟨σ', H', J, q⟩ => exact ⟨.non, H', J.os, J.bare, J.base, J.hok, rfl, q⟩
    | .brk, ⟨_, _, _, q⟩ => exact q.elim
    | .cont, ⟨_, _, _, q⟩ => exact q.elim
end
/-- nothing is tracked, or the script's list alone, as a thing that is only read -/
def Hs (a : Addr) (o : Obj) (xs : List V) : Hp := fun b => if b = a then some (.frz o (.lst xs)) else none
theorem hs_at {a : Addr} {o : Obj} {xs : List V} : Hs a o xs a = some (.frz o (.lst xs)) := if_pos rfl
theorem hs_no {a b : Addr} {o : Obj} {xs : List V} (h : b ≠ a) : Hs a o xs b = none := if_neg h
def H0 : Hp := fun _ => none
section
variable {P : Program} {w : World} {K : PySem.W.Frag} {mg mb : Str → Option Value} {s₁ : Shared} {a : Addr} {vs : List Value} {ns : List Int} {st : Stmt} {N : List Str} {x : Str} {k : Nat} {fa : Addr} {fd : FuncData}
/-- the state that the row's call begins with -/
theorem env_of {H : Hp} (KX : K.In s₁.heap) (hns : s₁.heap.Ns mainGlobals mg) (hb : s₁.heap.Ns builtinsNs mb) (hbb : ∀ x : Str, x ≠ "__name__" → mb x = bootBuiltins x) (hlim : s₁.heap.NoLimit) (hsee : ∃ mm, s₁.heap.Ns sysModules mm) (hg : s₁.gens = #[])
    (ha : s₁.heap.get? a = some { cls := .type "list", data := .seq vs.toArray }) (only : ∀ b, H b ≠ none → b = a) (hka : H a ≠ none → K.lookup a = none) (hok : HOk P w H s₁.heap) :
    Env0 P w K mg (hidT s₁.heap H) callerA [] s₁ H ∧ Bed K mg (hidT s₁.heap H) callerA := by
  have free : ∀ {b : Addr}, b ≠ a → H b = none := fun {b} n => by
    cases e : H b with
    | none => rfl
    | some u => exact absurd (only b (by rw [e]; simp)) n
  have keepNs : ∀ {b : Addr} {m : Str → Option Value}, s₁.heap.Ns b m → (hidT s₁.heap H).Ns b m := fun {b m} h => by
    obtain ⟨o, es, ep, e, dd, r⟩ := h
    refine ⟨o, es, ep, hidT_get e (free fun z => ?_), dd, r⟩
    subst z
    rw [ha] at e
    cases e
    cases dd
  have kIn : K.In (hidT s₁.heap H) := fun b o e => hidT_get (KX b o e) (by
    cases q : H b with
    | none => rfl
    | some u =>
      have z := only b (by rw [q]; simp)
      subst z
      rw [hka (by rw [q]; simp)] at e
      cases e)
  obtain ⟨mc, c1, c2⟩ := hlim
  obtain ⟨mm, o, es, ep, e1, e2, e3⟩ := hsee
  have sysf : H sysModules = none := free fun z => by
    subst z
    rw [ha] at e1
    cases e1
    cases e2
  refine ⟨⟨rfl, ⟨kIn, keepNs hns, ⟨mb, keepNs hb, hbb⟩, ⟨mc, keepNs c1, c2⟩⟩, fun b o e => of_hidT e, Nat.le_of_eq (hidT_size _ _), trivial, fun b z => absurd (show b ∈ ([] : List Addr) from z) (by simp), hok, .of_eq hg⟩, kIn, keepNs hns, ⟨o, hidT_get e1 sysf⟩, rfl⟩
/-- the law's call gives True, if its body does wherever it may run -/
theorem law_true (KX : K.In s₁.heap) (hns : s₁.heap.Ns mainGlobals mg) (hb : s₁.heap.Ns builtinsNs mb) (hbb : ∀ x : Str, x ≠ "__name__" → mb x = bootBuiltins x) (hlim : s₁.heap.NoLimit) (hsee : ∃ mm, s₁.heap.Ns sysModules mm) (hg : s₁.gens = #[])
    (ha : s₁.heap.get? a = some { cls := .type "list", data := .seq vs.toArray }) (hi : IntsAre vs ns) (hl : ns.length ≤ sizeLine) (hr : Room (k + 1) callerA)
    (F : Fun K "law" "law" st fa fd) (S : FnScope N [x] (defScope st)) (hbind : ∀ (s : Shared) (u : Value), BindsTo s fd ⟨[u], []⟩ [(x, u)])
    (body : ∀ (base : Heap) (A : Around) (s : Shared) (H : Hp) (cdv : Value), Bed K mg base A → Room k (A.deeper (envOfC "law" (defScope st) s.heap.objs.size fa cdv)) → SqL K H a (ns.map V.int) →
      ∃ t, PSs (cxOf CX0 P w K mg base N "law" (defScope st) fa cdv A [] s H E0).nox (defBody st) t ∧ t { nx := fun _ _ => False, rt := fun v _ => v = .bl true } (start N [.ref a]) H) :
    codeAny (model P w) callerA (.call (.ref fa) ⟨[.ref a], []⟩) (fun r s' => r = .ok (.ret (.bool true)) ∧ OldK s₁.heap s'.heap ∧ s'.os = s₁.os ∧ AllBare s'.gens) s₁ := by
  have rv := vals_ints hi
  have lenV := hi.length
  have go : ∀ H : Hp, (∀ b, H b = none ∨ ∃ o xs, H b = some (.frz o (.lst xs))) → SqL K H a (ns.map V.int) → Env0 P w K mg (hidT s₁.heap H) callerA [] s₁ H ∧ Bed K mg (hidT s₁.heap H) callerA →
      codeAny (model P w) callerA (.call (.ref fa) ⟨[.ref a], []⟩) (fun r s' => r = .ok (.ret (.bool true)) ∧ OldK s₁.heap s'.heap ∧ s'.os = s₁.os ∧ AllBare s'.gens) s₁ := by
    rintro H hO hS ⟨e0, B⟩
    have hok := e0.hok
    refine codeAny_mono (call_here (Q := fun v _ => v = .bl true) (vs := [.ref a]) (us := [.ref a]) F S hr e0 (hbind s₁ (.ref a)) rfl (.cons rfl .nil) fun cdv hr' => ?_) fun r s' h => ?_
    · obtain ⟨t, h1, h2⟩ := body (hidT s₁.heap H) callerA s₁ H cdv B hr' hS
      refine ⟨t, ⟨fun pins s0 σ H1 D I z => ?_⟩, ?_⟩
      · exact h1.run pins s0 σ H1 D I z
      · exact (show t { nx := fun _ _ => V.non = V.bl true, rt := fun v _ => v = V.bl true } (start N [.ref a]) H from by
          have e : (fun (_ : L2.St) (_ : Hp) => V.non = V.bl true) = fun _ _ => False := by funext _ _; simp
          rw [e]; exact h2)
    · match r, h with
      | .error e, h => exact False.elim h
      | .ok .next, h => exact False.elim h
      | .ok .brk, h => exact False.elim h
      | .ok .cont, h => exact False.elim h
      | .ok (.ret u), ⟨v, H', os, bare, un, hok', r', q⟩ =>
        subst q
        obtain rfl : u = Value.bool true := r'
        refine ⟨rfl, OldK.of_keep fun b o e => ?_, os, bare⟩
        rcases hO b with z | ⟨ob, xs, z⟩
        · exact un.keep b o e z (by intro m; exact absurd (show b ∈ ([] : List Addr) from m) (by simp)) (by simp)
        · obtain ⟨e1, _⟩ := hok b _ z
          obtain ⟨e2, _⟩ := hok' b _ (un.frzs b ob _ z)
          rw [e] at e1
          cases e1
          exact e2
  cases hk : K.lookup a with
  | some o =>
    have e := KX a o hk
    rw [ha] at e
    cases e
    refine go H0 (fun _ => .inl rfl) (.inr ⟨_, vs.toArray, _, hk, rfl, rfl, rfl, ?_, ?_⟩) (env_of KX hns hb hbb hlim hsee hg ha (fun b z => absurd rfl z) (fun z => absurd rfl z) fun b u z => nomatch (show (none : Option HO) = some u from z))
    · rw [List.size_toArray, lenV]
      exact hl
    · simpa using rv
  | none =>
    refine go (Hs a { cls := .type "list", data := .seq vs.toArray } (ns.map V.int)) (fun b => ?_) (.inl (.inr ⟨_, hs_at⟩)) (env_of KX hns hb hbb hlim hsee hg ha (fun b z => ?_) (fun _ => hk) fun b u z => ?_)
    · by_cases n : b = a
      · subst n
        exact .inr ⟨_, _, hs_at⟩
      · exact .inl (hs_no n)
    · by_cases n : b = a
      · exact n
      · exact absurd (hs_no n) z
    · by_cases n : b = a
      · subst n
        cases hs_at.symm.trans z
        exact ⟨ha, by rw [List.length_map]; exact hl, vs, _, rv, ha⟩
      · cases (hs_no n).symm.trans z
end
open PySem.W in
/-- the goal that the head leaves -/
theorem walk_law {l : PySem.W.OpenLaw} {n k : Nat} {q : Program} {loose : List Str} {XP : (Str → Option Value) → Heap → Prop} {YP : World → Heap → Prop} {d : DefRec} {K : Params → PySem.W.Frag} {x : Str} {st : Stmt} {N : List Str}
    (hn : l.most = some n) (hn2 : n ≤ sizeLine) (hdf : d.params.defaults = []) (hr : Room (k + 1) callerA) (hi : importsNone q = true) (S : FnScope N [x] (defScope st))
    (hY : ∀ (w : World) (h : Heap), YP w h → (K w.params).In h)
    (F : ∀ (w : World) (mg : Str → Option Value) (fa : Addr) (h : Heap), (K w.params).In h → h.Ns mainGlobals mg → mg d.name = some (.ref fa) →
      ∃ fd : FuncData, Fun (K w.params) "law" "law" st fa fd ∧ (∀ (s : Shared) (u : Value), BindsTo s fd ⟨[u], []⟩ [(x, u)]) ∧
        ∀ (base : Heap) (A : Around) (s : Shared) (H : Hp) (cdv : Value) (a : Addr) (ns : List Int), ns.length ≤ n → Bed (K w.params) mg base A → Room k (A.deeper (envOfC "law" (defScope st) s.heap.objs.size fa cdv)) → SqL (K w.params) H a (ns.map V.int) →
          ∃ t, PSs (cxOf CX0 l.prog w (K w.params) mg base N "law" (defScope st) fa cdv A [] s H E0).nox (defBody st) t ∧ t { nx := fun _ _ => False, rt := fun v _ => v = .bl true } (start N [.ref a]) H) :
    PySem.W.WalkO q loose XP YP l.row.toRowW d [] (fun f vs => PySem.call f vs) := by
  refine Att.attach_call hn hdf fun w s₀ s₁ mg mb fa o pm cd doc a vs ns G Y ho hd hcd hmg hobj hints hlen hg => ?_
  have KX := hY w _ Y
  obtain ⟨fd, F1, F2, F3⟩ := F w mg fa _ KX G.T.g hmg
  obtain ⟨mm, z, _⟩ := (G.T.seer hi).mods
  exact law_true KX G.T.g G.T.b G.T.builtins G.T.nolimit ⟨mm, z⟩ hg hobj hints (Nat.le_trans hlen hn2) hr F1 S F2 fun base A s H cdv B hr' hS => F3 base A s H cdv a ns hlen B hr' hS
end Ge

set_option Elab.async false
set_option linter.all false
set_option maxRecDepth 100000
set_option maxHeartbeats 4000000
/-! data that stand in the heap, dicts too; what repr says of them -/
namespace Gr
open PySem PySem.Spec PyProof.Rows L2 Gn
def keyD : Key → PyData
  | .inl i => .int i
  | .inr x => .str x
mutual
inductive Dr (H : Hp) : V → PyData → Prop
  | non : Dr H .non .none
  | bl (b : Bool) : Dr H (.bl b) (.bool b)
  | int (i : Int) : Dr H (.int i) (.int i)
  | str (x : Str) : Dr H (.str x) (.str x)
  | lst {a : Addr} {xs : List V} {ds : List PyData} : H a = some (.lst xs) → DrAll H xs ds → Dr H (.ref a) (.list ds)
  | tup {a : Addr} {xs : List V} {ds : List PyData} : H a = some (.tup xs) → DrAll H xs ds → Dr H (.ref a) (.tuple ds)
  | dct {a : Addr} {kvs : List (Key × V)} {ds : List (PyData × PyData)} : H a = some (.dK kvs) → DrKv H kvs ds → Dr H (.ref a) (.dict ds)
inductive DrAll (H : Hp) : List V → List PyData → Prop
  | nil : DrAll H [] []
  | cons {v : V} {vs : List V} {d : PyData} {ds : List PyData} : Dr H v d → DrAll H vs ds → DrAll H (v :: vs) (d :: ds)
inductive DrKv (H : Hp) : List (Key × V) → List (PyData × PyData) → Prop
  | nil : DrKv H [] []
  | cons {k : Key} {v : V} {kvs : List (Key × V)} {d : PyData} {ds : List (PyData × PyData)} : Dr H v d → DrKv H kvs ds → DrKv H ((k, v) :: kvs) ((keyD k, d) :: ds)
end
section
variable {H H' : Hp}
mutual
theorem Dr.mono (s : ∀ a o, H a = some o → H' a = some o) : ∀ (d : PyData) (v : V), Dr H v d → Dr H' v d
  | .none, _, h => by cases h; exact .non
  | .bool b, _, h => by cases h; exact .bl b
  | .int i, _, h => by cases h; exact .int i
  | .str x, _, h => by cases h; exact .str x
  | .list ds, _, h => by
    cases h with
    | lst e r => exact .lst (s _ _ e) (DrAll.mono s ds _ r)
  | .tuple ds, _, h => by
    cases h with
    | tup e r => exact .tup (s _ _ e) (DrAll.mono s ds _ r)
  | .dict ds, _, h => by
    cases h with
    | dct e r => exact .dct (s _ _ e) (DrKv.mono s ds _ r)
theorem DrAll.mono (s : ∀ a o, H a = some o → H' a = some o) : ∀ (ds : List PyData) (vs : List V), DrAll H vs ds → DrAll H' vs ds
  | [], _, h => by cases h; exact .nil
  | d :: ds, _, h => by
    cases h with
    | cons e r => exact .cons (Dr.mono s d _ e) (DrAll.mono s ds _ r)
theorem DrKv.mono (s : ∀ a o, H a = some o → H' a = some o) : ∀ (ds : List (PyData × PyData)) (vs : List (Key × V)), DrKv H vs ds → DrKv H' vs ds
  | [], _, h => by cases h; exact .nil
  | (k, d) :: ds, _, h => by
    cases h with
    | cons e r => exact .cons (Dr.mono s d _ e) (DrKv.mono s ds _ r)
end
theorem DrAll.snoc : ∀ {vs : List V} {ds : List PyData} {v : V} {d : PyData}, DrAll H vs ds → Dr H v d → DrAll H (vs ++ [v]) (ds ++ [d])
  | [], _, _, _, .nil, h => .cons h .nil
  | _ :: _, _, _, _, .cons e r, h => .cons e (DrAll.snoc r h)
theorem DrAll.length : ∀ {vs : List V} {ds : List PyData}, DrAll H vs ds → vs.length = ds.length
  | _, _, .nil => rfl
  | _, _, .cons _ r => by rw [List.length_cons, List.length_cons, DrAll.length r]
end
section
variable {X : Cx} {pins : List (Addr × Obj)} {σ : L2.St} {H : Hp} {s : Shared}
theorem rel_key {k : Key} {u : Value} (h : keyIs k u = true) {s : Heap} : Reads s u (keyD k) [] := by
  rcases keyIs_shape h with ⟨i, t, rfl, rfl⟩ | ⟨x, t, rfl, rfl⟩
  · exact .int i t
  · exact .str x t
theorem keys_read {h : Heap} {P : Program} {w : World} : ∀ (ds : List (PyData × PyData)) (kvs : List (Key × V)) (vs : List (Key × Value)) (es : List DictEntry), DrKv H kvs ds → KV kvs vs → Pairs (mixKind P w) es vs →
    ∃ as, ReadsAll h (es.map (·.key)) (ds.map (·.1)) as ∧ sysModules ∉ as
  | [], _, _, _, e, r, p => by
    cases e
    cases r
    cases p
    exact ⟨_, ReadsAll.nil, by simp⟩
  | (k, d) :: ds, _, _, _, e, r, p => by
    cases e with
    | cons h1 h2 =>
      cases r with
      | cons r1 r2 =>
        cases p with
        | cons p1 p2 p3 =>
          obtain ⟨bs, q2, n2⟩ := keys_read (h := h) ds _ _ _ h2 r2 p3
          obtain ⟨r3, _⟩ := r1
          rw [← r3] at p1
          exact ⟨_, ReadsAll.cons (rel_key p1) q2, fun m => n2 m⟩
theorem not_sys (I : Inv X pins σ H s) (hs : ∃ o, X.base.get? sysModules = some o) {a : Addr} {o : HO} (h : H a = some o) : sysModules ≠ a := fun e => by
  obtain ⟨ob, hob⟩ := hs
  have n := (I.bs _ _ hob).2
  rw [e, h] at n
  cases n
mutual
theorem Dr.reads (I : Inv X pins σ H s) (hs : ∃ o, X.base.get? sysModules = some o) : ∀ (d : PyData) (v : V) (u : Value), Dr H v d → RelV v u → ∃ as, Reads s.heap u d as ∧ sysModules ∉ as
  | .none, _, _, h, r => by
    cases h
    cases r
    exact ⟨_, Reads.none, by simp⟩
  | .bool b, _, _, h, r => by
    cases h
    cases r
    exact ⟨_, Reads.bool b, by simp⟩
  | .int i, _, _, h, r => by
    cases h
    obtain ⟨t, rfl⟩ := r
    exact ⟨_, Reads.int i t, by simp⟩
  | .str x, _, _, h, r => by
    cases h
    obtain ⟨t, rfl⟩ := r
    exact ⟨_, Reads.str x t, by simp⟩
  | .list ds, _, _, h, r => by
    cases h with
    | lst e ha =>
      cases r
      obtain ⟨its, rv, ⟨o, n, ho, hc, _, hd⟩, _⟩ := I.list (SqL.of e)
      obtain ⟨as, hr, hn⟩ := DrAll.reads I hs ds _ its ha rv
      exact ⟨_, Reads.list ho hc hd hr, fun m => by
        rcases List.mem_cons.mp m with z | z
        · exact not_sys I hs e z
        · exact hn z⟩
  | .tuple ds, _, _, h, r => by
    cases h with
    | tup e ha =>
      cases r
      obtain ⟨its, rv, ⟨o, ho, hc, n, hd⟩, _⟩ := I.tuple (SqT.of e)
      obtain ⟨as, hr, hn⟩ := DrAll.reads I hs ds _ its ha rv
      exact ⟨_, Reads.tuple ho hc hd hr, hn⟩
  | .dict ds, _, _, h, r => by
    cases h with
    | @dct a kvs _ e ha =>
      cases r
      obtain ⟨_, _, vs, kv, o, es, ep, ho, hx, hdt, _, ps, _⟩ := (show ObjOk X.prog X.w H s.heap a (.dK kvs) from I.hok a _ e)
      obtain ⟨as, hr, hn⟩ := DrKv.reads I hs ds kvs vs es.toList ha kv ps
      obtain ⟨bs, q1, q2⟩ := keys_read (h := s.heap) ds kvs vs es.toList ha kv ps
      exact ⟨_, Reads.dict ho hx.1 hdt q1 hr, fun m => by
        rcases List.mem_append.mp m with z | z
        · rcases List.mem_cons.mp z with z | z
          · exact not_sys I hs e z
          · exact q2 z
        · exact hn z⟩
theorem DrAll.reads (I : Inv X pins σ H s) (hs : ∃ o, X.base.get? sysModules = some o) : ∀ (ds : List PyData) (vs : List V) (us : List Value), DrAll H vs ds → Vals vs us → ∃ as, ReadsAll s.heap us ds as ∧ sysModules ∉ as
  | [], _, _, h, r => by
    cases h
    cases r
    exact ⟨_, ReadsAll.nil, by simp⟩
  | d :: ds, _, _, h, r => by
    cases h with
    | cons h1 h2 =>
      cases r with
      | cons r1 r2 =>
        obtain ⟨as, q1, n1⟩ := Dr.reads I hs d _ _ h1 r1
        obtain ⟨bs, q2, n2⟩ := DrAll.reads I hs ds _ _ h2 r2
        exact ⟨_, ReadsAll.cons q1 q2, fun m => (List.mem_append.mp m).elim n1 n2⟩
theorem DrKv.reads (I : Inv X pins σ H s) (hs : ∃ o, X.base.get? sysModules = some o) : ∀ (ds : List (PyData × PyData)) (kvs : List (Key × V)) (vs : List (Key × Value)) (es : List DictEntry), DrKv H kvs ds → KV kvs vs → Pairs (mixKind X.prog X.w) es vs →
    ∃ as, ReadsAll s.heap (es.map (·.val)) (ds.map (·.2)) as ∧ sysModules ∉ as
  | [], _, _, _, h, r, p => by
    cases h
    cases r
    cases p
    exact ⟨_, ReadsAll.nil, by simp⟩
  | (k, d) :: ds, _, _, _, h, r, p => by
    cases h with
    | cons h1 h2 =>
      cases r with
      | cons r1 r2 =>
        cases p with
        | cons p1 p2 p3 =>
          obtain ⟨as, q1, n1⟩ := Dr.reads I hs d _ _ h1 r1.2
          obtain ⟨bs, q2, n2⟩ := DrKv.reads I hs ds _ _ _ h2 r2 p3
          rw [← p2] at q1
          exact ⟨_, ReadsAll.cons q1 q2, fun m => (List.mem_append.mp m).elim n1 n2⟩
end
end
/-- repr(v), v any data -/
def rRepr : List V → Hp → VK → Prop := fun xs H Q => ∃ v d, xs = [v] ∧ Dr H v d ∧ d.showable = true ∧ d.depth ≤ 60 ∧ d.shown.length ≤ sizeLine ∧ Q (.str d.shown) H
theorem call_repr {X : Cx} (hg : X.A.guards = some []) (hu : X.A.units + 64 < cLine) (hs : ∃ o, X.base.get? sysModules = some o) : CallR X (.builtin "repr") rRepr := by
  intro pins s σ H xs us Q I r h
  obtain ⟨v, d, rfl, hd, sh, dp, sz, q⟩ := h
  obtain ⟨u, rfl, ru⟩ := vals1 r
  have fin : ∀ h' tk uk, (∀ b o, s.heap.get? b = some o → h'.get? b = some o) → EP X pins σ Q (.str d.shown uk) { s with heap := h', toks := tk } := fun h' tk uk k => ⟨.str d.shown, H, I.kept k, ⟨uk, rfl⟩, q⟩
  obtain ⟨as, hr, hn⟩ := Dr.reads I hs d v u hd ru
  cases hr with
  | none => exact PySem.P.repr_of_none (by have e := fin s.heap (s.toks + 1) s.toks (fun _ _ e => e); simpa only [PyData.shown] using e)
  | bool b => exact PySem.P.repr_of_bool (by have e := fin s.heap (s.toks + 1) s.toks (fun _ _ e => e); simpa only [PyData.shown] using e)
  | int i t => exact PySem.P.repr_of_int (by simpa [PyData.showable] using sh) (by have e := fin s.heap (s.toks + 1) s.toks (fun _ _ e => e); simpa only [PyData.shown] using e)
  | str x t => exact PySem.P.repr_of_str (by have e := fin s.heap (s.toks + 1) s.toks (fun _ _ e => e); simpa only [PyData.shown] using e) (by simpa only [PyData.shown] using sz)
  | list h1 h2 h3 h4 => exact repr_of_reads' (Reads.list h1 h2 h3 h4) sh (fun _ => hn) hg (by omega) (fun _ _ e => e) (fun h' u tk k => fin h' tk u k) sz
  | tuple h1 h2 h3 h4 => exact repr_of_reads' (Reads.tuple h1 h2 h3 h4) sh (fun _ => hn) hg (by omega) (fun _ _ e => e) (fun h' u tk k => fin h' tk u k) sz
  | dict h1 h2 h3 h4 h5 => exact repr_of_reads' (Reads.dict h1 h2 h3 h4 h5) sh (fun _ => hn) hg (by omega) (fun _ _ e => e) (fun h' u tk k => fin h' tk u k) sz
end Gr

set_option Elab.async false
set_option linter.all false
set_option maxRecDepth 100000
set_option maxHeartbeats 4000000
/-! more rules and words -/
namespace Gk
open PySem PySem.Spec PyProof.Rows L2 Gn Gr
section
variable {X : Cx} {CX : CXT} {k : Nat} {f : Addr} {fd : FuncData} {ps ks : List Str} {sp : Sp} {E : XK} {x : Str} {p pos : Pos} {kws : List Keyword} {tk : TA} {g : List Value → List Value → List Value} {gV : List V → List V → List V}
/-- f(k = v, ..) -/
theorem pe_kw (F : FnOk X.prog X.w X.K X.mg X.base CX k f fd ps sp) (hr : Room k X.A) (hg : Gl X x) (hm : X.mg x = some (.ref f)) (hk : PySem.W.keepIn X.K (.ref f) = true) (hb : KBinds X.K fd ps ks g gV) (hx : Passes CX X E) (hkw : PK X kws tk)
    (hall : (backToKw pos (keywordEach kws X.env)).all (·.1.isSome) = true := by rfl) (hks : (backToKw pos (keywordEach kws X.env)).filterMap (·.1) = ks := by rfl) (hdb : (x == ("__debug__" : Str)) = false := by decide)
    (hpl : ((backTo pos (starEach [] X.env)).any (·.1) || (backToKw pos (keywordEach kws X.env)).any (·.1.isNone)) = false := by rfl) :
    PE X (.Call (.Name x p) [] kws pos) (tCallK sp gV E tNil tk) := by
  refine ⟨fun pins s σ H Q I h => ?_⟩
  refine wpAny_Call_Name_kw (ld_glob I hg hm ?_ hdb)
  refine PySem.W.callWith_KW0 (h₀ := X.base) I.ok.mod.kin hk hall ?_ hpl
  refine thn (hkw.run pos pins s σ H _ I h) fun ws s2 ⟨zs, H2, I2, rz, q2⟩ => ⟨I2.kIn, ?_⟩
  rw [hks]
  exact run_fnk (us := []) (vs := []) F hr hb hx I2 .nil rz q2
/-- one parameter, given by its name or its place -/
theorem kb_one {K : PySem.W.Frag} {y : Str} (b : ∀ (s : Shared) (w : Value), BindsTo s fd ⟨[], [(y, w)]⟩ [(y, w)]) (b' : ∀ (s : Shared) (w : Value), BindsTo s fd ⟨[w], []⟩ [(y, w)]) : KBinds K fd [y] [y] (fun us ws => us ++ ws) (fun vs zs => vs ++ zs) := by
  refine ⟨fun s us ws _ hl => ?_, fun r q => Vals.append r q⟩
  match us, ws, hl with
  | [], [w], _ => exact b s w
  | [w], [], _ => exact b' s w
  | [], [], hl => exact absurd hl (by simp)
  | [], _ :: _ :: _, hl => exact absurd hl (by simp)
  | [_], _ :: _, hl => exact absurd hl (by simp)
  | _ :: _ :: _, _, hl => exact absurd hl (by simp)
end
/-- no test in a comprehension -/
theorem yes_of {σ : L2.St} {H : Hp} {A B : Hp → Prop} (h : A H) : tYes σ H (fun b H3 => if b = true then A H3 else B H3) := by
  show if true = true then A H else B H
  rw [if_pos rfl]
  exact h
/-! ## texts of signs below 128 -/
def Asc (n : Nat) (x : Str) : Prop := x.length ≤ n ∧ ∀ c ∈ x.cps.toList, c < 128
theorem len_cps (x : Str) : x.cps.toList.length = x.length := by simp [Str.length]
theorem cps_app (x y : Str) : (x ++ y).cps.toList = x.cps.toList ++ y.cps.toList := by
  show (x.cps ++ y.cps).toList = _
  simp
theorem Asc.app {n m : Nat} {x y : Str} (h : Asc n x) (k : Asc m y) : Asc (n + m) (x ++ y) := by
  refine ⟨by rw [strLen_append]; have := h.1; have := k.1; omega, fun c hc => ?_⟩
  rw [cps_app] at hc
  exact (List.mem_append.mp hc).elim (h.2 c) (k.2 c)
theorem Asc.mono {n m : Nat} {x : Str} (h : Asc n x) (k : n ≤ m) : Asc m x := ⟨Nat.le_trans h.1 k, h.2⟩
theorem Asc.one {c : Nat} (h : c < 128) : Asc 1 (⟨#[c]⟩ : Str) := ⟨Nat.le_refl _, fun b hb => by
  have : b = c := by simpa using hb
  omega⟩
theorem Asc.cut {n : Nat} {x : Str} (h : Asc n x) (lo hi : Option Int) : Asc n (cutS x lo hi) := by
  have e : (cutS x lo hi).cps.toList = (x.cps.toList.drop (HT.sIx x.length 0 lo)).take (HT.sIx x.length x.length hi - HT.sIx x.length 0 lo) := by
    unfold cutS
    simp
  refine ⟨?_, fun c hc => ?_⟩
  · rw [← len_cps, e, List.length_take, List.length_drop, len_cps]
    have := h.1
    omega
  · rw [e] at hc
    exact h.2 c (List.mem_of_mem_drop (List.mem_of_mem_take hc))
theorem Asc.ok {n : Nat} {x : Str} (h : Asc n x) : PyData.strOk x = true := by
  unfold PyData.strOk
  rw [Array.all_eq_true']
  intro c hc
  have := h.2 c (by simpa using hc)
  simp only [decide_eq_true_eq]
  omega
theorem Asc.shown {n : Nat} {x : Str} (h : Asc n x) : (reprText x).length ≤ 10 * n + 2 := by
  have := PySem.StrLaws.reprText_len x fun c hc => Nat.lt_of_lt_of_le (h.2 c hc) (by decide)
  have := h.1
  omega
/-! ## what is new since -/
def Nw (H H' : Hp) : Hp := fun a => match H a with | none => H' a | some _ => none
section
variable {H H' H2 : Hp} {a : Addr} {o : HO}
theorem nw_of (h : Nw H H' a = some o) : H a = none ∧ H' a = some o := by
  unfold Nw at h
  cases e : H a with
  | none => rw [e] at h; exact ⟨rfl, h⟩
  | some u => rw [e] at h; cases h
theorem nw_to (h : H a = none) (k : H' a = some o) : Nw H H' a = some o := by
  unfold Nw
  rw [h]
  exact k
theorem nw_sub : ∀ a o, Nw H H' a = some o → H' a = some o := fun a o h => (nw_of h).2
end
/-! ## numbers as texts -/
theorem shown_int {i : Int} (h : i.natAbs < 10 ^ 20) : (PyData.int i).showable = true ∧ (PyData.int i).shown.length ≤ 21 := by
  constructor
  · simp only [PyData.showable, decide_eq_true_eq]
    by_cases z : i.natAbs = 0
    · rw [z]; decide
    · refine (Nat.log2_lt z).mpr (Nat.lt_trans h ?_)
      decide +kernel
  · simp only [PyData.shown]
    show (Str.ofString (toString i)).length ≤ 21
    rw [PySem.ofString_length]
    exact int_text_length_le10 (by decide) h
/-! ## how much a value's text may hold -/
def Ok (n : Nat) (x : PyData) : Prop := x.showable = true ∧ x.depth ≤ n ∧ x.shown.length ≤ 200 * 4 ^ n
theorem pow_pos4 (n : Nat) : 1 ≤ 4 ^ n := Nat.pow_pos (by decide)
theorem pow_le4 {n m : Nat} (h : n ≤ m) : 4 ^ n ≤ 4 ^ m := Nat.pow_le_pow_right (by decide) h
theorem pow_s4 (n : Nat) : 4 ^ (n + 1) = 4 * 4 ^ n := by rw [Nat.pow_succ, Nat.mul_comm]
theorem Ok.mono {n m : Nat} {x : PyData} (h : Ok n x) (k : n ≤ m) : Ok m x :=
  ⟨h.1, Nat.le_trans h.2.1 k, Nat.le_trans h.2.2 (Nat.mul_le_mul_left _ (pow_le4 k))⟩
theorem Ok.flat {n : Nat} {x : PyData} (h1 : x.showable = true) (h2 : x.depth = 0) (h3 : x.shown.length ≤ 200) : Ok n x := by
  have := pow_pos4 n
  exact ⟨h1, by omega, by omega⟩
theorem ok_str {n : Nat} {x : Str} (h : Asc 19 x) : Ok n (.str x) := by
  have := h.shown
  refine Ok.flat (by simp only [PyData.showable]) (by simp only [PyData.depth]) ?_
  simp only [PyData.shown]
  omega
theorem ok_int {n : Nat} {i : Int} (h : i.natAbs < 10 ^ 20) : Ok n (.int i) := by
  obtain ⟨a, b⟩ := shown_int h
  exact Ok.flat a (by simp only [PyData.depth]) (by omega)
theorem ok_all {n : Nat} : ∀ {ds : List PyData}, (∀ x ∈ ds, Ok n x) → PyData.showableAll ds = true ∧ PyData.depthAll ds ≤ n ∧ (PyData.shownAll ds).length = ds.length ∧ ((PyData.shownAll ds).map (·.length)).sum ≤ ds.length * (200 * 4 ^ n)
  | [], _ => by
    refine ⟨by simp only [PyData.showableAll], by simp only [PyData.depthAll]; omega, by simp only [PyData.shownAll]; rfl, by simp only [PyData.shownAll]; simp⟩
  | x :: r, h => by
    obtain ⟨a1, a2, a3⟩ := h x (List.mem_cons_self ..)
    obtain ⟨b1, b2, b3, b4⟩ := ok_all (ds := r) fun y hy => h y (List.mem_cons_of_mem _ hy)
    refine ⟨?_, ?_, ?_, ?_⟩
    · simp only [PyData.showableAll, a1, b1, Bool.and_self]
    · simp only [PyData.depthAll]
      omega
    · simp only [PyData.shownAll, List.length_cons, b3]
    · simp only [PyData.shownAll, List.map_cons, List.sum_cons, List.length_cons]
      rw [Nat.succ_mul]
      omega
theorem two_mul {k n : Nat} (h : k ≤ 2) : k * (200 * 4 ^ n) ≤ 2 * (200 * 4 ^ n) := Nat.mul_le_mul_right _ h
theorem ok_list {n : Nat} {ds : List PyData} (h : ∀ x ∈ ds, Ok n x) (h2 : ds.length ≤ 2) : Ok (n + 1) (.list ds) := by
  obtain ⟨b1, b2, b3, b4⟩ := ok_all h
  have := listText_len_le (PyData.shownAll ds)
  have := two_mul (n := n) h2
  have := pow_pos4 n
  refine ⟨by simp only [PyData.showable, b1], by simp only [PyData.depth]; omega, ?_⟩
  simp only [PyData.shown]
  rw [pow_s4]
  omega
theorem ok_tuple {n : Nat} {ds : List PyData} (h : ∀ x ∈ ds, Ok n x) (h2 : ds.length ≤ 2) : Ok (n + 1) (.tuple ds) := by
  obtain ⟨b1, b2, b3, b4⟩ := ok_all h
  have := tupleText_len_le (PyData.shownAll ds)
  have := two_mul (n := n) h2
  have := pow_pos4 n
  refine ⟨by simp only [PyData.showable, b1], by simp only [PyData.depth]; omega, ?_⟩
  simp only [PyData.shown]
  rw [pow_s4]
  omega
theorem ok_kvs {n : Nat} : ∀ {ds : List (PyData × PyData)}, (∀ p ∈ ds, (∃ x, p.1 = .str x ∧ Asc 19 x) ∧ Ok n p.2) → PyData.showableKv ds = true ∧ PyData.depthKv ds ≤ n ∧ (PyData.shownKv ds).length = ds.length ∧ ((PyData.shownKv ds).map (·.length)).sum ≤ ds.length * (194 + 200 * 4 ^ n)
  | [], _ => by
    refine ⟨by simp only [PyData.showableKv], by simp only [PyData.depthKv]; omega, by simp only [PyData.shownKv]; rfl, by simp only [PyData.shownKv]; simp⟩
  | (kx, x) :: r, h => by
    obtain ⟨⟨y, e, hy⟩, a1, a2, a3⟩ := h (kx, x) (List.mem_cons_self ..)
    obtain ⟨b1, b2, b3, b4⟩ := ok_kvs (ds := r) fun y hy => h y (List.mem_cons_of_mem _ hy)
    have e : kx = .str y := e
    subst e
    have a1 : x.showable = true := a1
    have a2 : x.depth ≤ n := a2
    have a3 : x.shown.length ≤ 200 * 4 ^ n := a3
    have hy' := hy.shown
    refine ⟨?_, ?_, ?_, ?_⟩
    · simp only [PyData.showableKv, PyData.showable, a1, b1, Bool.and_self]
    · simp only [PyData.depthKv, PyData.depth]
      omega
    · simp only [PyData.shownKv, List.length_cons, b3]
    · simp only [PyData.shownKv, List.map_cons, List.sum_cons, List.length_cons, PyData.shown]
      rw [strLen_append, strLen_append, Nat.succ_mul]
      have e2 : ((": " : String) : Str).length = 2 := rfl
      omega
theorem ok_dict {n : Nat} {ds : List (PyData × PyData)} (h : ∀ p ∈ ds, (∃ x, p.1 = .str x ∧ Asc 19 x) ∧ Ok n p.2) (h2 : ds.length ≤ 2) : Ok (n + 1) (.dict ds) := by
  obtain ⟨b1, b2, b3, b4⟩ := ok_kvs h
  have := dictText_len_le (PyData.shownKv ds)
  have : ds.length * (194 + 200 * 4 ^ n) ≤ 2 * (194 + 200 * 4 ^ n) := Nat.mul_le_mul_right _ h2
  have := pow_pos4 n
  refine ⟨by simp only [PyData.showable, b1], by simp only [PyData.depth]; omega, ?_⟩
  simp only [PyData.shown]
  rw [pow_s4]
  omega
/-! ## keys '0', '1', .. -/
def tagS (n : Nat) : Str := ((toString (n : Int) : String) : Str)
def tags : Nat → List V → List (Key × V)
  | _, [] => []
  | n, v :: r => ((Sum.inr (tagS n) : Key), v) :: tags (n + 1) r
def tagD : Nat → List PyData → List (PyData × PyData)
  | _, [] => []
  | n, d :: r => (.str (tagS n), d) :: tagD (n + 1) r
theorem tags_snoc : ∀ (vs : List V) (n : Nat) (v : V), tags n (vs ++ [v]) = tags n vs ++ [((Sum.inr (tagS (n + vs.length)) : Key), v)]
  | [], n, v => rfl
  | w :: r, n, v => by
    have e : n + 1 + r.length = n + (w :: r).length := by rw [List.length_cons]; omega
    show (_, w) :: tags (n + 1) (r ++ [v]) = (_, w) :: (tags (n + 1) r ++ _)
    rw [tags_snoc r (n + 1) v, e]
theorem tags_dr {H : Hp} : ∀ {vs : List V} {ds : List PyData} (n : Nat), DrAll H vs ds → DrKv H (tags n vs) (tagD n ds)
  | _, _, _, .nil => .nil
  | _, _, n, .cons e r => .cons e (tags_dr (n + 1) r)
theorem tagD_len : ∀ (ds : List PyData) (n : Nat), (tagD n ds).length = ds.length
  | [], _ => rfl
  | _ :: r, n => by show (tagD (n + 1) r).length + 1 = r.length + 1; rw [tagD_len r]
theorem tag_asc {n : Nat} (h : n < 10) : Asc 19 (tagS n) := by
  have : n = 0 ∨ n = 1 ∨ n = 2 ∨ n = 3 ∨ n = 4 ∨ n = 5 ∨ n = 6 ∨ n = 7 ∨ n = 8 ∨ n = 9 := by omega
  rcases this with rfl | rfl | rfl | rfl | rfl | rfl | rfl | rfl | rfl | rfl <;> exact ⟨by decide +kernel, by decide +kernel⟩
theorem tagD_ok {m : Nat} : ∀ {ds : List PyData} (n : Nat), n + ds.length ≤ 9 → (∀ x ∈ ds, Ok m x) → ∀ p ∈ tagD n ds, (∃ x, p.1 = .str x ∧ Asc 19 x) ∧ Ok m p.2
  | [], _, _, _, p, hp => by cases hp
  | d :: r, n, hn, h, p, hp => by
    rw [List.length_cons] at hn
    rcases List.mem_cons.mp hp with e | hp
    · subst e
      exact ⟨⟨_, rfl, tag_asc (by omega)⟩, h d (List.mem_cons_self ..)⟩
    · exact tagD_ok (n + 1) (by omega) (fun x hx => h x (List.mem_cons_of_mem _ hx)) p hp
theorem tags_merge {vs : List V} (h : vs.length ≤ 2) : mergeK [] (tags 0 vs) = tags 0 vs := by
  match vs, h with
  | [], _ => rfl
  | [a], _ => rfl
  | [a, b], _ =>
    have n01 : ¬ (Sum.inr (tagS 0) : Key) = Sum.inr (tagS 1) := by decide +kernel
    show putK (putK [] (Sum.inr (tagS 0) : Key) a) (Sum.inr (tagS 1) : Key) b = [((Sum.inr (tagS 0) : Key), a), ((Sum.inr (tagS 1) : Key), b)]
    have e1 : putK [] (Sum.inr (tagS 0) : Key) a = [((Sum.inr (tagS 0) : Key), a)] := rfl
    rw [e1]
    exact putK_new b ((valV_neg n01).trans valV_nil)
/-- .. and a text is made of signs below 128 -/
def OkT (n : Nat) (x : PyData) : Prop := Ok n x ∧ ∀ s, x = .str s → Asc 19 s
theorem okT_of {n : Nat} {x : PyData} (h : Ok n x) (k : ∀ s, x ≠ .str s) : OkT n x := ⟨h, fun s e => absurd e (k s)⟩
theorem okT_str {n : Nat} {x : Str} (h : Asc 19 x) : OkT n (.str x) := ⟨ok_str h, fun s e => by cases e; exact h⟩
/-! ## the type of a value -/
def Ext (H H' : Hp) : Prop := ∀ a o, H a = some o → H' a = some o
theorem Ext.refl {H : Hp} : Ext H H := fun _ _ e => e
theorem Ext.trans {H H' H2 : Hp} (h : Ext H H') (k : Ext H' H2) : Ext H H2 := fun a o e => k a o (h a o e)
theorem Ext.new {H : Hp} {p : Addr} {o : HO} (h : H p = none) : Ext H (upd H p o) := fun a u e => new_same h a u e
inductive TyT (H : Hp) : V → String → Prop
  | non : TyT H .non "NoneType"
  | bl (b : Bool) : TyT H (.bl b) "bool"
  | int (i : Int) : TyT H (.int i) "int"
  | str (x : Str) : TyT H (.str x) "str"
  | lst {a : Addr} {xs : List V} : H a = some (.lst xs) → TyT H (.ref a) "list"
  | tup {a : Addr} {xs : List V} : H a = some (.tup xs) → TyT H (.ref a) "tuple"
  | dct {a : Addr} {kvs : List (Key × V)} : H a = some (.dK kvs) → TyT H (.ref a) "dict"
theorem TyT.x {K : PySem.W.Frag} {H : Hp} {v : V} {T : String} (h : TyT H v T) : TyX K H v (.type T) := by
  cases h with
  | non => exact .base .non
  | bl b => exact .base (.bl b)
  | int i => exact .base (.int i)
  | str x => exact .base (.str x)
  | lst e => exact .base (.lst e)
  | tup e => exact .base (.tup e)
  | dct e => exact .base (.dK e)
theorem TyT.ext {H H' : Hp} {v : V} {T : String} (h : TyT H v T) (k : Ext H H') : TyT H' v T := by
  cases h with
  | non => exact .non
  | bl b => exact .bl b
  | int i => exact .int i
  | str x => exact .str x
  | lst e => exact .lst (k _ _ e)
  | tup e => exact .tup (k _ _ e)
  | dct e => exact .dct (k _ _ e)
theorem dr_ty {H : Hp} {v : V} {x : PyData} (h : Dr H v x) : (∃ s, v = .str s ∧ x = .str s) ∨ (∃ i, v = .int i) ∨ (TyT H v "NoneType" ∨ TyT H v "bool" ∨ TyT H v "list" ∨ TyT H v "tuple" ∨ TyT H v "dict") := by
  cases h with
  | non => exact .inr (.inr (.inl .non))
  | bl b => exact .inr (.inr (.inr (.inl (.bl b))))
  | int i => exact .inr (.inl ⟨i, rfl⟩)
  | str x => exact .inl ⟨x, rfl, rfl⟩
  | lst e _ => exact .inr (.inr (.inr (.inr (.inl (.lst e)))))
  | tup e _ => exact .inr (.inr (.inr (.inr (.inr (.inl (.tup e))))))
  | dct e _ => exact .inr (.inr (.inr (.inr (.inr (.inr (.dct e))))))
/-- isinstance of a value whose type is told -/
theorem isi_ty {K : PySem.W.Frag} {H : Hp} {v : V} {T U : String} {r : Bool} {Q : VK} (h : TyT H v T) (k : kitB T U = some r) (q : Q (.bl r) H) : rIsi K [v, .ty U] H Q :=
  ⟨v, .ty U, .type T, .type U, r, rfl, .ty U, h.x, kit_ty k, q⟩
/-! ## what a name is, what an amount is -/
def letters : Str := "abcdefghijklmnopqrstuvwxyz"
def isL (c : Nat) : Bool := decide (c ∈ letters.cps.toList)
def nameOk (x : Str) : Bool := decide (1 ≤ x.length) && (decide (x.length ≤ 8) && x.cps.toList.all isL)
def amtOk (i : Int) : Bool := decide (1 ≤ i) && decide (i ≤ 1000000000)
def NameV (H : Hp) (v : V) (r : Bool) : Prop := (∃ x, v = .str x ∧ Asc 19 x ∧ r = nameOk x) ∨ (r = false ∧ (TyT H v "NoneType" ∨ TyT H v "bool" ∨ TyT H v "int" ∨ TyT H v "list" ∨ TyT H v "tuple" ∨ TyT H v "dict"))
def AmtV (H : Hp) (v : V) (r : Bool) : Prop := (∃ i, v = .int i ∧ r = amtOk i) ∨ (r = false ∧ (TyT H v "NoneType" ∨ TyT H v "bool" ∨ TyT H v "str" ∨ TyT H v "list" ∨ TyT H v "tuple" ∨ TyT H v "dict"))
def spName : Sp := fun vs H Q _ => ∃ v r, vs = [v] ∧ NameV H v r ∧ ∀ H', Ext H H' → Q (.bl r) H'
def spAmt : Sp := fun vs H Q _ => ∃ v r, vs = [v] ∧ AmtV H v r ∧ ∀ H', Ext H H' → Q (.bl r) H'
theorem NameV.ext {H H' : Hp} {v : V} {r : Bool} (h : NameV H v r) (k : Ext H H') : NameV H' v r := by
  rcases h with h | ⟨e, h⟩
  · exact .inl h
  · refine .inr ⟨e, ?_⟩
    rcases h with h | h | h | h | h | h
    · exact .inl (h.ext k)
    · exact .inr (.inl (h.ext k))
    · exact .inr (.inr (.inl (h.ext k)))
    · exact .inr (.inr (.inr (.inl (h.ext k))))
    · exact .inr (.inr (.inr (.inr (.inl (h.ext k)))))
    · exact .inr (.inr (.inr (.inr (.inr (h.ext k)))))
theorem AmtV.ext {H H' : Hp} {v : V} {r : Bool} (h : AmtV H v r) (k : Ext H H') : AmtV H' v r := by
  rcases h with h | ⟨e, h⟩
  · exact .inl h
  · refine .inr ⟨e, ?_⟩
    rcases h with h | h | h | h | h | h
    · exact .inl (h.ext k)
    · exact .inr (.inl (h.ext k))
    · exact .inr (.inr (.inl (h.ext k)))
    · exact .inr (.inr (.inr (.inl (h.ext k))))
    · exact .inr (.inr (.inr (.inr (.inl (h.ext k)))))
    · exact .inr (.inr (.inr (.inr (.inr (h.ext k)))))
theorem dr_judged {H : Hp} {v : V} {x : PyData} {n : Nat} (h : Dr H v x) (k : OkT n x) : (∃ r, NameV H v r) ∧ ∃ r, AmtV H v r := by
  rcases dr_ty h with ⟨s, rfl, rfl⟩ | ⟨i, rfl⟩ | h | h | h | h | h
  · exact ⟨⟨_, .inl ⟨s, rfl, k.2 s rfl, rfl⟩⟩, ⟨false, .inr ⟨rfl, .inr (.inr (.inl (.str s)))⟩⟩⟩
  · exact ⟨⟨false, .inr ⟨rfl, .inr (.inr (.inl (.int i)))⟩⟩, ⟨_, .inl ⟨i, rfl, rfl⟩⟩⟩
  · exact ⟨⟨false, .inr ⟨rfl, .inl h⟩⟩, ⟨false, .inr ⟨rfl, .inl h⟩⟩⟩
  · exact ⟨⟨false, .inr ⟨rfl, .inr (.inl h)⟩⟩, ⟨false, .inr ⟨rfl, .inr (.inl h)⟩⟩⟩
  · exact ⟨⟨false, .inr ⟨rfl, .inr (.inr (.inr (.inl h)))⟩⟩, ⟨false, .inr ⟨rfl, .inr (.inr (.inr (.inl h)))⟩⟩⟩
  · exact ⟨⟨false, .inr ⟨rfl, .inr (.inr (.inr (.inr (.inl h))))⟩⟩, ⟨false, .inr ⟨rfl, .inr (.inr (.inr (.inr (.inl h))))⟩⟩⟩
  · exact ⟨⟨false, .inr ⟨rfl, .inr (.inr (.inr (.inr (.inr h))))⟩⟩, ⟨false, .inr ⟨rfl, .inr (.inr (.inr (.inr (.inr h))))⟩⟩⟩
end Gk

set_option Elab.async false
set_option linter.all false
set_option maxRecDepth 100000
set_option maxHeartbeats 4000000
/-! rules for objects: static methods, keywords of a method, == and != by an own __eq__, tuple(dict) -/
namespace Go
open PySem PySem.Spec PyProof.Rows L2 Gn Gr Gk
section
variable {X : Cx} {CX : CXT} {k n : Nat} {C f g p : Addr} {mc : Value} {fd : FuncData} {ps ks : List Str} {sp : Sp} {E : XK} {o e : Expr} {es : List Expr} {kws : List Keyword} {m : Str} {pos apos : Pos} {ta : TE} {t tk : TA} {pl : Sem Bool} {gg : List Value → List Value → List Value} {gV : List V → List V → List V}
/-! ### a static method, through its class -/
structure SMet (K : PySem.W.Frag) (C : Addr) (mc : Value) (m : Str) (p g : Addr) : Prop where
  at_ : PySem.W.findCls K (.ref C) mc m = some (.get (.builtin "staticmethod.__get__") (.ref p) .none (.ref C))
  rc : ∃ rest, PySem.W.recIn K p "staticmethod" = some (.ref g :: rest)
theorem getsm_ok {pins : List (Addr × Obj)} {σ : L2.St} {H : Hp} {s : Shared} {A : Around} {E : Value → Shared → Prop} {Q : Value × List Value → Shared → Prop} (I : Inv X pins σ H s) (r : ClX.CRead X.K C mc) (c : SMet X.K C mc m p g)
    (h : ∀ s', Inv X pins σ H s' → Q (.ref g, []) s') : wpAny (model X.prog X.w) A (getMethod (.ref C) m pl) Q E s := by
  obtain ⟨rest, hp⟩ := c.rc
  refine PySem.W.method_cls I.kIn r.ga (PySem.W.cls_bind I.kIn r.rd c.at_ (wpAny_call (PySem.W.sm_get (s := { s with toks := s.toks + 1 }) I.kIn hp (PySem.W.handed_on rfl ?_))))
  exact h _ (I.tok _)
def tSMeth (C : Addr) (sp : Sp) (E : XK) (ta : TE) (t : TA) : TE := fun σ H Q => ta σ H fun x H1 => x = .ref C ∧ t σ H1 fun vs H2 => sp vs H2 Q E
theorem pe_smeth (he : PE X o ta) (r : ClX.CRead X.K C mc) (c : SMet X.K C mc m p g) (hk : PySem.W.keepIn X.K (.ref g) = true) (F : FnOk X.prog X.w X.K X.mg X.base CX k g fd ps sp) (hr : Room k X.A) (hb : Binds X.K fd ps []) (hx : Passes CX X E) (ha : PA X (e :: es) t)
    (hst : starEach (e :: es) X.env = (false, eval e X.env) :: starEach es X.env := by rfl) (hpl : (backTo pos (starEach es X.env)).any (·.1) = false := by rfl)
    (ht : eval (.Call (.Attribute o m apos) (e :: es) [] pos) X.env = (do
      let ov ← eval o X.env
      standAt apos.atName
      let (f, first) ← holding [ov] (getMethod ov m pl)
      callWith pos f first (backTo pos (starEach (e :: es) X.env)) (backToKw pos (keywordEach [] X.env))) := by rfl) :
    PE X (.Call (.Attribute o m apos) (e :: es) [] pos) (tSMeth C sp E ta t) := by
  refine ⟨fun pins s σ H Q I h => ?_⟩
  refine PySem.W.methodCall_KW (pl := pl) (thn (he.run pins s σ H _ I h) fun u s1 ⟨x, H1, I1, rx, ex, q⟩ => ?_) ht
  subst ex
  obtain rfl : u = Value.ref C := rx
  refine getsm_ok I1 r c fun s2 I2 => ?_
  refine PySem.W.callWith_K (first := []) (h₀ := X.base) I2.ok.mod.kin hk (thn (ha.run pos pins s2 σ H1 _ I2 q) fun us s3 ⟨vs, H2, I3, rv, q2⟩ => ⟨I3.kIn, ?_⟩) hst hpl
  exact run_fn (us := us) (vs := vs) (dvs := []) F hr hb .nil hx I3 rv (by rw [List.append_nil]; exact q2)
def tSMethK (C : Addr) (sp : Sp) (gV : List V → List V → List V) (E : XK) (ta : TE) (tk : TA) : TE := fun σ H Q => ta σ H fun x H1 => x = .ref C ∧ tk σ H1 fun zs H2 => sp (gV [] zs) H2 Q E
theorem pe_smethK (he : PE X o ta) (r : ClX.CRead X.K C mc) (c : SMet X.K C mc m p g) (hk : PySem.W.keepIn X.K (.ref g) = true) (F : FnOk X.prog X.w X.K X.mg X.base CX k g fd ps sp) (hr : Room k X.A) (hb : KBinds X.K fd ps ks gg gV) (hx : Passes CX X E) (hkw : PK X kws tk)
    (hall : (backToKw pos (keywordEach kws X.env)).all (·.1.isSome) = true := by rfl) (hks : (backToKw pos (keywordEach kws X.env)).filterMap (·.1) = ks := by rfl)
    (hpl : ((backTo pos (starEach [] X.env)).any (·.1) || (backToKw pos (keywordEach kws X.env)).any (·.1.isNone)) = false := by rfl)
    (ht : eval (.Call (.Attribute o m apos) [] kws pos) X.env = (do
      let ov ← eval o X.env
      standAt apos.atName
      let (f, first) ← holding [ov] (getMethod ov m pl)
      callWith pos f first (backTo pos (starEach [] X.env)) (backToKw pos (keywordEach kws X.env))) := by rfl) :
    PE X (.Call (.Attribute o m apos) [] kws pos) (tSMethK C sp gV E ta tk) := by
  refine ⟨fun pins s σ H Q I h => ?_⟩
  refine PySem.W.methodCall_KW (pl := pl) (thn (he.run pins s σ H _ I h) fun u s1 ⟨x, H1, I1, rx, ex, q⟩ => ?_) ht
  subst ex
  obtain rfl : u = Value.ref C := rx
  refine getsm_ok I1 r c fun s2 I2 => ?_
  refine PySem.W.callWith_KW0 (first := []) (h₀ := X.base) I2.ok.mod.kin hk hall ?_ hpl
  refine thn (hkw.run pos pins s2 σ H1 _ I2 q) fun ws s3 ⟨zs, H2, I3, rz, q2⟩ => ⟨I3.kIn, ?_⟩
  rw [hks]
  exact run_fnk (us := []) (vs := []) F hr hb hx I3 .nil rz q2
/-! ### o.m(k = v) -/
def tMethK (C : Addr) (m : Str) (sp : Sp) (gV : List V → List V → List V) (E : XK) (ta : TE) (tk : TA) : TE := fun σ H Q => ta σ H fun x H1 => ∃ a dx fs, x = .ref a ∧ H1 a = some (.ins C dx fs) ∧ fs.lookup m = none ∧ tk σ H1 fun zs H2 => sp (gV [x] zs) H2 Q E
theorem pe_methK (he : PE X o ta) (c : Cls X.K C) (hm : Meth X.K C m f) (F : FnOk X.prog X.w X.K X.mg X.base CX k f fd ps sp) (hr : Room k X.A) (hb : KBinds X.K fd ps ks gg gV) (hx : Passes CX X E) (hkw : PK X kws tk)
    (hall : (backToKw pos (keywordEach kws X.env)).all (·.1.isSome) = true := by rfl) (hks : (backToKw pos (keywordEach kws X.env)).filterMap (·.1) = ks := by rfl)
    (hpl : ((backTo pos (starEach [] X.env)).any (·.1) || (backToKw pos (keywordEach kws X.env)).any (·.1.isNone)) = false := by rfl)
    (ht : eval (.Call (.Attribute o m apos) [] kws pos) X.env = (do
      let ov ← eval o X.env
      standAt apos.atName
      let (f, first) ← holding [ov] (getMethod ov m pl)
      callWith pos f first (backTo pos (starEach [] X.env)) (backToKw pos (keywordEach kws X.env))) := by rfl) :
    PE X (.Call (.Attribute o m apos) [] kws pos) (tMethK C m sp gV E ta tk) := by
  refine ⟨fun pins s σ H Q I h => ?_⟩
  refine PySem.W.methodCall_KW (pl := pl) (thn (he.run pins s σ H _ I h) fun u s1 ⟨x, H1, I1, rx, a, dx, fs, ex, ea, l, q⟩ => ?_) ht
  subst ex
  obtain rfl : u = Value.ref a := rx
  refine getmeth_ok I1 ea c hm l ?_
  refine PySem.W.callWith_KW0 (first := [.ref a]) (h₀ := X.base) I1.ok.mod.kin hm.kp hall ?_ hpl
  refine thn (hkw.run pos pins s1 σ H1 _ I1 q) fun ws s3 ⟨zs, H2, I3, rz, q2⟩ => ⟨I3.kIn, ?_⟩
  rw [hks]
  exact run_fnk (us := [.ref a]) (vs := [.ref a]) F hr hb hx I3 (.cons rfl .nil) rz q2
/-! ### == and != by an own __eq__ -/
/-- the own __eq__ at f of the class at C; no __ne__ besides object's -/
structure OwnE (K : PySem.W.Frag) (C f : Addr) : Prop where
  eq : PySem.W.findIn K (.ref C) "__eq__" = some (some (.ref f))
  fn : PySem.W.isFn K (.ref f) = true
  cls : ∃ nm q N bs hdct sn sub ab col dd k0 k1 k2 k3 k5 newId, K.lookup C = some (excClassObj nm q C N bs [.type "object"] hdct sn sub ab col dd k0 k1 k2 k3 k5 newId) ∧ PySem.W.nsOkIn K N = true ∧ PySem.W.nsIn K N "__eq__" = some (some (.ref f)) ∧ PySem.W.nsIn K N "__ne__" = some none
  ob : ∃ of : Obj, K.lookup f = some of ∧ of.cls = .type "function"
/-- two instances of the class; the own == is asked -/
def rOwn (C : Addr) (sp : Sp) (E : XK) (neg : Bool) : R2 := fun x y H Q => ∃ a b dx dy fs gs, x = .ref a ∧ y = .ref b ∧ H a = some (.ins C dx fs) ∧ H b = some (.ins C dy gs) ∧ sp [.ref a, .ref b] H (fun v H' => ∃ r, v = .bl r ∧ Q (.bl (if neg then !r else r)) H') E
theorem op_eqO (F : FnOk X.prog X.w X.K X.mg X.base CX n f fd ps sp) (hr : Room n X.A) (w : OwnE X.K C f) (hb : Binds X.K fd ps []) (hx : Passes CX X E) : OpR X (compareOp .Eq) (rOwn C sp E false) := by
  intro pins s σ H x y v u Q I rx ry h
  obtain ⟨a, b, dx, dy, fs, gs, rfl, rfl, ha, hb', hs⟩ := h
  cases rx
  cases ry
  obtain ⟨mA, O1, _⟩ := ins_get I.hok ha
  obtain ⟨mB, O2, _⟩ := ins_get I.hok hb'
  obtain ⟨od, J, _⟩ := O1.look
  obtain ⟨od', J', _⟩ := O2.look
  obtain ⟨m, hF⟩ := I.fr
  show wpAny (model X.prog X.w) X.A (richCompare .Eq (.ref a) (.ref b)) (EP X pins σ Q) X.xe s
  refine PySem.W.cmp_K (op := .Eq) (tb := .ref C) hr.units0 hF I.ok.mod.kin J J'.type (by simp [PySem.W.notFirst]) w.eq w.fn ?_
  refine thn (run_fn (us := [.ref a, .ref b]) (vs := [.ref a, .ref b]) (dvs := []) F hr hb .nil hx I (.cons rfl (.cons rfl .nil)) (by rw [List.append_nil]; exact hs)) fun r s' hq => ?_
  obtain ⟨z, H', I', rz, c, rfl, q⟩ := hq
  cases rz
  exact ⟨.bl c, H', I', rfl, q⟩
theorem ns_has {K : PySem.W.Frag} {h : Heap} {N : Addr} {m : Str → Option Value} {x : Str} {v : Value} (X : K.In h) (G : h.Ns N m) (e : PySem.W.nsIn K N x = some (some v)) : m x = some v := by
  obtain ⟨o, es, ep, ho, hd, _, hf⟩ := G
  rw [← hf]
  unfold PySem.W.nsIn at e
  cases q : K.lookup N with
  | none => rw [q] at e; cases e
  | some ob =>
    have z := X _ _ q
    rw [ho] at z
    cases z
    rw [q] at e
    obtain ⟨c, dd, dt, sl⟩ := o
    have hd : dt = .dict es ep := hd
    subst hd
    simp only at e
    unfold nsFind findBy
    rw [← Array.find?_toList]
    split at e
    · rename_i en he
      rw [he]
      cases e
      rfl
    · split at e <;> cases e
theorem eq_obj : ∃ y : Option Value, typeLookup (.type "object") "__eq__" = pure y := ⟨_, PySem.F.slot_object_eq.lookup⟩
theorem op_neO (F : FnOk X.prog X.w X.K X.mg X.base CX n f fd ps sp) (hr : Room (n + 1) X.A) (w : OwnE X.K C f) (hb : Binds X.K fd ps []) (hx : ∀ (pins : List (Addr × Obj)) (σ : L2.St) (H : Hp) (s : Shared) (e : Value) (s' : Shared), Inv X pins σ H s → CX X.stack H s E e s' → X.xe e s') : OpR X (compareOp .NotEq) (rOwn C sp E true) := by
  intro pins s σ H x y v u Q I rx ry h
  obtain ⟨a, b, dx, dy, fs, gs, rfl, rfl, ha, hb', hs⟩ := h
  cases rx
  cases ry
  obtain ⟨mA, O1, _⟩ := ins_get I.hok ha
  obtain ⟨mB, O2, _⟩ := ins_get I.hok hb'
  obtain ⟨nm, q, N, bs, hdct, sn, sub, ab, col, dd, k0, k1, k2, k3, k5, newId, hC, hN, he, hn⟩ := w.cls
  obtain ⟨of, ho, hoc⟩ := w.ob
  obtain ⟨yv, hy⟩ := eq_obj
  have G : s.heap.Ns N (s.heap.nsMap N) := .of_isNs (PySem.W.isNs_of_in I.kIn hN)
  have hl : ([Value.ref a, Value.ref b] ++ []).length = ps.length := by
    have := F.len _ _ _ _ hs
    simpa using this
  obtain ⟨_, _, _, ea, _⟩ := (show ObjOk X.prog X.w H s.heap a (.ins C dx fs) from I.hok a _ ha)
  obtain ⟨_, _, _, eb, _⟩ := (show ObjOk X.prog X.w H s.heap b (.ins C dy gs) from I.hok b _ hb')
  have W : s.heap.OwnEqNoNe a C f "object" [.type "object"] :=
    ⟨_, of, nm, q, N, bs, hdct, sn, sub, ab, col, dd, k0, k1, k2, k3, k5, newId, s.heap.nsMap N, yv, ea, rfl, I.kIn _ _ hC, G, ns_has I.kIn G he, I.kIn _ _ ho, hoc, PySem.F.cmp_object.mro, hy, PySem.W.ns_none_of I.kIn G hn⟩
  have hbind : BindsTo s fd ⟨[.ref a, .ref b], []⟩ (ps.zip [.ref a, .ref b]) := hb s [.ref a, .ref b] I.kIn hl
  have run := F.run X.A.in1 X.stack s H ⟨[.ref a, .ref b], []⟩ [.ref a, .ref b] [.ref a, .ref b] _ E (hr.in1) I.env0.in1 hbind (.cons rfl (.cons rfl .nil)) hs
  obtain ⟨hp, g, d, tk, os⟩ := s
  refine compareOp_ne_ownEq PySem.F.cmp_object W eb rfl (by have := hr.units; omega) (wpAny_call (codeAny_mono run fun r s' hq => ?_))
  cases r with
  | error e => exact hx pins σ H _ e s' I hq
  | ok fl =>
    cases fl with
    | ret u =>
      obtain ⟨z, H', I', rz, c, rfl, q⟩ := I.after hq
      cases rz
      exact ⟨c, rfl, .bl (!c), H', I', rfl, q⟩
    | next => exact False.elim hq
    | brk => exact False.elim hq
    | cont => exact False.elim hq
end
end Go

set_option Elab.async false
set_option linter.all false
set_option maxRecDepth 100000
set_option maxHeartbeats 4000000
/-! forests as data: rows, their text, what is a forest -/
namespace Gf
open PySem PySem.Spec PyProof.Rows L2 TL Gn Gr Gk
abbrev FRow := Str × Option Str
def parV : Option Str → V
  | none => .non
  | some m => .str m
def kvOf (r : FRow) : Key × V := (Sum.inr r.1, parV r.2)
def wordsOf : FRow → List Str
  | (n, none) => ["account", n]
  | (n, some m) => ["account", n, "in", m]
def lineOf (r : FRow) : Str := Txt.join " " (wordsOf r)
def textOf (rs : List FRow) : Str := Txt.join "\n" (rs.map lineOf ++ [Str.empty])
def fNames (rs : List FRow) : List Str := rs.map (·.1)
/-- the row may stand behind these names -/
def RowOk (E : List Str) (r : FRow) : Prop := nameOk r.1 = true ∧ r.1 ∉ E ∧ ∀ m, r.2 = some m → m ∈ E
def GoodF : List Str → List FRow → Prop
  | _, [] => True
  | E, r :: rs => RowOk E r ∧ GoodF (E ++ [r.1]) rs
theorem good_at : ∀ {rs : List FRow} {E : List Str} {i : Nat} {r : FRow}, GoodF E rs → rs[i]? = some r → RowOk (E ++ fNames (rs.take i)) r
  | [], _, _, _, _, h => by simp at h
  | x :: rs, E, 0, r, g, h => by
    simp only [List.getElem?_cons_zero, Option.some.injEq] at h
    subst h
    simpa [fNames] using g.1
  | x :: rs, E, i + 1, r, g, h => by
    have q := good_at g.2 (show rs[i]? = some r by simpa using h)
    simpa [fNames, List.append_assoc] using q
theorem good_snoc : ∀ {rs : List FRow} {E : List Str} {r : FRow}, GoodF E rs → RowOk (E ++ fNames rs) r → GoodF E (rs ++ [r])
  | [], E, r, g, h => ⟨by simpa [fNames] using h, trivial⟩
  | x :: rs, E, r, g, h => ⟨g.1, good_snoc g.2 (by simpa [fNames, List.append_assoc] using h)⟩
theorem names_take (rs : List FRow) (i : Nat) : fNames (rs.take i) = (fNames rs).take i := by unfold fNames; rw [List.map_take]
theorem good_mem {rs : List FRow} (g : GoodF [] rs) {r : FRow} (h : r ∈ rs) : nameOk r.1 = true ∧ ∀ m, r.2 = some m → m ∈ fNames rs ∧ nameOk m = true := by
  obtain ⟨i, hi⟩ := List.mem_iff_getElem?.mp h
  have q := good_at g hi
  rw [List.nil_append] at q
  have nm : ∀ m, m ∈ fNames rs → nameOk m = true := by
    intro m hm
    obtain ⟨z, hz, rfl⟩ := List.mem_map.mp hm
    obtain ⟨j, hj⟩ := List.mem_iff_getElem?.mp hz
    exact (good_at g hj).1
  refine ⟨q.1, fun m hm => ?_⟩
  have z := q.2.2 m hm
  rw [names_take] at z
  have z2 := List.mem_of_mem_take z
  exact ⟨z2, nm m z2⟩
theorem good_nodup : ∀ {rs : List FRow} {E : List Str}, GoodF E rs → (fNames rs).Nodup ∧ ∀ n ∈ fNames rs, n ∉ E
  | [], _, _ => by simp [fNames]
  | x :: rs, E, g => by
    obtain ⟨a, b⟩ := good_nodup g.2
    constructor
    · show (x.1 :: fNames rs).Nodup
      refine List.nodup_cons.mpr ⟨fun h => ?_, a⟩
      exact b _ h (by simp)
    · intro n hn
      rcases List.mem_cons.mp (show n ∈ x.1 :: fNames rs from hn) with rfl | h
      · exact g.1.2.1
      · exact fun z => b n h (by simp [z])
/-! names -/
theorem name_len {x : Str} (h : nameOk x = true) : 1 ≤ x.length ∧ x.length ≤ 8 := by
  unfold nameOk at h
  simp only [Bool.and_eq_true, decide_eq_true_eq] at h
  exact ⟨h.1, h.2.1⟩
theorem letters_lo : ∀ c ∈ letters.cps.toList, 96 < c ∧ c < 123 := by decide +kernel
theorem name_cps {x : Str} (h : nameOk x = true) : ∀ c ∈ x.cps.toList, 96 < c ∧ c < 123 := by
  unfold nameOk at h
  simp only [Bool.and_eq_true, decide_eq_true_eq] at h
  intro c hc
  have := List.all_eq_true.mp h.2.2 c hc
  exact letters_lo c (by simpa [isL] using this)
theorem name_asc {x : Str} (h : nameOk x = true) : Asc 8 x := ⟨(name_len h).2, fun c hc => by have := name_cps h c hc; omega⟩
theorem name_asc19 {x : Str} (h : nameOk x = true) : Asc 19 x := (name_asc h).mono (by decide)
/-! lines and texts -/
theorem tl_def (x : Str) : tl x = x.cps.toList := rfl
theorem sp_tl : tl (" " : Str) = [32] := by decide +kernel
theorem nl_tl : tl ("\n" : Str) = [10] := by decide +kernel
theorem e_tl : tl Str.empty = [] := rfl
theorem e_eq : (("" : String) : Str) = Str.empty := ext_tl (by decide +kernel)
theorem acc_tl : tl ("account" : Str) = [97, 99, 99, 111, 117, 110, 116] := by decide +kernel
theorem in_tl : tl ("in" : Str) = [105, 110] := by decide +kernel
theorem accs_tl : tl ("account " : Str) = [97, 99, 99, 111, 117, 110, 116, 32] := by decide +kernel
theorem ins_tl : tl (" in " : Str) = [32, 105, 110, 32] := by decide +kernel
def lineL : FRow → List Nat
  | (n, none) => tl ("account " : Str) ++ tl n
  | (n, some m) => tl ("account " : Str) ++ (tl n ++ (tl (" in " : Str) ++ tl m))
theorem tl_line (r : FRow) : tl (lineOf r) = lineL r := by
  obtain ⟨n, q⟩ := r
  unfold lineOf
  rw [join_eq, tl_join, sp_tl]
  cases q with
  | none =>
    show tl ("account" : Str) ++ ([32] ++ tl n) = tl ("account " : Str) ++ tl n
    rw [acc_tl, accs_tl]
    rfl
  | some m =>
    show tl ("account" : Str) ++ ([32] ++ (tl n ++ ([32] ++ (tl ("in" : Str) ++ ([32] ++ tl m))))) = tl ("account " : Str) ++ (tl n ++ (tl (" in " : Str) ++ tl m))
    rw [acc_tl, accs_tl, in_tl, ins_tl]
    rfl
theorem joinL_end (S : List Nat) : ∀ ls : List (List Nat), joinL S (ls ++ [[]]) = (ls.map (· ++ S)).flatten
  | [] => rfl
  | [p] => by
    show p ++ (S ++ []) = _
    simp
  | p :: q :: r => by
    have e := joinL_end S (q :: r)
    show p ++ (S ++ joinL S (q :: r ++ [[]])) = _
    rw [e]
    simp
theorem tl_text (rs : List FRow) : tl (textOf rs) = (rs.map fun r => lineL r ++ [10]).flatten := by
  unfold textOf
  rw [join_eq, tl_join, nl_tl, List.map_append, List.map_map]
  show joinL [10] (List.map (tl ∘ lineOf) rs ++ [[]]) = _
  rw [joinL_end, List.map_map]
  congr 1
  refine List.map_congr_left fun r _ => ?_
  show tl (lineOf r) ++ [10] = _
  rw [tl_line]
theorem text_nil : textOf [] = Str.empty := ext_tl (by rw [tl_text]; rfl)
theorem text_snoc (rs : List FRow) (r : FRow) : textOf (rs ++ [r]) = textOf rs ++ (⟨(lineL r ++ [10]).toArray⟩ : Str) := by
  refine ext_tl ?_
  rw [tl_append, tl_text, tl_text, tl_mk]
  simp
theorem word_ns {r : FRow} (h1 : nameOk r.1 = true) (h2 : ∀ m, r.2 = some m → nameOk m = true) : ∀ p ∈ wordsOf r, 32 ∉ tl p ∧ 10 ∉ tl p := by
  obtain ⟨n, q⟩ := r
  have nn : ∀ {x : Str}, nameOk x = true → 32 ∉ tl x ∧ 10 ∉ tl x := fun {x} h => ⟨fun z => by have := name_cps h _ z; omega, fun z => by have := name_cps h _ z; omega⟩
  have ha : 32 ∉ tl ("account" : Str) ∧ 10 ∉ tl ("account" : Str) := by rw [acc_tl]; decide
  have hi : 32 ∉ tl ("in" : Str) ∧ 10 ∉ tl ("in" : Str) := by rw [in_tl]; decide
  cases q with
  | none =>
    intro p hp
    simp only [wordsOf, List.mem_cons, List.not_mem_nil, or_false] at hp
    rcases hp with rfl | rfl
    · exact ha
    · exact nn h1
  | some m =>
    intro p hp
    simp only [wordsOf, List.mem_cons, List.not_mem_nil, or_false] at hp
    rcases hp with rfl | rfl | rfl | rfl
    · exact ha
    · exact nn h1
    · exact hi
    · exact nn (h2 _ rfl)
theorem wordsOf_ne (r : FRow) : wordsOf r ≠ [] := by
  obtain ⟨n, q⟩ := r
  cases q <;> simp [wordsOf]
theorem split_line {r : FRow} (h1 : nameOk r.1 = true) (h2 : ∀ m, r.2 = some m → nameOk m = true) : Txt.split (lineOf r) " " = wordsOf r :=
  split_join sp_tl (by decide +kernel) (wordsOf_ne r) fun p hp => (word_ns h1 h2 p hp).1
theorem line_nn {r : FRow} (h1 : nameOk r.1 = true) (h2 : ∀ m, r.2 = some m → nameOk m = true) : 10 ∉ tl (lineOf r) := by
  obtain ⟨n, q⟩ := r
  rw [tl_line]
  have w := word_ns h1 h2
  have a1 : 10 ∉ tl ("account " : Str) := by rw [accs_tl]; decide
  have a2 : 10 ∉ tl (" in " : Str) := by rw [ins_tl]; decide
  cases q with
  | none =>
    have wn := (w n (by simp [wordsOf])).2
    intro z
    rcases List.mem_append.mp (show 10 ∈ tl ("account " : Str) ++ tl n from z) with z | z
    · exact a1 z
    · exact wn z
  | some m =>
    have wn := (w n (by simp [wordsOf])).2
    have wm := (w m (by simp [wordsOf])).2
    intro z
    rcases List.mem_append.mp (show 10 ∈ tl ("account " : Str) ++ (tl n ++ (tl (" in " : Str) ++ tl m)) from z) with z | z
    · exact a1 z
    rcases List.mem_append.mp z with z | z
    · exact wn z
    rcases List.mem_append.mp z with z | z
    · exact a2 z
    · exact wm z
theorem split_text {rs : List FRow} (g : GoodF [] rs) : Txt.split (textOf rs) "\n" = rs.map lineOf ++ [Str.empty] := by
  refine split_join nl_tl (by decide +kernel) (by simp) fun p hp => ?_
  rcases List.mem_append.mp hp with h | h
  · obtain ⟨r, hr, rfl⟩ := List.mem_map.mp h
    obtain ⟨a, b⟩ := good_mem g hr
    exact line_nn a fun m hm => (b m hm).2
  · rw [List.mem_singleton.mp h]
    exact List.not_mem_nil
theorem line_len {r : FRow} (h1 : nameOk r.1 = true) (h2 : ∀ m, r.2 = some m → nameOk m = true) : (lineOf r).length ≤ 30 := by
  obtain ⟨n, q⟩ := r
  have l1 := (name_len h1).2
  have e : (lineOf (n, q)).length = (lineL (n, q)).length := by rw [← tl_line, tl_def, len_cps]
  rw [e]
  have ln : (tl n).length = n.length := len_cps n
  have la : (tl ("account " : Str)).length = 8 := by rw [accs_tl]; rfl
  have li : (tl (" in " : Str)).length = 4 := by rw [ins_tl]; rfl
  have l1 : n.length ≤ 8 := l1
  cases q with
  | none =>
    show (tl ("account " : Str) ++ tl n).length ≤ 30
    rw [List.length_append]
    omega
  | some m =>
    have l2 := (name_len (h2 m rfl)).2
    have lm : (tl m).length = m.length := len_cps m
    show (tl ("account " : Str) ++ (tl n ++ (tl (" in " : Str) ++ tl m))).length ≤ 30
    simp only [List.length_append]
    omega
/-- what a line of these words says -/
def readRow : List Str → Option FRow
  | [a, n] => if a = ("account" : Str) then some (n, none) else none
  | [a, n, i, m] => if a = ("account" : Str) ∧ i = ("in" : Str) then some (n, some m) else none
  | _ => none
theorem read_words (r : FRow) : readRow (wordsOf r) = some r := by
  obtain ⟨n, q⟩ := r
  cases q <;> simp [wordsOf, readRow]
/-- one text, one list of rows -/
theorem text_inj {rs rs' : List FRow} (g : GoodF [] rs) (g' : GoodF [] rs') (h : textOf rs = textOf rs') : rs = rs' := by
  have e := split_text g
  rw [h, split_text g'] at e
  have e2 : rs'.map lineOf = rs.map lineOf := List.append_cancel_right e
  have key : ∀ {rs : List FRow}, (∀ r ∈ rs, nameOk r.1 = true ∧ ∀ m, r.2 = some m → nameOk m = true) → (rs.map lineOf).map (fun l => readRow (Txt.split l " ")) = rs.map some := by
    intro rs hg
    rw [List.map_map]
    refine List.map_congr_left fun r hr => ?_
    obtain ⟨a, b⟩ := hg r hr
    show readRow (Txt.split (lineOf r) " ") = some r
    rw [split_line a b, read_words]
  have gg : ∀ {rs : List FRow}, GoodF [] rs → ∀ r ∈ rs, nameOk r.1 = true ∧ ∀ m, r.2 = some m → nameOk m = true := fun g r hr => ⟨(good_mem g hr).1, fun m hm => ((good_mem g hr).2 m hm).2⟩
  have k1 := key (gg g)
  have k2 := key (gg g')
  rw [e2, k1] at k2
  exact List.map_inj_right (fun _ _ e => Option.some.inj e) |>.mp k2
end Gf

set_option Elab.async false
set_option linter.all false
set_option maxRecDepth 100000
set_option maxHeartbeats 4000000
/-! tuple(dict), .. -/
namespace Gt
open PySem PySem.Spec PyProof.Rows L2 Gn Gr Gk Go
section
variable {prog : Program} {w : World} {A : Around} {E : Value → Shared → Prop} {s : Shared} {T : String} {r d : Addr} {n : Nat} {P : Nat → Value → Prop} {OK : Heap → Prop}
theorem collect_kdl {Q : List Value → Shared → Prop} (K : PySem.W.KdlSrc prog w T r d n P OK) (hh : A.handled = none) (hok : OK s.heap) (hn : n ≤ sizeLine)
    (hQ : ∀ (h' : Heap) (tk : Nat) (acc : Array Value), (∀ b o, s.heap.get? b = some o → h'.get? b = some o) → ItemsOf P acc n → Q acc.toList { s with heap := h', toks := tk }) :
    wpAny (model prog w) A (collect (.ref r)) Q E s := by
  unfold collect
  refine wpAny_bind (wpAny_runValue (codeAny_builtin F.entry_proto_collect ?_))
  rw [Around.under_plainId F.plain_proto_collect _]
  show wpAny _ A.in1 (newList [] >>= fun l => again (.builtin "list.__iadd__" ⟨[l, .ref r], []⟩)) _ _ s
  refine wpAny_bind (wpAny_newObj_type ?_)
  refine wpAny_pure ⟨plainId_quiet F.plain_list_iadd _, codeAny_builtin F.entry_list_iadd ?_⟩
  rw [Around.under_plainId F.plain_list_iadd _]
  show wpAny _ A.in1 (Builtin.List.listExtendWith (.ref s.heap.objs.size) (.ref r) (.ref s.heap.objs.size)) _ _ _
  have hS : (s.heap.push { cls := .type "list", data := .seq ([] : List Value).toArray }).get? s.heap.objs.size = some { cls := .type "list", data := .seq #[] 0 } := Heap.get?_push_size _ rfl
  have hlt := K.there _ hok
  refine wpAny_mono (PySem.W.kdl_extend (A := A) (R := fun rr s' => rr = .ok (.ret (.ref s.heap.objs.size)) ∧ ∃ (h' : Heap) (tk : Nat) (acc : Array Value) (c' : Nat), s' = { s with heap := h', toks := tk } ∧
      (∀ b o, s.heap.get? b = some o → h'.get? b = some o) ∧ h'.get? s.heap.objs.size = some { cls := .type "list", dict := none, data := .seq acc c', slots := #[] } ∧ ItemsOf P acc n)
    (s := { s with heap := s.heap.push { cls := .type "list", data := .seq ([] : List Value).toArray } }) K hh (K.keep _ _ hok fun b _ o e => Heap.get?_push_of_some _ e) s.heap.objs.size (Nat.ne_of_gt hlt.1) (Nat.ne_of_gt hlt.2) _ 0 hS
    (fun h' tk acc c' hk e hi => ⟨rfl, h', tk, acc, c', rfl, fun b o q => hk b o (Nat.ne_of_lt (Heap.lt_size q)) (Heap.get?_push_of_some _ q), e, hi⟩) hn) (fun fin s' h => ?_) (fun e s' h => ?_)
  · cases fin with
    | done f =>
      obtain ⟨e, h', tk, acc, c', rfl, hk, hS', hi⟩ := h
      cases e
      show wpAny _ A (load s.heap.objs.size >>= _) _ _ _
      exact wpAny_bind (wpAny_load hS' (wpAny_pure (hQ h' tk acc hk hi)))
    | again c' =>
      refine ⟨h.1, codeAny_mono h.2 fun rr s'' hr' => ?_⟩
      obtain ⟨rfl, h', tk, acc, c', rfl, hk, hS', hi⟩ := hr'
      show wpAny _ A (load s.heap.objs.size >>= _) _ _ _
      exact wpAny_bind (wpAny_load hS' (wpAny_pure (hQ h' tk acc hk hi)))
  · exact absurd h.1 (by simp)
theorem code_tuple_new_dict {Q₁ : Value → Shared → Prop} (K : PySem.W.KdlSrc prog w "dict" r d n P OK) (hh : A.handled = none) (hok : OK s.heap) (hn : n ≤ sizeLine)
    (h : ∀ (h' : Heap) (tk : Nat) (acc : Array Value), (∀ b o, s.heap.get? b = some o → h'.get? b = some o) → ItemsOf P acc n →
      Q₁ (.ref h'.objs.size) { s with heap := h'.push { cls := .type "tuple", data := .seq acc }, toks := tk }) :
    codeAny (model prog w) A (.call (.builtin "tuple.__new__") ⟨[.type "tuple", .ref r], []⟩) (wants Q₁ E) s := by
  refine codeAny_of_tree ?_
  show wpAny _ A.in1 (do checkBuiltinCall "tuple.__new__" ⟨[.type "tuple", .ref r], []⟩; again (.builtin "tuple.__new__" ⟨[.type "tuple", .ref r], []⟩)) _ _ s
  refine wpAny_bind (wpAny_of_eq (F.newCall_tuple_1 _) (wpAny_pure ⟨plainId_quiet F.plain_tuple_new _, codeAny_builtin F.entry_tuple_new ?_⟩))
  rw [Around.under_plainId F.plain_tuple_new _]
  have hsub := sub_tuple_self
  have hinit := init_tuple_lookup
  have hmh := madeHere_tuple
  have hTI : s.TypeIs (.ref r) "dict" := K.type _ hok
  have hh1 : A.in1.handled = none := hh
  wp_walk using wpAny_typeOf hTI, collect_kdl (A := A.in1) K hh1 hok hn
  intro h' tk acc hk hacc
  show wpAny _ _ (Builtin.Tuple.tupleExact acc.toList.toArray >>= fun v => ret v) _ _ _
  unfold Builtin.Tuple.tupleExact
  refine wpAny_bind (wpAny_newObj_type ?_ (by show acc.toList.toArray.size ≤ sizeLine; simp only [Array.toArray_toList]; rw [hacc.1]; exact hn))
  refine wpAny_pure ?_
  have e : acc.toList.toArray = acc := by simp
  rw [e]
  exact h h' tk acc hk hacc
theorem call_tuple_dict {Q : Value → Shared → Prop} (K : PySem.W.KdlSrc prog w "dict" r d n P OK) (hh : A.handled = none) (hok : OK s.heap) (hn : n ≤ sizeLine)
    (hQ : ∀ (h' : Heap) (tk : Nat) (acc : Array Value), (∀ b o, s.heap.get? b = some o → h'.get? b = some o) → ItemsOf P acc n →
      Q (.ref h'.objs.size) { s with heap := h'.push { cls := .type "tuple", data := .seq acc }, toks := tk }) :
    wpAny (model prog w) A (call (.type "tuple") [.ref r]) Q E s := by
  refine callType_codes (Q₁ := fun obj s₁ => s₁.TypeIs obj "tuple" ∧ Q obj s₁) F.called_tuple (F.typeCall_tuple_1 _) F.entry_object_init
    (code_tuple_new_dict (A := A.in1) K hh hok hn fun h' tk acc hk hacc => ⟨⟨_, Heap.get?_push_size _ rfl, rfl⟩, hQ h' tk acc hk hacc⟩) fun obj s₁ h₁ => ?_
  exact ⟨h₁.1, F.args_object_init_2 obj _, object_init_meets F.called_tuple.init.lookup F.called_tuple.made (by decide) prog w A.in1 _ s₁ ⟨h₁.1, rfl, h₁.2⟩⟩
end
/-- tuple(dict): a new tuple of its keys -/
def rTupD : List V → Hp → VK → Prop := fun xs H Q => ∃ p kvs, xs = [.ref p] ∧ H p = some (.dK kvs) ∧ ∀ q, H q = none → Q (.ref q) (upd H q (.tup (kvs.map fun kv => kV kv.1)))
theorem call_tuple_dK {X : Cx} (hc : X.calm = true) : CallR X (.type "tuple") rTupD := by
  intro pins s σ H xs us Q I r h
  obtain ⟨p, kvs, e, hk, q⟩ := h
  subst e
  obtain ⟨u, eu, rx⟩ := vals1 r
  subst eu
  obtain rfl : u = Value.ref p := rx
  obtain ⟨z, lo, vs, rk, hd⟩ := (show ObjOk X.prog X.w H s.heap p (.dK kvs) from I.hok p _ hk)
  obtain ⟨ep, hat⟩ := hd.dictAt
  have hl : kvs.length = vs.length := Paired.length rk
  refine call_tuple_dict (PySem.W.kdl_dict (knd := mixKind X.prog X.w) (kvs := vs) (ep := ep) lo) (I.ok.hd hc) hat (by rw [← hl]; exact z) fun h' tk acc hkeep hacc => ?_
  have I1 : Inv X pins σ H { s with heap := h' } := I.kept (t' := s.toks) hkeep
  have rr : Vals (kvs.map fun kv => kV kv.1) acc.toList := by
    have el : acc.toList.length = acc.size := by simp
    refine vals_of_at (by rw [List.length_map, el, hacc.1, hl]) fun j x w h1 h2 => ?_
    obtain ⟨k, y, hky, hi⟩ := hacc.2 j w (by rw [← Array.getElem?_toList]; exact h2)
    have e1 : (kvs.map (·.1))[j]? = some k := by
      rw [KV.keys rk, List.getElem?_map, hky] <;> rfl
    have e2 : (kvs.map fun kv => kV kv.1)[j]? = some (kV k) := by
      have e3 : (kvs.map fun kv => kV kv.1) = (kvs.map (·.1)).map kV := by rw [List.map_map] <;> rfl
      rw [e3, List.getElem?_map, e1] <;> rfl
    rw [e2] at h1
    cases h1
    exact keyIs_rel hi
  have I2 : Inv X pins σ (upd H h'.objs.size (.tup (kvs.map fun kv => kV kv.1))) { s with heap := h'.push { cls := .type "tuple", data := .seq acc }, toks := tk } :=
    I1.laid (t' := tk) (fun b o e => Heap.get?_push_of_some _ e) (Nat.le_refl _) (show ObjOk X.prog X.w _ _ _ (.tup (kvs.map fun kv => kV kv.1)) from ⟨by rw [List.length_map]; exact z, acc.toList, rr, by
      have := IsTup.new h' acc
      simpa using this⟩)
  exact ⟨.ref h'.objs.size, _, I2, rfl, q _ (I1.hok.fresh (Nat.le_refl _))⟩
/-- {k: v for ..} over a walk -/
theorem dc_it {J : It} {n : Nat} {G : Hp → Prop} {Y : Nat → Hp → V → Hp → Prop} (w : Walk J n G Y) {g : TG} {tt : TT} {tk tv : TE} {vs : List Nat} {σ : L2.St} {H1 : Hp} {D : Addr} {Qd : Hp → Prop} (Pv : Nat → Hp → Prop) (h0 : Pv 0 (upd H1 D (.dK []))) (hG : ∀ i H, i ≤ n → Pv i H → G H)
    (hs : ∀ i x H H', i < n → Pv i H → Y i H x H' → g x (wipe σ vs) H' fun σ2 H2 => wipe σ2 vs = wipe σ vs ∧ tt σ2 H2 fun b H3 =>
      if b = true then tk σ2 H3 fun y H4 => tv σ2 H4 fun z H5 => ∃ kvs k, y = kV k ∧ H5 D = some (.dK kvs) ∧ kvs.length < sizeLine ∧ Pv (i + 1) (upd H5 D (.dK (putK kvs k z))) else Pv (i + 1) H3) (hd : ∀ H, Pv n H → Qd H) :
    ∃ W : Nat → Nat → Hp → Prop, (∃ m, W 0 m (upd H1 D (.dK []))) ∧ ∀ i m H, W i m H →
      (J.stop i H ∧ Qd H) ∨ (J.go i H ∧ ∃ Nx : Hp → Prop, (∀ H', Nx H' → ∃ m', m' < m ∧ W (i + 1) m' H') ∧ ∀ x H', J.yld i H x H' → g x (wipe σ vs) H' fun σ2 H2 => wipe σ2 vs = wipe σ vs ∧ tt σ2 H2 fun b H3 =>
        if b = true then tk σ2 H3 fun y H4 => tv σ2 H4 fun z H5 => ∃ kvs k, y = kV k ∧ H5 D = some (.dK kvs) ∧ kvs.length < sizeLine ∧ Nx (upd H5 D (.dK (putK kvs k z))) else Nx H3) := by
  refine ⟨fun i m H => m = n - i ∧ i ≤ n ∧ Pv i H, ⟨n, by simp, Nat.zero_le _, h0⟩, ?_⟩
  rintro i m H ⟨rfl, hi, p⟩
  have q := hG i H hi p
  by_cases hlt : i < n
  · exact .inr ⟨w.goes i H hlt q, Pv (i + 1), fun H' p' => ⟨n - (i + 1), by omega, rfl, hlt, p'⟩, fun x H' y => hs i x H H' hlt p (w.yields i H x H' hlt q y)⟩
  · have e : i = n := by omega
    subst e
    exact .inl ⟨w.stops H q, hd H p⟩
end Gt

set_option Elab.async false
set_option linter.all false
set_option maxRecDepth 100000
set_option maxHeartbeats 4000000
/-! names and words, for any law -/
namespace Lw
open L2 hiding Ext
open PySem PySem.Spec PyProof.Rows Gn Gr Gk Go Gt Gf
theorem iteS {c A B : Prop} [Decidable c] (hc : c) (h : A) : if decide c = true then A else B := by
  rw [if_pos (decide_eq_true hc)]
  exact h
theorem iteN {c A B : Prop} [Decidable c] (hc : ¬ c) (h : B) : if decide c = true then A else B := by
  rw [if_neg (by rw [decide_eq_false hc]; exact Bool.false_ne_true)]
  exact h
theorem take_succ_map {α β : Type} {l : List α} {i : Nat} {c : α} (f : α → β) (h : l[i]? = some c) : (l.take (i + 1)).map f = (l.take i).map f ++ [f c] := by
  rw [List.take_add_one, h, List.map_append]
  rfl
theorem cps_at {z : Str} {i : Nat} {c : Nat} (h : z.cps[i]? = some c) : z.cps.toList[i]? = some c := by simpa using h
theorem cps_len (z : Str) : z.cps.toList.length = z.cps.size := by simp
theorem strs_flat (E : List Str) : (E.map V.str).all flatV = true := by
  rw [List.all_map]
  exact List.all_eq_true.mpr fun _ _ => rfl
theorem inV_strs (x : Str) (E : List Str) : inV (.str x) (E.map V.str) = decide (x ∈ E) := by
  unfold inV
  rw [List.any_map]
  induction E with
  | nil => simp
  | cons y r ih =>
    rw [List.any_cons, ih]
    show ((y == x) || _) = _
    by_cases e : y = x
    · subst e; simp
    · have e' : ¬ x = y := fun z => e z.symm
      simp [e, e']
theorem strlen (a b : Str) : (a ++ b).length = a.length + b.length := strLen_append a b
theorem sum_le {α : Type} (f : α → Nat) {b : Nat} : ∀ l : List α, (∀ x ∈ l, f x ≤ b) → (l.map f).sum ≤ l.length * b
  | [], _ => by simp
  | x :: r, h => by
    have h1 := h x (List.mem_cons_self ..)
    have h2 := sum_le f r fun y hy => h y (List.mem_cons_of_mem _ hy)
    rw [List.map_cons, List.sum_cons, List.length_cons, Nat.succ_mul]
    omega
/-! ### names -/
def lettersOnly (x : Str) : Prop := ∀ c ∈ x.cps.toList, c ∈ letters.cps.toList
theorem nameOk_of {x : Str} (h1 : 1 ≤ x.length) (h2 : x.length ≤ 8) (h : lettersOnly x) : nameOk x = true := by
  unfold nameOk
  rw [decide_eq_true h1, decide_eq_true h2, Bool.true_and, Bool.true_and]
  exact List.all_eq_true.mpr fun c hc => by simpa [isL] using h c hc
theorem lo_of {x : Str} (h : nameOk x = true) : lettersOnly x := by
  unfold nameOk at h
  simp only [Bool.and_eq_true, decide_eq_true_eq] at h
  intro c hc
  simpa [isL] using List.all_eq_true.mp h.2.2 c hc
theorem lo_app {x y : Str} (h : lettersOnly x) (k : lettersOnly y) : lettersOnly (x ++ y) := by
  intro c hc
  rw [cps_app] at hc
  exact (List.mem_append.mp hc).elim (h c) (k c)
theorem lo_cut {x : Str} (h : lettersOnly x) (lo hi : Option Int) : lettersOnly (cutS x lo hi) := by
  intro c hc
  unfold cutS at hc
  exact h c (List.mem_of_mem_drop (List.mem_of_mem_take (by simpa using hc)))
theorem cut6 (x : Str) : (cutS x none (some 6)).length ≤ 6 := by
  rw [← len_cps]
  unfold cutS
  show (List.take _ _).toArray.toList.length ≤ 6
  rw [List.toList_toArray, List.length_take]
  have : HT.sIx x.length x.length (some ((6 : Nat) : Int)) = min 6 x.length := HT.sIx_nat _ _ _
  have this : HT.sIx x.length x.length (some 6) = min 6 x.length := this
  rw [this]
  omega
theorem z_len : ("z" : Str).length = 1 := by decide +kernel
theorem z_lo : lettersOnly ("z" : Str) := by unfold lettersOnly; decide +kernel
def cand (x : Str) (c : Nat) : Str := cutS x none (some 6) ++ "z" ++ oneS' c
  where oneS' (c : Nat) : Str := ⟨#[c]⟩
theorem one_len (c : Nat) : (cand.oneS' c).length = 1 := rfl
theorem one_lo {c : Nat} (h : c ∈ letters.cps.toList) : lettersOnly (cand.oneS' c) := by
  intro b hb
  have : b = c := by simpa [cand.oneS'] using hb
  rw [this]
  exact h
theorem cand_ok {x : Str} (h : lettersOnly x) {c : Nat} (hc : c ∈ letters.cps.toList) : nameOk (cand x c) = true := by
  have h6 := cut6 x
  refine nameOk_of ?_ ?_ (lo_app (lo_app (lo_cut h _ _) z_lo) (one_lo hc))
  · unfold cand
    rw [strlen, strlen, z_len, one_len]
    omega
  · unfold cand
    rw [strlen, strlen, z_len, one_len]
    omega
theorem cand_inj {x : Str} {c c' : Nat} (h : cand x c = cand x c') : c = c' := by
  have e : (cand x c).cps.toList = (cand x c').cps.toList := by rw [h]
  unfold cand at e
  rw [cps_app, cps_app, cps_app, cps_app] at e
  have e2 := List.append_cancel_left e
  simpa [cand.oneS'] using e2
def cands (x : Str) : List Str := letters.cps.toList.map (cand x)
theorem nodup_map {α β : Type} {f : α → β} (hf : ∀ a b, f a = f b → a = b) : ∀ {l : List α}, l.Nodup → (l.map f).Nodup
  | [], _ => by simp
  | a :: r, h => by
    obtain ⟨h1, h2⟩ := List.nodup_cons.mp h
    refine List.nodup_cons.mpr ⟨fun z => ?_, nodup_map hf h2⟩
    obtain ⟨b, hb, e⟩ := List.mem_map.mp z
    exact h1 (hf _ _ e ▸ hb)
theorem cands_nodup (x : Str) : (cands x).Nodup := nodup_map (fun _ _ h => cand_inj h) (by decide +kernel)
theorem cands_len (x : Str) : (cands x).length = 26 := by
  unfold cands
  rw [List.length_map]
  decide +kernel
theorem pigeon : ∀ {ws fs : List Str}, ws.Nodup → (∀ x ∈ ws, x ∈ fs) → ws.length ≤ fs.length
  | [], _, _, _ => Nat.zero_le _
  | x :: ws, fs, hn, hs => by
    obtain ⟨n1, n2⟩ := List.nodup_cons.mp hn
    have hx := hs x (List.mem_cons_self ..)
    have q := pigeon (fs := fs.erase x) n2 fun y hy => (List.mem_erase_of_ne (fun e => n1 (by rw [← e]; exact hy))).mpr (hs y (List.mem_cons_of_mem _ hy))
    have := List.length_erase_of_mem hx
    have := List.length_pos_of_mem hx
    rw [List.length_cons]
    omega
theorem fresh_cand (x : Str) {fs : List Str} (h : fs.length ≤ 8) : ∃ w r, (cands x).filter (fun y => !decide (y ∈ fs)) = w :: r ∧ w ∈ cands x ∧ w ∉ fs := by
  cases e : (cands x).filter (fun y => !decide (y ∈ fs)) with
  | nil =>
    exfalso
    have := pigeon (cands_nodup x) (fs := fs) fun y hy => by
      by_cases m : y ∈ fs
      · exact m
      · have : y ∈ (cands x).filter (fun y => !decide (y ∈ fs)) := List.mem_filter.mpr ⟨hy, by simp [m]⟩
        rw [e] at this
        cases this
    rw [cands_len] at this
    omega
  | cons w r =>
    have hw : w ∈ (cands x).filter (fun y => !decide (y ∈ fs)) := by rw [e]; exact List.mem_cons_self ..
    obtain ⟨a, b⟩ := List.mem_filter.mp hw
    exact ⟨w, r, rfl, a, by simpa using b⟩
theorem join_len (ys : List Str) : (Txt.join Str.empty ys).cps.toList = (ys.map fun y => y.cps.toList).flatten := by
  show TL.tl _ = _
  rw [TL.join_eq, TL.tl_join, e_tl]
  have : ∀ ls : List (List Nat), TL.joinL [] ls = ls.flatten := by
    intro ls
    induction ls with
    | nil => rfl
    | cons p r ih =>
      cases r with
      | nil => show p = _; simp
      | cons q r =>
        show p ++ ([] ++ TL.joinL [] (q :: r)) = _
        rw [ih]
        simp
  rw [this]
theorem join_signs (cs : List Nat) : (Txt.join Str.empty (cs.map cand.oneS')).cps.toList = cs := by
  rw [join_len, List.map_map]
  induction cs with
  | nil => rfl
  | cons c r ih =>
    rw [List.map_cons, List.flatten_cons, ih]
    rfl
def ownText : Str := "account in join ask deposit release send lose copy withdraw arrive spent ideal total over"
def owns : List Str := Txt.split ownText " "
theorem owns_ok : ∀ w ∈ owns, nameOk w = true := by decide +kernel
theorem owns_len : owns.length = 15 := by decide +kernel
theorem filter_take {α : Type} {l : List α} {i : Nat} {c : α} (p : α → Bool) (h : l[i]? = some c) : (l.take (i + 1)).filter p = (l.take i).filter p ++ (if p c = true then [c] else []) := by
  rw [List.take_add_one, h, List.filter_append]
  show _ ++ List.filter p [c] = _
  cases e : p c <;> simp [e]
theorem sizes1128 : ∀ x ∈ ([.int 1, .int 1, .int 2, .int 8] : List V), ∃ j : Int, x = .int j ∧ 1 ≤ j ∧ j ≤ 8 := by
  intro x hx
  simp only [List.mem_cons, List.not_mem_nil, or_false] at hx
  rcases hx with rfl | rfl | rfl | rfl <;> exact ⟨_, rfl, by decide, by decide⟩
end Lw

set_option Elab.async false
set_option linter.all false
set_option maxRecDepth 100000
set_option maxHeartbeats 4000000
namespace Lw
open L2 hiding Ext
open PySem PySem.Spec PyProof.Rows Gn Gr Gk Go Gt Gf
section
variable {P : Program} {w : World} {K : PySem.W.Frag} {mg : Str → Option Value} {base : Heap}
/-- the built-in names, and the module's numbers and letters -/
structure Names (mg : Str → Option Value) : Prop where
  isi : mg "isinstance" = none
  str : mg "str" = none
  int : mg "int" = none
  bool : mg "bool" = none
  list : mg "list" = none
  tuple : mg "tuple" = none
  dict : mg "dict" = none
  len : mg "len" = none
  all : mg "all" = none
  enum : mg "enumerate" = none
  range : mg "range" = none
  min : mg "min" = none
  zip : mg "zip" = none
  repr : mg "repr" = none
  letters : ∃ t, mg "LETTERS" = some (.str letters t)
  longest : ∃ t, mg "LONGEST" = some (.int 8 t)
  largest : ∃ t, mg "LARGEST" = some (.int 1000000000 t)
theorem scName : FnScope ["value", "letter"] ["value"] (defScope sName) := ⟨rfl, rfl, rfl, by decide +kernel, rfl, by decide +kernel, by decide +kernel⟩
theorem ok_name {f : Addr} {fd : FuncData} (F : Fun K "is_name" "is_name" sName f fd) (T : Names mg) : FnOk P w K mg base CX0 1 f fd ["value"] spName := by
  refine F.ok scName (fun vs H Q E h => ?_) (fun cdv A outer s H vs Q E hr h => ?_)
  · obtain ⟨v, r, rfl, _⟩ := h
    rfl
  · obtain ⟨v, r, rfl, hv, k⟩ := h
    have hu := hu_of hr
    have nd := scName.nd
    obtain ⟨t1, hL⟩ := T.letters
    obtain ⟨t2, hM⟩ := T.longest
    refine ⟨_, pss_cons (ps_if (pt_not (pt_val (pe_callB call_isi rfl T.isi (by decide +kernel) (pa_cons (pv 0) (pa_cons (pe_bltn (v := .ty "str") rfl T.str (by decide +kernel) rfl) pa_nil))))) (pss_one (ps_ret pe_bl)) pss_nil)
      (pss_cons (ps_if (PW.pt (pw_or (pt_cmpR op_lt (pe_callB call_len_str rfl T.len PySem.boot_len (pa_cons (pv 0) pa_nil)) pe_int (nomark _)) (pw_or1 (pt_cmpR op_gt (pe_callB call_len_str rfl T.len PySem.boot_len (pa_cons (pv 0) pa_nil)) (pe_glob (v := .int 8) rfl hM ⟨_, rfl⟩) (nomark _))))) (pss_one (ps_ret pe_bl)) pss_nil)
      (pss_one (ps_ret (pe_callB (cr_all rfl) rfl T.all (by decide +kernel) (pa_cons (pe_lc (own := [("letter", 1)]) (g := gName 1) (tt := tYes) rfl nd (pi_str (pv 0)) (blkOk_by (N := ["value", "letter"]) (sc := defScope sName) (by decide +kernel))
        (fun _ _ _ _ _ => pg_name (i := 1) nd rfl (.inl rfl)) (fun _ _ _ _ _ => pts_nil) (fun _ _ _ _ _ => pe_cmpR op_in_sign (pv 1) (pe_glob (v := .str letters) rfl hL ⟨_, rfl⟩) rfl)) pa_nil))))), ?_⟩
    rcases hv with ⟨x, rfl, hx, rfl⟩ | ⟨rfl, hv⟩
    · refine ⟨_, rfl, _, _, _, _, true, rfl, .ty _, (TyT.str x).x, kit_ty (by decide +kernel), true, rfl, iteF ?_⟩
      have hx1 := hx.1
      refine ⟨_, rfl, x, rfl, by rw [sizeLine_eq]; omega, _, _, rfl, rfl, _, rfl, ?_⟩
      unfold nameOk at k
      refine ite2 (fun e => ?_) (fun n1 => ?_)
      · refine iteT ?_
        have e : (x.length : Int) < 1 := of_decide_eq_true e
        rw [show decide (1 ≤ x.length) = false from decide_eq_false (by omega), Bool.false_and] at k
        exact k H Ext.refl
      · have n1 : ¬ (x.length : Int) < 1 := of_decide_eq_false (Bool.eq_false_iff.mpr n1)
        rw [show decide (1 ≤ x.length) = true from decide_eq_true (by omega), Bool.true_and] at k
        refine ⟨_, rfl, x, rfl, by rw [sizeLine_eq]; omega, _, _, rfl, rfl, _, rfl, ?_⟩
        refine ite2 (fun e => ?_) (fun n2 => ?_)
        · have e : (8 : Int) < x.length := of_decide_eq_true e
          rw [show decide (x.length ≤ 8) = false from decide_eq_false (by omega), Bool.false_and] at k
          exact k H Ext.refl
        · have n2 : ¬ (8 : Int) < x.length := of_decide_eq_false (Bool.eq_false_iff.mpr n2)
          rw [show decide (x.length ≤ 8) = true from decide_eq_true (by omega), Bool.true_and] at k
          refine ⟨_, rfl, x, rfl, fun D hD => ?_⟩
          refine lc_it walk_str (fun i H' => H' D = some (.lst (((x.cps.toList.take i).map isL).map V.bl)) ∧ Ext H H') ⟨upd_same, Ext.new hD⟩ (fun _ _ _ _ => trivial) ?_ ?_
          · rintro i y H1 H2 hi ⟨hd, he⟩ ⟨rfl, c, hc, rfl⟩
            refine ⟨rfl, yes_of ?_⟩
            refine ⟨_, rfl, c, _, rfl, rfl, _, hd, ?_, ?_, fun a o e => ?_⟩
            · have := len_cps x
              rw [List.length_map, List.length_map, List.length_take]
              exact small1000 (by omega)
            · rw [upd_same, take_succ_map isL (cps_at hc), List.map_append]
              rfl
            · rw [upd_ne (ne_of_none e hD)]
              exact he a o e
          · rintro H1 ⟨hd, he⟩
            refine ⟨D, _, rfl, SqL.of hd, ?_⟩
            rw [← cps_len, List.take_length, List.all_map]
            exact k H1 he
    · rcases hv with h | h | h | h | h | h <;> exact ⟨_, rfl, _, _, _, _, false, rfl, .ty _, h.x, kit_ty (by decide +kernel), false, rfl, iteT (k H Ext.refl)⟩
theorem scInt : FnScope ["value"] ["value"] (defScope sInt) := ⟨rfl, rfl, rfl, by decide +kernel, rfl, by decide +kernel, by decide +kernel⟩
theorem scAmount : FnScope ["value"] ["value"] (defScope sAmount) := ⟨rfl, rfl, rfl, by decide +kernel, rfl, by decide +kernel, by decide +kernel⟩
/-- what is_int tells of a value -/
def IntV (H : Hp) (v : V) (r : Bool) : Prop := (∃ i, v = .int i ∧ r = true) ∨ (r = false ∧ (TyT H v "NoneType" ∨ TyT H v "bool" ∨ TyT H v "str" ∨ TyT H v "list" ∨ TyT H v "tuple" ∨ TyT H v "dict"))
def spInt : Sp := fun vs H Q _ => ∃ v r, vs = [v] ∧ IntV H v r ∧ Q (.bl r) H
theorem ok_int {f : Addr} {fd : FuncData} (F : Fun K "is_int" "is_int" sInt f fd) (T : Names mg) : FnOk P w K mg base CX0 1 f fd ["value"] spInt := by
  refine F.ok scInt (fun vs H Q E h => ?_) (fun cdv A outer s H vs Q E hr h => ?_)
  · obtain ⟨v, r, rfl, _⟩ := h
    rfl
  · obtain ⟨v, r, rfl, hv, k⟩ := h
    refine ⟨_, pss_one (ps_ret (pe_and (pe_callB call_isi rfl T.isi (by decide +kernel) (pa_cons (pv 0) (pa_cons (pe_bltn (v := .ty "int") rfl T.int (by decide +kernel) rfl) pa_nil))) (pe_one (pe_not (pe_callB call_isi rfl T.isi (by decide +kernel) (pa_cons (pv 0) (pa_cons (pe_bltn (v := .ty "bool") rfl T.bool (by decide +kernel) rfl) pa_nil))))))), ?_⟩
    rcases hv with ⟨i, rfl, rfl⟩ | ⟨rfl, hv⟩
    · refine ⟨_, rfl, _, _, _, _, true, rfl, .ty _, (TyT.int i).x, kit_ty (by decide +kernel), true, rfl, iteT ?_⟩
      exact ⟨_, rfl, _, _, _, _, false, rfl, .ty _, (TyT.int i).x, kit_ty (by decide +kernel), _, rfl, k⟩
    · rcases hv with h | h | h | h | h | h
      all_goals first
        | exact ⟨_, rfl, _, _, _, _, true, rfl, .ty _, h.x, kit_ty (by decide +kernel), true, rfl, iteT ⟨_, rfl, _, _, _, _, true, rfl, .ty _, h.x, kit_ty (by decide +kernel), _, rfl, k⟩⟩
        | exact ⟨_, rfl, _, _, _, _, false, rfl, .ty _, h.x, kit_ty (by decide +kernel), false, rfl, iteF k⟩
theorem ok_amount {f fI : Addr} {fd fdI : FuncData} (F : Fun K "is_amount" "is_amount" sAmount f fd) (T : Names mg) (GI : FnOk P w K mg base CX0 1 fI fdI ["value"] spInt) (bI : Binds K fdI ["value"] []) (kI : PySem.W.keepIn K (.ref fI) = true) (mI : mg "is_int" = some (.ref fI)) :
    FnOk P w K mg base CX0 2 f fd ["value"] spAmt := by
  refine F.ok scAmount (fun vs H Q E h => ?_) (fun cdv A outer s H vs Q E hr h => ?_)
  · obtain ⟨v, r, rfl, _⟩ := h
    rfl
  · obtain ⟨v, r, rfl, hv, k⟩ := h
    obtain ⟨t3, hG⟩ := T.largest
    refine ⟨_, pss_one (ps_ret (pe_and (pe_call GI hr rfl mI kI bI .nil pass0 (pa_cons (pv 0) pa_nil)) (pe_one (pe_chain op_le op_le pe_int (pv 0) (pe_glob (v := .int 1000000000) rfl hG ⟨_, rfl⟩))))), ?_⟩
    rcases hv with ⟨i, rfl, rfl⟩ | ⟨rfl, hv⟩
    · refine ⟨_, rfl, _, _, rfl, .inl ⟨i, rfl, rfl⟩, true, rfl, iteT ?_⟩
      refine ⟨_, rfl, _, _, rfl, rfl, _, rfl, ?_⟩
      unfold amtOk at k
      refine ite2 (fun e => ?_) (fun e => ?_)
      · refine ⟨_, _, rfl, rfl, ?_⟩
        rw [e, Bool.true_and] at k
        exact k H Ext.refl
      · rw [Bool.eq_false_iff.mpr e, Bool.false_and] at k
        exact k H Ext.refl
    · exact ⟨_, rfl, _, _, rfl, .inr ⟨rfl, hv⟩, false, rfl, iteF (k H Ext.refl)⟩
/-! ### is_row, of a row that may stand there -/
def RowAt (H : Hp) (v : V) (r : FRow) : Prop := ∃ p, v = V.ref p ∧ H p = some (.tup [.str r.1, parV r.2])
def RowsAt (H : Hp) (vs : List V) (rs : List FRow) : Prop := vs.length = rs.length ∧ ∀ (i : Nat) (r : FRow), rs[i]? = some r → ∃ p, vs[i]? = some (V.ref p) ∧ H p = some (.tup [.str r.1, parV r.2])
theorem RowsAt.ext {H H' : Hp} {vs : List V} {rs : List FRow} (h : RowsAt H vs rs) (k : Ext H H') : RowsAt H' vs rs :=
  ⟨h.1, fun i r hr => by obtain ⟨p, a, b⟩ := h.2 i r hr; exact ⟨p, a, k _ _ b⟩⟩
def spRow : Sp := fun vs H Q _ => ∃ (v : V) (e : Addr) (r : FRow) (E : List Str), vs = [v, .ref e] ∧ RowAt H v r ∧ H e = some (.lst (E.map V.str)) ∧ RowOk E r ∧ ∀ H', Ext H H' → Q (.bl true) H'
theorem scRow : FnScope ["value", "earlier", "name", "parent"] ["value", "earlier"] (defScope sRow) := ⟨rfl, rfl, rfl, by decide +kernel, rfl, by decide +kernel, by decide +kernel⟩
theorem ok_row {f fN : Addr} {fd fdN : FuncData} (F : Fun K "is_row" "is_row" sRow f fd) (T : Names mg) (GN : FnOk P w K mg base CX0 1 fN fdN ["value"] spName) (bN : Binds K fdN ["value"] []) (kN : PySem.W.keepIn K (.ref fN) = true) (mN : mg "is_name" = some (.ref fN)) :
    FnOk P w K mg base CX0 2 f fd ["value", "earlier"] spRow := by
  refine F.ok scRow (fun vs H Q E h => ?_) (fun cdv A outer s H vs Q E hr h => ?_)
  · obtain ⟨v, e, r, E, rfl, _⟩ := h
    rfl
  · obtain ⟨v, e, r, E, rfl, ⟨p, rfl, hp⟩, he, ⟨r1, r2, r3⟩, k⟩ := h
    have hu := hu_of hr
    have nd := scRow.nd
    refine ⟨_, pss_cons (ps_if (PW.pt (pw_or (pt_not (pt_val (pe_callB call_isi rfl T.isi (by decide +kernel) (pa_cons (pv 0) (pa_cons (pe_bltn (v := .ty "tuple") rfl T.tuple (by decide +kernel) rfl) pa_nil))))) (pw_or1 (pt_cmpR op_ne (pe_callB call_len_seq rfl T.len PySem.boot_len (pa_cons (pv 0) pa_nil)) pe_int (nomark _))))) (pss_one (ps_ret pe_bl)) pss_nil)
      (pss_cons (ps_asg (pv 0) (by exact (pg_tup rfl (pgs_cons (pg_name (i := 2) nd rfl (.inl rfl)) (pgs_cons (pg_name (i := 3) nd rfl (.inl rfl)) pgs_nil)))))
      (pss_cons (ps_if (PW.pt (pw_or (pt_not (pt_val (pe_call GN hr rfl mN kN bN .nil pass0 (pa_cons (pv 2) pa_nil)))) (pw_or1 (pt_cmpR op_in_seq (pv 2) (pv 1) rfl)))) (pss_one (ps_ret pe_bl)) pss_nil)
      (pss_one (ps_ret (pe_or (pe_cmpR op_isN (pv 3) pe_non (nomark _)) (pe_one (pe_cmpR op_in_seq (pv 3) (pv 1) rfl))))))), ?_⟩
    refine ⟨_, rfl, _, _, _, _, true, rfl, .ty _, (TyT.tup hp).x, kit_ty (by decide +kernel), true, rfl, iteF ?_⟩
    refine ⟨_, rfl, p, _, rfl, .inr (SqT.of hp), rfl, _, rfl, iteNS rfl ?_⟩
    refine ⟨_, rfl, p, _, rfl, SqT.of hp, rfl, _, _, rfl, _, _, rfl, rfl, ?_⟩
    refine ⟨_, rfl, _, _, rfl, .inl ⟨r.1, rfl, name_asc19 r1, rfl⟩, fun H1 k1 => ?_⟩
    rw [r1]
    refine ⟨true, rfl, iteF ?_⟩
    refine ⟨_, rfl, _, rfl, e, _, rfl, .inl (SqL.of (k1 _ _ he)), rfl, strs_flat E, _, rfl, ?_⟩
    rw [inV_strs, decide_eq_false r2]
    refine iteF ?_
    refine ⟨_, rfl, rfl, ?_⟩
    cases e2 : r.2 with
    | none =>
      refine ⟨true, rfl, iteT ?_⟩
      exact k _ k1
    | some m =>
      refine ⟨false, rfl, iteF ?_⟩
      refine ⟨_, rfl, _, rfl, e, _, rfl, .inl (SqL.of (k1 _ _ he)), rfl, strs_flat E, ?_⟩
      show Q (.bl (inV (.str m) (E.map V.str))) H1
      rw [inV_strs, decide_eq_true (r3 m e2)]
      exact k _ k1
/-! ### first_wrong, of rows of a forest -/
def spWrong (K : PySem.W.Frag) : Sp := fun vs H Q _ => ∃ (l : Addr) (xs : List V) (rs : List FRow), vs = [.ref l] ∧ SqL K H l xs ∧ (∀ H', Ext H H' → SqL K H' l xs) ∧ RowsAt H xs rs ∧ GoodF [] rs ∧ rs.length ≤ 1000 ∧ ∀ H', Ext H H' → Q (.int rs.length) H'
theorem scWrong : FnScope ["rows", "earlier", "at", "row"] ["rows"] (defScope sWrong) := ⟨rfl, rfl, rfl, by decide +kernel, rfl, by decide +kernel, by decide +kernel⟩
theorem ok_wrong {f fR : Addr} {fd fdR : FuncData} (F : Fun K "first_wrong" "first_wrong" sWrong f fd) (T : Names mg) (GR : FnOk P w K mg base CX0 2 fR fdR ["value", "earlier"] spRow) (bR : Binds K fdR ["value", "earlier"] []) (kR : PySem.W.keepIn K (.ref fR) = true) (mR : mg "is_row" = some (.ref fR)) :
    FnOk P w K mg base CX0 3 f fd ["rows"] (spWrong K) := by
  refine F.ok scWrong (fun vs H Q E h => ?_) (fun cdv A outer s H vs Q E hr h => ?_)
  · obtain ⟨l, xs, rs, rfl, _⟩ := h
    rfl
  · obtain ⟨l, xs, rs, rfl, hl, hlk, hR, hg, hn, k⟩ := h
    have hu := hu_of hr
    have nd := scWrong.nd
    refine ⟨_, pss_cons (ps_set (i := 1) nd rfl (.inl rfl) (pe_lst pa_nil))
      (pss_cons (ps_for PassesOwn.never rfl (pi_enum rfl T.enum (pa_cons (pv 0) pa_nil)) (by exact (pg_tup rfl (pgs_cons (pg_name (i := 2) nd rfl (.inl rfl)) (pgs_cons (pg_name (i := 3) nd rfl (.inl rfl)) pgs_nil))))
        (pss_cons (ps_if (pt_not (pt_val (pe_call GR hr rfl mR kR bR .nil pass0 (pa_cons (pv 3) (pa_cons (pv 1) pa_nil))))) (pss_one (ps_ret (pv 2))) pss_nil)
        (pss_one (ps_expr (pe_bm PySem.F.plainAttrs_list PySem.F.slot_list_append PySem.F.type_list_append mt_append (pv 1) (pa_cons (pe_ix ix_tup (pv 3) pe_int (fun _ _ => rfl)) pa_nil))))))
      (pss_one (ps_ret (pe_callB call_len_seq rfl T.len PySem.boot_len (pa_cons (pv 0) pa_nil))))), ?_⟩
    refine ⟨Nat.zero_le _, fun e he => ?_⟩
    refine ⟨_, rfl, l, xs, rfl, hlk _ (Ext.new he), ?_⟩
    refine for_it walk_enum (fun i σ H' => ∃ (v2 v3 : Option V), σ = [some (.ref l), some (.ref e), v2, v3] ∧ H' e = some (.lst ((fNames (rs.take i)).map V.str)) ∧ Ext H H') ⟨none, none, rfl, upd_same, Ext.new he⟩ (fun i σ H' _ ⟨_, _, _, _, k1⟩ => hlk _ k1) ?_ ?_
    · rintro i x σ H1 H2 hi ⟨v2, v3, rfl, e1, k1⟩ ⟨t, a, b, rfl, ht, rfl, ea, eb⟩
      have ea : some (V.int (i : Nat)) = some a := ea
      cases ea
      have hir : i < rs.length := by have := hR.1; omega
      obtain ⟨p, h1, h2⟩ := hR.2 i _ (List.getElem?_eq_getElem hir)
      have eb : xs[i]? = some b := eb
      rw [h1] at eb
      cases eb
      have ok := good_at hg (List.getElem?_eq_getElem hir)
      rw [List.nil_append] at ok
      have k2 : Ext H (upd H1 t (.tup [.int (i : Nat), .ref p])) := k1.trans (Ext.new ht)
      have e2 : (upd H1 t (.tup [.int (i : Nat), .ref p])) e = some (.lst ((fNames (rs.take i)).map V.str)) := new_same ht _ _ e1
      refine ⟨t, _, rfl, SqT.of upd_same, rfl, _, _, rfl, _, _, rfl, rfl, ?_⟩
      refine ⟨_, rfl, _, rfl, _, e, rs[i], fNames (rs.take i), rfl, ⟨p, rfl, k2 _ _ h2⟩, e2, ok, fun H3 k3 => ?_⟩
      refine ⟨true, rfl, iteF ?_⟩
      have e3 := k3 _ _ e2
      refine ⟨_, rfl, .inl ⟨rfl, _, SqL.of e3⟩, _, rfl, p, _, _, _, rfl, rfl, SqT.of ((k2.trans k3) _ _ h2), rfl, e, _, _, rfl, rfl, e3, ?_, ?_⟩
      · rw [sizeLine_eq, List.length_map, fNames, List.length_map, List.length_take]
        omega
      · refine ⟨_, _, rfl, ?_, fun a o ha => ?_⟩
        · rw [upd_same, names_take, names_take]
          show _ = some (HO.lst (((fNames rs).take (i + 1)).map V.str))
          rw [List.map_take, List.map_take, List.take_add_one]
          have : (List.map V.str (fNames rs))[i]? = some (V.str rs[i].1) := by
            rw [List.getElem?_map, fNames, List.getElem?_map, List.getElem?_eq_getElem hir]
            rfl
          rw [this]
          rfl
        · rw [upd_ne (ne_of_none ha he)]
          exact k3 _ _ (k2 _ _ ha)
    · rintro σ H1 ⟨v2, v3, rfl, e1, k1⟩
      refine ⟨_, rfl, l, xs, rfl, .inl (hlk _ k1), ?_⟩
      rw [hR.1]
      exact k _ k1
end
end Lw

set_option Elab.async false
set_option linter.all false
set_option maxRecDepth 100000
set_option maxHeartbeats 4000000
namespace Lw
open L2 hiding Ext
open PySem PySem.Spec PyProof.Rows Gn Gr Gk Go Gt Gf
/-- what of the text the class Forest has -/
structure FC (K : PySem.W.Frag) (mg : Str → Option Value) (C fI : Addr) (mc : Value) : Prop where
  cl : Cls K C
  make : Mk K C fI
  nP : NoAttr K C "_parents"
  cr : ClX.CRead K C mc
  most : ∃ u, ClX.CVal K C mc "MOST" (.int 8) u
  ha : PySem.W.findIn K (.ref C) "__class__" = some (some (.builtin "object.__class__"))
  hn : PySem.W.specialIn K (.builtin "object.__class__") "__get__" = some (some (.builtin "getset_descriptor.__get__"))
  htk : PySem.W.takesIn K (.builtin "object.__class__") = some true
  hm : PySem.W.mroIn K C (.type "object") = some true
  self : PySem.W.kitOne K (.ref C) (.ref C) = some true
  g : mg "Forest" = some (.ref C)
def kvs (rs : List FRow) : List (Key × V) := rs.map kvOf
def FoAt (C : Addr) (H : Hp) (a : Addr) (rs : List FRow) : Prop := ∃ dx q, H a = some (.ins C dx [("_parents", .ref q)]) ∧ H q = some (.dK (kvs rs))
theorem FoAt.ext {C a : Addr} {H H' : Hp} {rs : List FRow} (h : FoAt C H a rs) (k : Ext H H') : FoAt C H' a rs := by
  obtain ⟨dx, q, h1, h2⟩ := h
  exact ⟨dx, q, k _ _ h1, k _ _ h2⟩
def Good (rs : List FRow) : Prop := 1 ≤ rs.length ∧ rs.length ≤ 8 ∧ GoodF [] rs
theorem kvs_none {rs : List FRow} {n : Str} (h : n ∉ fNames rs) : valV (kvs rs) (Sum.inr n : Key) = none := by
  induction rs with
  | nil => rfl
  | cons r t ih =>
    have h1 : ¬ r.1 = n := fun e => h (by simp [fNames, e])
    have h2 : n ∉ fNames t := fun e => h (List.mem_cons_of_mem _ e)
    show valV ((Sum.inr r.1, parV r.2) :: kvs t) (Sum.inr n : Key) = none
    rw [valV_neg (fun e => h1 (Sum.inr.inj e))]
    exact ih h2
theorem kvs_some : ∀ {rs : List FRow} {r : FRow}, (fNames rs).Nodup → r ∈ rs → valV (kvs rs) (Sum.inr r.1 : Key) = some (parV r.2)
  | [], _, _, h => by cases h
  | x :: t, r, hn, h => by
    have hn' : (x.1 :: fNames t).Nodup := hn
    obtain ⟨n1, n2⟩ := List.nodup_cons.mp hn'
    show valV ((Sum.inr x.1, parV x.2) :: kvs t) (Sum.inr r.1 : Key) = _
    rcases List.mem_cons.mp h with rfl | h
    · exact valV_pos rfl
    · have ne : ¬ x.1 = r.1 := fun e => n1 (by rw [e]; exact List.mem_map.mpr ⟨r, h, rfl⟩)
      rw [valV_neg (fun e => ne (Sum.inr.inj e))]
      exact kvs_some n2 h
section
variable {P : Program} {w : World} {K : PySem.W.Frag} {mg : Str → Option Value} {base : Heap} {C fI : Addr} {mc : Value}
theorem FC.ty (T : FC K mg C fI mc) {H : Hp} {a dx : Addr} {fs : List (Str × V)} (h : H a = some (.ins C dx fs)) : TyX K H (.ref a) (.ref C) := .base (.ins h T.cl T.ha T.hn T.htk T.hm)
/-! ### Forest.__init__ -/
def spInit (C : Addr) : Sp := fun vs H Q _ => ∃ (x l dx : Addr) (xs : List V) (rs : List FRow), vs = [.ref x, .ref l] ∧ H x = some (.ins C dx []) ∧ H l = some (.lst xs) ∧ RowsAt H xs rs ∧ Good rs ∧
  ∀ H' D, (∀ a o, a ≠ x → H a = some o → H' a = some o) → H' x = some (.ins C dx [("_parents", .ref D)]) → H' D = some (.dK (kvs rs)) → Q .non H'
theorem scInit : FnScope ["self", "rows", "name", "parent"] ["self", "rows"] (defScope sInit) := ⟨rfl, rfl, rfl, by decide +kernel, rfl, by decide +kernel, by decide +kernel⟩
theorem ok_init {f fW : Addr} {fd fdW : FuncData} (F : Fun K "__init__" "Forest.__init__" sInit f fd) (T : Names mg) (Z : FC K mg C fI mc) (GW : FnOk P w K mg base CX0 3 fW fdW ["rows"] (spWrong K)) (bW : Binds K fdW ["rows"] []) (kW : PySem.W.keepIn K (.ref fW) = true) (mW : mg "first_wrong" = some (.ref fW)) :
    FnOk P w K mg base CX0 4 f fd ["self", "rows"] (spInit C) := by
  refine F.ok scInit (fun vs H Q E h => ?_) (fun cdv A outer s H vs Q E hr h => ?_)
  · obtain ⟨x, l, dx, xs, rs, rfl, _⟩ := h
    rfl
  · obtain ⟨x, l, dx, xs, rs, rfl, hx, hl, hR, ⟨g1, g8, hg⟩, k⟩ := h
    have hu := hu_of hr
    have nd := scInit.nd
    obtain ⟨um, hM⟩ := Z.most
    refine ⟨_, pss_cons (ps_if (pt_not (pt_val (pe_callB call_isiT rfl T.isi (by decide +kernel) (pa_cons (pv 1) (pa_cons (pe_tup (pa_cons (pe_bltn (v := .ty "list") rfl T.list (by decide +kernel) rfl) (pa_cons (pe_bltn (v := .ty "tuple") rfl T.tuple (by decide +kernel) rfl) pa_nil))) pa_nil))))) pss_never pss_nil)
      (pss_cons (ps_if (PW.pt (pw_or (pt_cmpR op_lt (pe_callB call_len_seq rfl T.len PySem.boot_len (pa_cons (pv 1) pa_nil)) pe_int (nomark _)) (pw_or1 (pt_cmpR op_gt (pe_callB call_len_seq rfl T.len PySem.boot_len (pa_cons (pv 1) pa_nil)) (ClX.pe_cval (pe_glob (v := .ref C) rfl Z.g rfl)) (nomark _))))) pss_never pss_nil)
      (pss_cons (ps_if (pt_cmpR op_lt (pe_call GW hr rfl mW kW bW .nil pass0 (pa_cons (pv 1) pa_nil)) (pe_callB call_len_seq rfl T.len PySem.boot_len (pa_cons (pv 1) pa_nil)) (nomark _)) pss_never pss_nil)
      (pss_one (ps_fld (pv 0) (pe_dc (own := [("name", 2), ("parent", 3)]) (g := gTup K 2 (gCons (gName 2) (gCons (gName 3) gNil))) (tt := tYes) rfl nd (pi_list (pv 1)) (blkOk_by (N := ["self", "rows", "name", "parent"]) (sc := defScope sInit) (by decide +kernel))
        (fun _ _ _ _ _ => by exact (pg_tup rfl (pgs_cons (pg_name (i := 2) nd rfl (.inl rfl)) (pgs_cons (pg_name (i := 3) nd rfl (.inl rfl)) pgs_nil)))) (fun _ _ _ _ _ => pts_nil) (fun _ _ _ _ _ => pv 2) (fun _ _ _ _ _ => pv 3)) rfl)))), ?_⟩
    have hlen : xs.length = rs.length := hR.1
    refine ⟨_, rfl, by show 2 ≤ sizeLine; decide, fun tp htp => ?_⟩
    have hx1 := new_same (o := .tup [.ty "list", .ty "tuple"]) htp _ _ hx
    have hl1 := new_same (o := .tup [.ty "list", .ty "tuple"]) htp _ _ hl
    have k1 : Ext H (upd H tp (.tup [.ty "list", .ty "tuple"])) := Ext.new htp
    have ht1 : (upd H tp (.tup [.ty "list", .ty "tuple"])) tp = some (.tup [.ty "list", .ty "tuple"]) := upd_same
    generalize upd H tp (.tup [.ty "list", .ty "tuple"]) = H1 at hx1 hl1 k1 ht1 ⊢
    refine ⟨_, tp, _, _, [.type "list", .type "tuple"], true, rfl, ht1, .cons (.ty _) (.cons (.ty _) .nil), (TyT.lst hl1).x, kitAny_cons (b := true) (kit_ty (by decide +kernel)) (fun z => by cases z) (fun _ => rfl), true, rfl, iteF ?_⟩
    refine ⟨_, rfl, l, _, rfl, .inl (SqL.of hl1), _, _, rfl, rfl, _, rfl, iteN (by omega) ?_⟩
    refine ⟨_, rfl, l, _, rfl, .inl (SqL.of hl1), C, mc, _, um, rfl, Z.cr, hM, _, _, rfl, rfl, _, rfl, iteN (by omega) ?_⟩
    refine ⟨_, rfl, l, xs, rs, rfl, SqL.of hl1, fun H' k' => SqL.of (k' _ _ hl1), hR.ext k1, hg, by omega, fun H2 k2 => ?_⟩
    have hl2 := k2 _ _ hl1
    have hx2 := k2 _ _ hx1
    refine ⟨_, rfl, l, _, rfl, .inl (SqL.of hl2), _, _, rfl, rfl, _, rfl, iteN (by omega) ?_⟩
    refine ⟨_, rfl, l, rfl, ⟨_, SqL.of hl2⟩, fun D hD => ?_⟩
    refine dc_it walk_list (fun i H' => H' D = some (.dK (kvs (rs.take i))) ∧ Ext H2 H') ⟨upd_same, Ext.new hD⟩ (fun i H' _ ⟨_, e⟩ => SqL.of (e _ _ hl2)) ?_ ?_
    · rintro i y H3 H4 hi ⟨d3, k3⟩ ⟨rfl, hy⟩
      have hir : i < rs.length := by omega
      obtain ⟨p, h1, h2⟩ := hR.2 i _ (List.getElem?_eq_getElem hir)
      rw [h1] at hy
      cases hy
      have ok := good_at hg (List.getElem?_eq_getElem hir)
      rw [List.nil_append] at ok
      refine ⟨p, _, rfl, SqT.of (k3 _ _ (k2 _ _ (k1 _ _ h2))), rfl, _, _, rfl, _, _, rfl, rfl, rfl, yes_of ?_⟩
      refine ⟨_, rfl, _, rfl, kvs (rs.take i), (Sum.inr rs[i].1 : Key), rfl, d3, ?_, ?_, fun a o ha => ?_⟩
      · rw [sizeLine_eq, kvs, List.length_map, List.length_take]
        omega
      · rw [upd_same, putK_new _ (kvs_none ok.2.1)]
        show _ = some (HO.dK ((rs.take (i + 1)).map kvOf))
        rw [take_succ_map kvOf (List.getElem?_eq_getElem hir)]
        rfl
      · rw [upd_ne (ne_of_none ha hD)]
        exact k3 _ _ ha
    · rintro H3 ⟨d3, k3⟩
      rw [hlen, List.take_length] at d3
      refine ⟨_, rfl, x, C, dx, [], rfl, k3 _ _ hx2, Z.cl, Z.nP, by decide, ?_⟩
      refine k _ D (fun a o na ha => ?_) upd_same ?_
      · rw [upd_ne na]
        exact k3 _ _ (k2 _ _ (k1 _ _ ha))
      · rw [upd_ne (ne_of_none hx2 hD).symm]
        exact d3
theorem keys_strs (rs : List FRow) : ((kvs rs).map fun kv => kV kv.1) = (fNames rs).map V.str := by
  unfold kvs fNames
  rw [List.map_map, List.map_map]
  rfl
/-! ### names -/
def spNames (C : Addr) : Sp := fun vs H Q _ => ∃ (a : Addr) (rs : List FRow), vs = [.ref a] ∧ FoAt C H a rs ∧ ∀ H' t, Ext H H' → H t = none → H' t = some (.tup ((fNames rs).map V.str)) → Q (.ref t) H'
theorem scNames : FnScope ["self"] ["self"] (defScope sNames) := ⟨rfl, rfl, rfl, by decide +kernel, rfl, by decide +kernel, by decide +kernel⟩
theorem ok_names {f : Addr} {fd : FuncData} (F : Fun K "names" "Forest.names" sNames f fd) (T : Names mg) (Z : FC K mg C fI mc) : FnOk P w K mg base CX0 1 f fd ["self"] (spNames C) := by
  refine F.ok scNames (fun vs H Q E h => ?_) (fun cdv A outer s H vs Q E hr h => ?_)
  · obtain ⟨a, rs, rfl, _⟩ := h
    rfl
  · obtain ⟨a, rs, rfl, ⟨dx, q, h1, h2⟩, k⟩ := h
    refine ⟨_, pss_one (ps_ret (pe_callTy (call_tuple_dK rfl) rfl T.tuple (by decide +kernel) (pa_cons (pe_fld (pv 0) rfl) pa_nil))), ?_⟩
    refine ⟨_, rfl, a, C, dx, _, _, rfl, h1, Z.cl, Z.nP, rfl, q, _, rfl, h2, fun t ht => ?_⟩
    rw [keys_strs]
    exact k _ t (Ext.new ht) ht upd_same
end
end Lw

set_option Elab.async false
set_option linter.all false
set_option maxRecDepth 100000
set_option maxHeartbeats 4000000
namespace Lw
open L2 hiding Ext
open PySem PySem.Spec PyProof.Rows Gn Gr Gk Go Gt Gf
section
variable {P : Program} {w : World} {K : PySem.W.Frag} {mg : Str → Option Value} {base : Heap}
/-- the two defs that draw, as they stand -/
structure Draw (P : Program) (w : World) (K : PySem.W.Frag) (mg : Str → Option Value) (base : Heap) (ns : List Int) (fT fP : Addr) (fdT fdP : FuncData) : Prop where
  GT : FnOk P w K mg base CX0 2 fT fdT ["_law_state", "_law_size"] (spTake ns)
  bT : Binds K fdT ["_law_state", "_law_size"] []
  kT : PySem.W.keepIn K (.ref fT) = true
  mT : mg "_law_take" = some (.ref fT)
  GP : FnOk P w K mg base CX0 3 fP fdP ["_law_state", "_law_some"] (spPick K ns)
  bP : Binds K fdP ["_law_state", "_law_some"] []
  kP : PySem.W.keepIn K (.ref fP) = true
  mP : mg "_law_pick" = some (.ref fP)
  len : mg "len" = none
  range : mg "range" = none
/-! ### _law_words -/
abbrev nWords : List Str := ["_law_state", "_law_size", "_law_own", "_law_letters", "_law_found", "_law_k", "_law_word", "_law_j", "_law_letter", "_law_spare"]
def spWords (ns : List Int) : Sp := fun vs H Q _ => ∃ (d g c : Addr) (b : Nat) (z : Int), vs = [.ref d, .int z] ∧ Dw ns d g c b H ∧ b ≤ 900000000 ∧ 0 ≤ z ∧ z ≤ 8 ∧
  ∀ (l : Addr) (ws : List Str) (H' : Hp), H l = none → l ≠ d → l ≠ g → H' l = some (.lst (ws.map V.str)) → ws.length = z.toNat → ws.Nodup → (∀ x ∈ ws, nameOk x = true) → Dw ns d g c (b + 200) H' → Kp d g H H' → Q (.ref l) H'
theorem scWords : FnScope nWords ["_law_state", "_law_size"] (defScope sWords) := ⟨rfl, rfl, rfl, by decide +kernel, rfl, by decide +kernel, by decide +kernel⟩
theorem ok_words {f fT fP : Addr} {fd fdT fdP : FuncData} (ns : List Int) (F : Fun K "_law_words" "_law_words" sWords f fd) (R : Draw P w K mg base ns fT fP fdT fdP) : FnOk P w K mg base CX0 4 f fd ["_law_state", "_law_size"] (spWords ns) := by
  refine F.ok scWords (fun vs H Q E h => ?_) (fun cdv A outer s H vs Q E hr h => ?_)
  · obtain ⟨d, g, c, b, z, rfl, _⟩ := h
    rfl
  · obtain ⟨d, g, c, b, z, rfl, D, hb, z0, z8, k⟩ := h
    have hu := hu_of hr
    have nd := scWords.nd
    have hr2 : Room 2 (A.deeper (envOfC "_law_words" (defScope sWords) s.heap.objs.size f cdv)) := hr.mono (by decide)
    refine ⟨_, pss_cons (ps_set (i := 2) nd rfl (.inl rfl) (pe_split pe_str pe_str))
      (pss_cons (ps_asg (pe_tup (pa_cons pe_str (pa_cons (pe_lst pa_nil) pa_nil))) (by exact (pg_tup rfl (pgs_cons (pg_name (i := 3) nd rfl (.inr rfl)) (pgs_cons (pg_name (i := 4) nd rfl (.inr rfl)) pgs_nil)))))
      (pss_cons (ps_for PassesOwn.never rfl (pi_range1 rfl R.range (pa_cons (pv 1) pa_nil)) (pg_name (i := 5) nd rfl (.inl rfl))
        (pss_cons (ps_set (i := 6) nd rfl (.inr rfl) (pe_call R.GP hr rfl R.mP R.kP R.bP .nil pass0 (pa_cons (pv 0) (pa_cons (pv 2) pa_nil))))
        (pss_cons (ps_if (pt_cmpR op_gt (pe_call R.GT hr2 rfl R.mT R.kT R.bT .nil pass0 (pa_cons (pv 0) (pa_cons pe_int pa_nil))) pe_int (nomark _))
          (pss_one (ps_set (i := 6) nd rfl (.inr rfl) (pe_join pe_str (pe_lc (own := [("_law_j", 7)]) (g := gName 7) (tt := tYes) rfl nd (pi_range1 rfl R.range (pa_cons (pe_call R.GP hr rfl R.mP R.kP R.bP .nil pass0 (pa_cons (pv 0) (pa_cons (pe_lst (pa_cons pe_int (pa_cons pe_int (pa_cons pe_int (pa_cons pe_int pa_nil))))) pa_nil))) pa_nil)) (blkOk_by (N := nWords) (sc := defScope sWords) (by decide +kernel))
            (fun _ _ _ _ _ => pg_name (i := 7) nd rfl (.inl rfl)) (fun _ _ _ _ _ => pts_nil) (fun _ _ _ _ _ => pe_call R.GP hr rfl R.mP R.kP R.bP .nil pass0 (pa_cons (pv 0) (pa_cons (pv 3) pa_nil))))))) pss_nil)
        (pss_cons (ps_if (pt_cmpR op_in_seq (pv 6) (pv 4) rfl)
          (pss_one (ps_set (i := 6) nd rfl (.inr rfl) (pe_ix ix_list (pe_lc (own := [("_law_spare", 9)]) (g := gName 9) rfl nd (pi_list
              (pe_lc (own := [("_law_letter", 8)]) (g := gName 8) (tt := tYes) rfl nd (pi_str (pv 3)) (blkOk_by (N := nWords) (sc := defScope sWords) (by decide +kernel))
                (fun _ _ _ _ _ => pg_name (i := 8) nd rfl (.inl rfl)) (fun _ _ _ _ _ => pts_nil) (fun _ _ _ _ _ => pe_op op_add_str (pe_op op_add_str (pe_slice sl_str (pv 6) po_none (po_some pe_int)) pe_str) (pv 8)))) (blkOk_by (N := nWords) (sc := defScope sWords) (by decide +kernel))
              (fun _ _ _ _ _ => pg_name (i := 9) nd rfl (.inl rfl)) (fun _ _ _ _ _ => pts_one (pt_cmpR (r := rIn K true) op_notIn_seq (pv 9) (pv 4) rfl)) (fun _ _ _ _ _ => pv 9)) pe_int (fun _ _ => rfl)))) pss_nil)
        (pss_one (ps_expr (pe_bm PySem.F.plainAttrs_list PySem.F.slot_list_append PySem.F.type_list_append mt_append (pv 4) (pa_cons (pv 6) pa_nil))))))))
      (pss_one (ps_ret (pv 4))))), ?_⟩
    have ho1 : (ownText.length : Nat) ≤ 100 := by decide +kernel
    refine ⟨⟨_, rfl⟩, ownText, _, rfl, rfl, by decide +kernel, by rw [sizeLine_eq]; omega, fun o hoN => ?_⟩
    have Do := D.new (o := .lst (owns.map V.str)) hoN
    have hno : o ≠ d := D.nd hoN
    have hgo : o ≠ g := D.ng hoN
    have ho : (upd H o (.lst (owns.map V.str))) o = some (.lst (owns.map V.str)) := upd_same
    have ko : Kp d g H (upd H o (.lst (owns.map V.str))) := Kp.new hoN
    show tSeq _ _ _ _ (upd H o (.lst (owns.map V.str)))
    generalize upd H o (.lst (owns.map V.str)) = H1 at Do ho ko ⊢
    refine ⟨Nat.zero_le _, fun l hl => ?_⟩
    have Dl := Do.new (o := .lst []) hl
    have hnl : l ≠ d := Do.nd hl
    have hgl : l ≠ g := Do.ng hl
    have hcl : l ≠ c := fun e => by rw [e, Do.cl] at hl; cases hl
    have hol : l ≠ o := (ne_of_none ho hl).symm
    have hlH : H l = none := D.free Do ko hl
    have kl : Kp d g H (upd H1 l (.lst [])) := ko.trans (Kp.new hl)
    have ho2 := new_same (o := .lst []) hl _ _ ho
    have hl2 : (upd H1 l (.lst [])) l = some (.lst (([] : List Str).map V.str)) := upd_same
    generalize upd H1 l (.lst []) = H2 at Dl kl ho2 hl2 ⊢
    refine ⟨by show 2 ≤ sizeLine; decide, fun t ht => ?_⟩
    have Dt := Dl.new (o := .tup [.str letters, .ref l]) ht
    have kt : Kp d g H (upd H2 t (.tup [.str letters, .ref l])) := kl.trans (Kp.new ht)
    have ho3 := new_same (o := .tup [.str letters, .ref l]) ht _ _ ho2
    have hl3 := new_same (o := .tup [.str letters, .ref l]) ht _ _ hl2
    refine ⟨t, _, rfl, SqT.of upd_same, rfl, _, _, rfl, _, _, rfl, rfl, ?_⟩
    show tSeq _ _ _ _ (upd H2 t (.tup [.str letters, .ref l]))
    generalize upd H2 t (.tup [.str letters, .ref l]) = H3 at Dt kt ho3 hl3 ⊢
    refine ⟨_, rfl, z, rfl, by omega, by omega, for_range (lo := 0) (n := z.toNat) (fun i σ H' => ∃ (v5 v6 : Option V) (ws : List Str), σ = [some (.ref d), some (.int z), some (.ref o), some (.str letters), some (.ref l), v5, v6, none, none, none] ∧
        H' o = some (.lst (owns.map V.str)) ∧ H' l = some (.lst (ws.map V.str)) ∧ ws.length = i ∧ ws.Nodup ∧ (∀ x ∈ ws, nameOk x = true) ∧ Dw ns d g c (b + 20 * i) H' ∧ Kp d g H H')
      ⟨none, none, [], rfl, ho3, hl3, rfl, List.nodup_nil, (fun x hx => by cases hx), Dt, kt⟩ ?_ ?_⟩
    · rintro i σ H4 hi ⟨v5, v6, ws, rfl, o4, l4, wl, wn, wok, D4, k4⟩
      refine ⟨_, rfl, _, rfl, d, g, c, _, D4, by omega, .inl ⟨o, _, rfl, o4, hno, hgo, by rw [List.length_map, owns_len]; decide, by rw [List.length_map, owns_len]; decide, fun y H5 hy D5 k5 => ?_⟩⟩
      obtain ⟨w0, hw0, rfl⟩ := List.mem_map.mp hy
      have hw0 := owns_ok w0 hw0
      refine ⟨_, rfl, d, g, c, _, 3, rfl, D5, by omega, by decide, by decide, fun r H6 r0 r1 D6 k6 => ?_⟩
      have l6 := k6 _ _ hnl hgl (k5 _ _ hnl hgl l4)
      have o6 := k6 _ _ hno hgo (k5 _ _ hno hgo o4)
      have k46 : Kp d g H H6 := (k4.trans k5).trans k6
      have fin : ∀ (wd : Str) (H' : Hp) (v5' : Option V), nameOk wd = true → wd ∉ ws → H' o = some (.lst (owns.map V.str)) → H' l = some (.lst (ws.map V.str)) → Dw ns d g c (b + 20 * i + 20) H' → Kp d g H H' →
          ∃ (v5 v6 : Option V) (ws' : List Str), [some (.ref d), some (.int z), some (.ref o), some (.str letters), some (.ref l), v5', some (.str wd), none, none, none] = [some (.ref d), some (.int z), some (.ref o), some (.str letters), some (.ref l), v5, v6, none, none, none] ∧
            (upd H' l (.lst (ws.map V.str ++ [V.str wd]))) o = some (.lst (owns.map V.str)) ∧ (upd H' l (.lst (ws.map V.str ++ [V.str wd]))) l = some (.lst (ws'.map V.str)) ∧ ws'.length = i + 1 ∧ ws'.Nodup ∧ (∀ x ∈ ws', nameOk x = true) ∧ Dw ns d g c (b + 20 * (i + 1)) (upd H' l (.lst (ws.map V.str ++ [V.str wd]))) ∧ Kp d g H (upd H' l (.lst (ws.map V.str ++ [V.str wd]))) := by
        intro wd H' v5' h1 h2 h3 h4 h5 h6
        refine ⟨_, _, ws ++ [wd], rfl, by rw [upd_ne hol.symm]; exact h3, by rw [upd_same, List.map_append]; rfl, by rw [List.length_append, wl]; rfl, ?_, fun x hx => ?_, (h5.put h4 hnl hgl hcl).mono (by omega), fun a u n1 n2 ha => ?_⟩
        · refine List.nodup_append.mpr ⟨wn, by simp, fun a ha a' ha' => ?_⟩
          rw [List.mem_singleton] at ha'
          subst ha'
          exact fun e => h2 (e ▸ ha)
        · rcases List.mem_append.mp hx with hx | hx
          · exact wok x hx
          · rw [List.mem_singleton.mp hx]
            exact h1
        · rw [upd_ne (ne_of_none ha hlH)]
          exact h6 a u n1 n2 ha
      refine ⟨_, _, rfl, rfl, _, rfl, ?_⟩
      refine ite2 (fun e => ?A) (fun e => ?B)
      case' A =>
        refine ⟨⟨_, rfl⟩, _, rfl, by show 4 ≤ sizeLine; decide, fun q hq => ?_⟩
        have D7 := D6.new (o := .lst [.int 1, .int 1, .int 2, .int 8]) hq
        refine ⟨d, g, c, _, D7, by omega, .inl ⟨q, _, rfl, upd_same, D6.nd hq, D6.ng hq, by show 0 < 4; decide, by show 4 ≤ 1000000; decide, fun y2 H8 hy2 D8 k8 => ?_⟩⟩
        obtain ⟨j, rfl, j1, j8⟩ := sizes1128 _ hy2
        have l8 := k8 _ _ hnl hgl (new_same (o := .lst [.int 1, .int 1, .int 2, .int 8]) hq _ _ l6)
        have o8 := k8 _ _ hno hgo (new_same (o := .lst [.int 1, .int 1, .int 2, .int 8]) hq _ _ o6)
        have k48 : Kp d g H H8 := (k46.trans (Kp.new hq)).trans k8
        refine ⟨j, rfl, by omega, by omega, fun L hL => ?_⟩
        have nL : L ≠ d := D8.nd hL
        have gL : L ≠ g := D8.ng hL
        have cL : L ≠ c := fun e => by rw [e, D8.cl] at hL; cases hL
        refine lc_range (lo := 0) (n := j.toNat) (fun i' H' => ∃ cs : List Nat, H' L = some (.lst ((cs.map cand.oneS').map V.str)) ∧ cs.length = i' ∧ (∀ x ∈ cs, x ∈ letters.cps.toList) ∧ Dw ns d g c (b + 20 * i + 3 + i') H' ∧ Kp d g H8 H')
          ⟨[], upd_same, rfl, (fun x hx => by cases hx), (D8.new hL).mono (by omega), Kp.new hL⟩ ?_ ?_
        · rintro i' H9 hi' ⟨cs, d9, cl, cok, D9, k9⟩
          refine ⟨rfl, yes_of ?_⟩
          refine ⟨_, rfl, _, rfl, d, g, c, _, D9, by omega, .inr ⟨_, rfl, by decide +kernel, by decide +kernel, fun y3 H10 hy3 D10 k10 => ?_⟩⟩
          have d10 := k10 _ _ nL gL d9
          refine ⟨_, d10, ?_, cs ++ [y3], ?_, by rw [List.length_append, cl]; rfl, fun x hx => ?_, (D10.put d10 nL gL cL).mono (by omega), fun a u n1 n2 ha => ?_⟩
          · rw [List.length_map, List.length_map]
            exact small1000 (by omega)
          · rw [upd_same, List.map_append, List.map_append]
            rfl
          · rcases List.mem_append.mp hx with hx | hx
            · exact cok x hx
            · rw [List.mem_singleton.mp hx]
              exact hy3
          · rw [upd_ne (ne_of_none ha hL)]
            exact k10 _ _ n1 n2 (k9 _ _ n1 n2 ha)
        rintro H9 ⟨cs, d9, cl, cok, D9, k9⟩
        have jw : nameOk (Txt.join Str.empty (cs.map cand.oneS')) = true := by
          have e9 := join_signs cs
          refine nameOk_of ?_ ?_ (fun x hx => ?_)
          · rw [← len_cps, e9]; omega
          · rw [← len_cps, e9]; omega
          · rw [e9] at hx
            exact cok x hx
        refine ⟨_, L, cs.map cand.oneS', rfl, rfl, .inl (SqL.of d9), ?_, ?_⟩
        · have e0 : ("" : Str).length = 0 := by decide +kernel
          have hs := sum_le (fun y : Str => y.length) (b := 1) (cs.map cand.oneS') fun x hx => by
            obtain ⟨x', _, rfl⟩ := List.mem_map.mp hx
            exact Nat.le_refl 1
          rw [List.length_map] at hs ⊢
          rw [e0]
          omega
        rw [e_eq]
        obtain ⟨wd, hwd, hwk⟩ : ∃ wd, wd = Txt.join Str.empty (cs.map cand.oneS') ∧ nameOk wd = true := ⟨_, rfl, jw⟩
        rw [← hwd]
        have lT := k9 _ _ hnl hgl l8
        have oT := k9 _ _ hno hgo o8
        have kT : Kp d g H H9 := k48.trans k9
        have DT : Dw ns d g c (b + 20 * i + 15) H9 := D9.mono (by omega)
        generalize H9 = HT at lT oT kT DT ⊢
      case' B =>
        obtain ⟨wd, hwd, hwk⟩ : ∃ wd, wd = w0 ∧ nameOk wd = true := ⟨_, rfl, hw0⟩
        rw [← hwd]
        have lT := l6
        have oT := o6
        have kT := k46
        have DT : Dw ns d g c (b + 20 * i + 15) H6 := D6.mono (by omega)
        generalize H6 = HT at lT oT kT DT ⊢
      all_goals
        refine ⟨_, rfl, _, rfl, l, _, rfl, .inl (SqL.of lT), rfl, strs_flat ws, _, rfl, ?_⟩
        rw [inV_strs]
        refine ite2 (fun e => ?_) (fun e => ?_)
        · have hwl := (name_len hwk).2
          refine ⟨_, rfl, letters, rfl, fun D1 hD1 => ?_⟩
          refine lc_it walk_str (fun i' H' => H' D1 = some (.lst (((letters.cps.toList.take i').map (cand wd)).map V.str)) ∧ Ext HT H') ⟨upd_same, Ext.new hD1⟩ (fun _ _ _ _ => trivial) ?_ ?_
          · rintro i' y H1' H2' hi' ⟨hd', he'⟩ ⟨rfl, c', hc', rfl⟩
            have hc2 := cps_at hc'
            refine ⟨rfl, yes_of ?_⟩
            have h6 := cut6 wd
            refine ⟨_, rfl, 6, rfl, wd, rfl, by rw [sizeLine_eq]; omega, _, _, rfl, rfl, by rw [z_len, sizeLine_eq]; omega, _, rfl, _, _, rfl, rfl, by rw [strlen, z_len, sizeLine_eq]; show _ + 1 + 1 ≤ _; omega, _, hd', ?_, ?_, fun a u ha => ?_⟩
            · have : letters.cps.toList.length = 26 := by decide +kernel
              rw [List.length_map, List.length_map, List.length_take]
              exact small1000 (by omega)
            · rw [upd_same, take_succ_map (cand wd) hc2, List.map_append]
              rfl
            · rw [upd_ne (ne_of_none ha hD1)]
              exact he' _ _ ha
          rintro H1' ⟨hd', he'⟩
          rw [← cps_len, List.take_length] at hd'
          have hd' : H1' D1 = some (.lst ((cands wd).map V.str)) := hd'
          have oT1 := he' _ _ oT
          have lT1 := he' _ _ lT
          refine ⟨D1, rfl, ⟨_, SqL.of hd'⟩, fun D2 hD2 => ?_⟩
          refine lc_it walk_list (fun i' H' => H' D2 = some (.lst ((((cands wd).take i').filter (fun y => !decide (y ∈ ws))).map V.str)) ∧ Ext H1' H') ⟨upd_same, Ext.new hD2⟩ (fun i H' _ ⟨_, e⟩ => SqL.of (e _ _ hd')) ?_ ?_
          · rintro i' y H2' H3' hi' ⟨d2, k2⟩ ⟨rfl, hy⟩
            rw [List.getElem?_map] at hy
            obtain ⟨x, hx, rfl⟩ := Option.map_eq_some_iff.mp hy
            have ef := filter_take (fun y => !decide (y ∈ ws)) hx
            refine ⟨rfl, _, rfl, _, rfl, l, _, rfl, .inl (SqL.of (k2 _ _ lT1)), rfl, strs_flat ws, ?_⟩
            show ∃ b, V.bl (!inV (.str x) (ws.map V.str)) = V.bl b ∧ _
            rw [inV_strs]
            refine ⟨_, rfl, ite2 (fun e => ?_) (fun e => ?_)⟩
            · rw [if_pos e] at ef
              refine ⟨_, rfl, _, d2, ?_, ?_, fun a u ha => ?_⟩
              · have h1 := List.length_filter_le (fun y => !decide (y ∈ ws)) ((cands wd).take i')
                rw [List.length_take, cands_len] at h1
                rw [List.length_map]
                exact small1000 (by omega)
              · rw [upd_same, ef, List.map_append]
                rfl
              · rw [upd_ne (ne_of_none ha hD2)]
                exact k2 _ _ ha
            · rw [if_neg e, List.append_nil] at ef
              exact ⟨by rw [ef]; exact d2, k2⟩
          rintro H2' ⟨d2, k2⟩
          rw [List.length_map, List.take_length] at d2
          obtain ⟨w1, rst, e1, m1, n1⟩ := fresh_cand wd (fs := ws) (by omega)
          rw [e1] at d2
          have w1ok : nameOk w1 = true := by
            obtain ⟨c', hc', rfl⟩ := List.mem_map.mp m1
            exact cand_ok (lo_of hwk) hc'
          refine ⟨D2, _, _, V.str w1, rfl, rfl, SqL.of d2, (show atI (V.str w1 :: rst.map V.str) ((0 : Nat) : Int) = some (V.str w1) from atI_nat rfl), ?_⟩
          have lT2 := k2 _ _ lT1
          refine ⟨_, rfl, .inl ⟨rfl, _, SqL.of lT2⟩, _, rfl, l, _, _, rfl, rfl, lT2, by rw [List.length_map]; exact small1000 (by omega), ?_⟩
          exact fin _ _ _ w1ok n1 (k2 _ _ oT1) lT2 ((DT.keep fun a u ha => k2 _ _ (he' _ _ ha)).mono (by omega)) (kT.trans (Kp.of fun a u ha => k2 _ _ (he' _ _ ha)))
        · have e : wd ∉ ws := fun m => e (decide_eq_true m)
          refine ⟨_, rfl, .inl ⟨rfl, _, SqL.of lT⟩, _, rfl, l, _, _, rfl, rfl, lT, by rw [List.length_map]; exact small1000 (by omega), ?_⟩
          exact fin _ _ _ hwk e oT lT (DT.mono (by omega)) kT
    · rintro σ H4 ⟨v5, v6, ws, rfl, o4, l4, wl, wn, wok, D4, k4⟩
      exact ⟨_, rfl, k l ws H4 hlH hnl hgl l4 wl wn wok (D4.mono (by omega)) k4⟩
end
theorem RowsAt.kp {ns : List Int} {d g c : Addr} {b : Nat} {H H' : Hp} {vs : List V} {rs : List FRow} (h : RowsAt H vs rs) (D : Dw ns d g c b H) (k : Kp d g H H') : RowsAt H' vs rs := by
  obtain ⟨⟨gs, l, t, hd, hg, _, _⟩, _⟩ := D
  exact ⟨h.1, fun i r hr => by
    obtain ⟨p, a, e⟩ := h.2 i r hr
    exact ⟨p, a, k _ _ (ne_of e hd (by intro z; cases z)) (ne_of e hg (by intro z; cases z)) e⟩⟩
theorem RowsAt.snoc {H : Hp} {vs : List V} {rs : List FRow} {p : Addr} {r : FRow} (h : RowsAt H vs rs) (hp : H p = some (.tup [.str r.1, parV r.2])) : RowsAt H (vs ++ [V.ref p]) (rs ++ [r]) := by
  refine ⟨by rw [List.length_append, List.length_append, h.1]; rfl, fun i x hx => ?_⟩
  by_cases e : i < rs.length
  · rw [List.getElem?_append_left e] at hx
    rw [List.getElem?_append_left (by rw [h.1]; exact e)]
    exact h.2 i x hx
  · rw [List.getElem?_append_right (by omega)] at hx
    rw [List.getElem?_append_right (by rw [h.1]; omega), h.1]
    have z : i - rs.length = 0 := by
      have := (List.getElem?_eq_some_iff.mp hx).1
      simpa using this
    rw [z] at hx ⊢
    cases hx
    exact ⟨p, rfl, hp⟩
section
variable {P : Program} {w : World} {K : PySem.W.Frag} {mg : Str → Option Value} {base : Heap}
/-! ### _law_forest -/
def spForest (ns : List Int) : Sp := fun vs H Q _ => ∃ (d g c : Addr) (b : Nat) (m : Int), vs = [.ref d, .int m] ∧ Dw ns d g c b H ∧ b ≤ 800000000 ∧ 1 ≤ m ∧ m ≤ 8 ∧
  ∀ (l : Addr) (xs : List V) (rs : List FRow) (H' : Hp), H l = none → l ≠ d → l ≠ g → H' l = some (.lst xs) → RowsAt H' xs rs → Good rs → Dw ns d g c (b + 300) H' → Kp d g H H' → Q (.ref l) H'
abbrev nForest : List Str := ["_law_state", "_law_most", "_law_rows", "_law_name", "_law_parents", "_law_pair"]
theorem scForest : FnScope nForest ["_law_state", "_law_most"] (defScope sForest) := ⟨rfl, rfl, rfl, by decide +kernel, rfl, by decide +kernel, by decide +kernel⟩
theorem ok_forest {f fT fP fW : Addr} {fd fdT fdP fdW : FuncData} (ns : List Int) (F : Fun K "_law_forest" "_law_forest" sForest f fd) (R : Draw P w K mg base ns fT fP fdT fdP)
    (GW : FnOk P w K mg base CX0 4 fW fdW ["_law_state", "_law_size"] (spWords ns)) (bW : Binds K fdW ["_law_state", "_law_size"] []) (kW : PySem.W.keepIn K (.ref fW) = true) (mW : mg "_law_words" = some (.ref fW)) :
    FnOk P w K mg base CX0 5 f fd ["_law_state", "_law_most"] (spForest ns) := by
  refine F.ok scForest (fun vs H Q E h => ?_) (fun cdv A outer s H vs Q E hr h => ?_)
  · obtain ⟨d, g, c, b, m, rfl, _⟩ := h
    rfl
  · obtain ⟨d, g, c, b, m, rfl, D, hb, m1, m8, k⟩ := h
    have hu := hu_of hr
    have nd := scForest.nd
    have hr2 : Room 2 (A.deeper (envOfC "_law_forest" (defScope sForest) s.heap.objs.size f cdv)) := hr.mono (by decide)
    have hr3 : Room 3 (A.deeper (envOfC "_law_forest" (defScope sForest) s.heap.objs.size f cdv)) := hr.mono (by decide)
    refine ⟨_, pss_cons (ps_set (i := 2) nd rfl (.inl rfl) (pe_lst pa_nil))
      (pss_cons (ps_for PassesOwn.never rfl (pi_list (pe_call GW hr rfl mW kW bW .nil pass0 (pa_cons (pv 0) (pa_cons (pe_op op_add pe_int (pe_call R.GT hr2 rfl R.mT R.kT R.bT .nil pass0 (pa_cons (pv 0) (pa_cons (pv 1) pa_nil)))) pa_nil)))) (pg_name (i := 3) nd rfl (.inl rfl))
        (pss_cons (ps_set (i := 4) nd rfl (.inl rfl) (pe_op op_cat (pe_lst (pa_cons pe_non pa_nil)) (pe_lc (own := [("_law_pair", 5)]) (g := gName 5) (tt := tYes) rfl nd (pi_list (pv 2)) (blkOk_by (N := nForest) (sc := defScope sForest) (by decide +kernel))
            (fun _ _ _ _ _ => pg_name (i := 5) nd rfl (.inl rfl)) (fun _ _ _ _ _ => pts_nil) (fun _ _ _ _ _ => pe_ix (r := rIxT K) ix_tup (pv 5) pe_int (fun _ _ => rfl)))))
        (pss_one (ps_expr (pe_bm PySem.F.plainAttrs_list PySem.F.slot_list_append PySem.F.type_list_append mt_append (pv 2) (pa_cons (pe_tup (pa_cons (pv 3) (pa_cons (pe_call R.GP hr3 rfl R.mP R.kP R.bP .nil pass0 (pa_cons (pv 0) (pa_cons (pv 4) pa_nil))) pa_nil))) pa_nil))))))
      (pss_one (ps_ret (pv 2)))), ?_⟩
    refine ⟨Nat.zero_le _, fun l hl => ?_⟩
    have Dl := D.new (o := .lst []) hl
    have hnl : l ≠ d := D.nd hl
    have hgl : l ≠ g := D.ng hl
    have hcl : l ≠ c := fun e => by rw [e, D.cl] at hl; cases hl
    have kl : Kp d g H (upd H l (.lst [])) := Kp.new hl
    have hl1 : (upd H l (.lst [])) l = some (.lst []) := upd_same
    show tSeq _ _ _ _ (upd H l (.lst []))
    generalize upd H l (.lst []) = H1 at Dl kl hl1 ⊢
    refine ⟨_, rfl, _, rfl, _, rfl, d, g, c, _, m, rfl, Dl, by omega, by omega, by omega, fun r H2 r0 r1 D2 k2 => ?_⟩
    refine ⟨1, r, rfl, rfl, d, g, c, _, 1 + r, rfl, D2, by omega, by omega, by omega, fun lw ws H3 lw0 lwd lwg hlw wl wn wok D3 k3 => ?_⟩
    have l3 := k3 _ _ hnl hgl (k2 _ _ hnl hgl hl1)
    have k03 : Kp d g H H3 := (kl.trans k2).trans k3
    refine ⟨lw, rfl, ⟨_, SqL.of hlw⟩, for_it walk_list (fun i σ H' => ∃ (v3 v4 : Option V) (xs : List V) (rs : List FRow), σ = [some (.ref d), some (.int m), some (.ref l), v3, v4, none] ∧ H' l = some (.lst xs) ∧ H' lw = some (.lst (ws.map V.str)) ∧
        RowsAt H' xs rs ∧ fNames rs = ws.take i ∧ GoodF [] rs ∧ Dw ns d g c (b + 1 + 200 + 2 * i) H' ∧ Kp d g H H')
      ⟨none, none, [], [], rfl, l3, hlw, ⟨rfl, fun i r h => by simp at h⟩, rfl, trivial, D3, k03⟩ (fun i σ H' _ ⟨_, _, _, _, _, _, e, _⟩ => SqL.of e) ?_ ?_⟩
    · rintro i y σ H4 H5 hi ⟨v3, v4, xs, rs, rfl, l4, lw4, R4, fn, gf, D4, k4⟩ ⟨rfl, hy⟩
      rw [List.length_map] at hi
      rw [List.getElem?_map, List.getElem?_eq_getElem hi] at hy
      cases hy
      have hrl : rs.length = i := by
        have := congrArg List.length fn
        rw [fNames, List.length_map, List.length_take] at this
        omega
      have hi8 : i ≤ 8 := by omega
      refine ⟨by show 1 ≤ sizeLine; decide, fun a ha => ?_⟩
      have Da := D4.new (o := .lst [.non]) ha
      have nda : a ≠ d := D4.nd ha
      have nga : a ≠ g := D4.ng ha
      have ka : Ext H5 (upd H5 a (.lst [.non])) := Ext.new ha
      have ha1 : (upd H5 a (.lst [.non])) a = some (.lst [.non]) := upd_same
      have l5 := ka _ _ l4
      have R5 := R4.ext ka
      refine ⟨_, rfl, l, rfl, ⟨_, SqL.of l5⟩, fun D' hD' => ?_⟩
      refine lc_it walk_list (fun i' H' => H' D' = some (.lst (((fNames rs).take i').map V.str)) ∧ Ext (upd H5 a (.lst [.non])) H') ⟨upd_same, Ext.new hD'⟩ (fun i' H' _ ⟨_, e⟩ => SqL.of (e _ _ l5)) ?_ ?_
      · rintro i' y H6 H7 hi' ⟨d6, k6⟩ ⟨rfl, hy⟩
        have hir : i' < rs.length := by have := R4.1; omega
        obtain ⟨p, h1, h2⟩ := R5.2 i' _ (List.getElem?_eq_getElem hir)
        rw [h1] at hy
        cases hy
        refine ⟨rfl, yes_of ?_⟩
        refine ⟨_, rfl, p, _, _, _, rfl, rfl, SqT.of (k6 _ _ h2), (show atI [V.str rs[i'].1, parV rs[i'].2] ((0 : Nat) : Int) = some (V.str rs[i'].1) from atI_nat rfl), _, d6, ?_, ?_, fun b' o hb' => ?_⟩
        · rw [List.length_map, List.length_take, fNames, List.length_map]
          exact small1000 (by omega)
        · rw [upd_same, List.take_add_one, List.map_append]
          have : (fNames rs)[i']? = some rs[i'].1 := by rw [fNames, List.getElem?_map, List.getElem?_eq_getElem hir]; rfl
          rw [this]
          rfl
        · rw [upd_ne (ne_of_none hb' hD')]
          exact k6 _ _ hb'
      rintro H6 ⟨d6, k6⟩
      have e0 : (fNames rs).take xs.length = fNames rs := by
        rw [R4.1]
        exact List.take_of_length_le (by rw [fNames, List.length_map]; exact Nat.le_refl _)
      rw [e0] at d6
      refine ⟨a, D', _, _, rfl, rfl, k6 _ _ ha1, d6, ?_, fun q hq => ?_⟩
      · rw [List.length_map, fNames, List.length_map, sizeLine_eq]
        show 1 + _ ≤ _
        omega
      have D6 : Dw ns d g c (b + 1 + 200 + 2 * i) H6 := Da.keep k6
      have k56 : Ext H5 H6 := ka.trans k6
      have Dq := D6.new (o := .lst ([.non] ++ (fNames rs).map V.str)) hq
      have hq1 : (upd H6 q (.lst ([.non] ++ (fNames rs).map V.str))) q = some (.lst ([.non] ++ (fNames rs).map V.str)) := upd_same
      have kq : Ext H5 (upd H6 q (.lst ([.non] ++ (fNames rs).map V.str))) := k56.trans (Ext.new hq)
      have ndq : q ≠ d := D6.nd hq
      have ngq : q ≠ g := D6.ng hq
      show tSeq _ _ _ _ (upd H6 q (.lst ([.non] ++ (fNames rs).map V.str)))
      generalize upd H6 q (.lst ([.non] ++ (fNames rs).map V.str)) = H7 at Dq hq1 kq ⊢
      refine ⟨_, rfl, .inl ⟨rfl, _, SqL.of (kq _ _ l4)⟩, _, rfl, _, rfl, _, rfl, d, g, c, _, Dq, by omega, .inl ⟨q, _, rfl, hq1, ndq, ngq, ?_, ?_, fun x H8 hx D8 k8 => ?_⟩⟩
      · show 0 < _ + 1
        omega
      · rw [List.length_append, List.length_map, fNames, List.length_map]
        show 1 + _ ≤ _
        omega
      obtain ⟨pq, rfl, hpq⟩ : ∃ pq : Option Str, x = parV pq ∧ ∀ mm, pq = some mm → mm ∈ fNames rs := by
        rcases List.mem_append.mp hx with hx | hx
        · rw [List.mem_singleton.mp hx]
          exact ⟨none, rfl, fun mm e => by cases e⟩
        · obtain ⟨mm, hm, rfl⟩ := List.mem_map.mp hx
          exact ⟨some mm, rfl, fun m' e => by cases e; exact hm⟩
      refine ⟨by show 2 ≤ sizeLine; decide, fun t ht => ?_⟩
      have R8 : RowsAt H8 xs rs := (R4.ext kq).kp Dq k8
      have R9 := RowsAt.snoc (r := (ws[i], pq)) (R8.ext (Ext.new (o := .tup [.str ws[i], parV pq]) ht)) upd_same
      have l8 := k8 _ _ hnl hgl (kq _ _ l4)
      have l9 := new_same (o := .tup [.str ws[i], parV pq]) ht _ _ l8
      have lw8 := k8 _ _ lwd lwg (kq _ _ lw4)
      have lw9 := new_same (o := .tup [.str ws[i], parV pq]) ht _ _ lw8
      have D9 := D8.new (o := .tup [.str ws[i], parV pq]) ht
      have nlw : lw ≠ l := fun e => by rw [e] at lw0; rw [k2 _ _ hnl hgl hl1] at lw0; cases lw0
      have k9 : Kp d g H (upd H8 t (.tup [.str ws[i], parV pq])) := ((k4.trans (Kp.of kq)).trans k8).trans (Kp.new ht)
      generalize upd H8 t (.tup [.str ws[i], parV pq]) = H9 at R9 l9 lw9 D9 k9 ⊢
      have xl : xs.length = rs.length := R4.1
      refine ⟨l, _, _, rfl, rfl, l9, small1000 (by omega), ?_⟩
      refine ⟨_, _, xs ++ [.ref t], rs ++ [(ws[i], pq)], rfl, upd_same, by rw [upd_ne nlw]; exact lw9, ⟨R9.1, fun j r' hj => ?_⟩, ?_, good_snoc gf ?_, (D9.put l9 hnl hgl hcl).mono (by omega), fun a' o n1 n2 ha' => ?_⟩
      · obtain ⟨p, b1, b2⟩ := R9.2 j r' hj
        refine ⟨p, b1, ?_⟩
        rw [upd_ne (ne_of b2 l9 (by intro z; cases z))]
        exact b2
      · show fNames (rs ++ [(ws[i], pq)]) = _
        rw [fNames, List.map_append, List.take_add_one, List.getElem?_eq_getElem hi]
        show fNames rs ++ [ws[i]] = _
        rw [fn]
        rfl
      · rw [List.nil_append, fn]
        refine ⟨wok _ (List.getElem_mem hi), fun hm => ?_, fun mm e => by rw [← fn]; exact hpq mm e⟩
        have hm : ws[i] ∈ ws.take i := hm
        obtain ⟨j, hj⟩ := List.mem_iff_getElem?.mp hm
        have hji : j < i := by
          have := (List.getElem?_eq_some_iff.mp hj).1
          rw [List.length_take] at this
          omega
        rw [List.getElem?_take_of_lt hji] at hj
        have hjl : j < ws.length := by omega
        rw [List.getElem?_eq_getElem hjl] at hj
        exact (List.pairwise_iff_getElem.mp wn) j i hjl hi hji (Option.some.inj hj)
      · rw [upd_ne (ne_of_none ha' hl)]
        exact k9 _ _ n1 n2 ha'
    · rintro σ H4 ⟨v3, v4, xs, rs, rfl, l4, lw4, R4, fn, gf, D4, k4⟩
      refine ⟨_, rfl, ?_⟩
      have hrl : rs.length = ws.length := by
        have := congrArg List.length fn
        rw [fNames, List.length_map, List.length_take, List.length_map] at this
        omega
      rw [List.length_map] at D4
      exact k l xs rs H4 hl hnl hgl l4 R4 ⟨by omega, by omega, gf⟩ (D4.mono (by omega)) k4
end
end Lw

set_option Elab.async false
set_option linter.all false
set_option maxRecDepth 100000
set_option maxHeartbeats 4000000
/-! readings that ask more than they need; a list or a tuple walked; dicts of numbers by names -/
namespace Gu
open L2 hiding Ext
open PySem PySem.Spec PyProof.Rows Gn Gk
theorem wT {X : Cx} {e : Expr} {t t' : TT} (h : PT X e t) (w : ∀ σ H k, t' σ H k → t σ H k) : PT X e t' :=
  ⟨fun pins s σ H Q I z => h.run pins s σ H Q I (w _ _ _ z)⟩
theorem wE {X : Cx} {e : Expr} {t t' : TE} (h : PE X e t) (w : ∀ σ H k, t' σ H k → t σ H k) : PE X e t' :=
  ⟨fun pins s σ H Q I z => h.run pins s σ H Q I (w _ _ _ z)⟩
theorem wS {X : Cx} {e : Stmt} {t t' : TS} (h : PS X e t) (w : ∀ D σ H, t' D σ H → t D σ H) : PS X e t' :=
  ⟨fun pins s σ H D I z => h.run pins s σ H D I (w _ _ _ z)⟩
theorem wI {X : Cx} {tg e : Expr} {t t' : TI} (h : PI X tg e t) (w : ∀ σ H R, t' σ H R → t σ H R) : PI X tg e t' :=
  ⟨fun pins s σ H R I z => h.run pins s σ H R I (w _ _ _ z)⟩
theorem iOr {X : Cx} {tg e : Expr} {t t' : TI} (h : PI X tg e t) (h' : PI X tg e t') : PI X tg e (fun σ H R => t σ H R ∨ t' σ H R) :=
  ⟨fun pins s σ H R I z => z.elim (h.run pins s σ H R I) (h'.run pins s σ H R I)⟩
/-- a list or a tuple -/
def ClAt (H : Hp) (a : Addr) (xs : List V) : Prop := H a = some (.lst xs) ∨ H a = some (.tup xs)
theorem ClAt.ext {H H' : Hp} {a : Addr} {xs : List V} (h : ClAt H a xs) (k : Ext H H') : ClAt H' a xs := h.elim (fun e => .inl (k _ _ e)) (fun e => .inr (k _ _ e))
theorem ClAt.sq {K : PySem.W.Frag} {H : Hp} {a : Addr} {xs : List V} (h : ClAt H a xs) : SqL K H a xs ∨ SqT K H a xs := h.elim (fun e => .inl (SqL.of e)) (fun e => .inr (SqT.of e))
theorem wW {J : It} {n : Nat} {G G' : Hp → Prop} {Y : Nat → Hp → V → Hp → Prop} (h : Walk J n G Y) (k : ∀ H, G' H → G H) : Walk J n G' Y :=
  ⟨fun i H hi g => h.goes i H hi (k H g), fun H g => h.stops H (k H g), fun i H x H' hi g y => h.yields i H x H' hi (k H g) y⟩
/-- what a walk over it gives, wherever it stands as it did -/
def iSeqV (i : Nat) : TI := fun σ H R => ∃ (a : Addr) (xs : List V), σ[i]? = some (some (.ref a)) ∧ ClAt H a xs ∧ ∀ J, Walk J xs.length (fun H' => H' a = H a) (YAt xs) → R J H
theorem pi_seqV {X : Cx} {tg e : Expr} {i : Nat} (h : PE X e (tVar i)) : PI X tg e (iSeqV i) := by
  refine wI (iOr (pi_list h) (pi_tup h)) fun σ H R ⟨a, xs, hi, hc, k⟩ => ?_
  rcases hc with hc | hc
  · exact .inl ⟨_, hi, a, rfl, ⟨_, SqL.of hc⟩, k _ (wW walk_list fun H' e => SqL.of (e.trans hc))⟩
  · exact .inr ⟨_, hi, a, rfl, ⟨_, SqT.of hc⟩, k _ (wW walk_tup fun H' e => SqT.of (e.trans hc))⟩
/-- a dict of numbers, by the names in their order -/
def dN (ns : List Str) (t : Str → Int) : List (Key × V) := ns.map fun n => ((Sum.inr n : Key), V.int (t n))
def at_ (t : Str → Int) (n : Str) (z : Int) : Str → Int := fun m => if m = n then z else t m
theorem at_same {t : Str → Int} {n : Str} {z : Int} : at_ t n z n = z := if_pos rfl
theorem at_ne {t : Str → Int} {n m : Str} {z : Int} (h : m ≠ n) : at_ t n z m = t m := if_neg h
theorem dN_get {t : Str → Int} {n : Str} : ∀ {ns : List Str}, n ∈ ns → valV (dN ns t) (Sum.inr n : Key) = some (.int (t n))
  | [], h => by cases h
  | m :: r, h => by
    show valV (((Sum.inr m : Key), V.int (t m)) :: dN r t) _ = _
    by_cases e : m = n
    · subst e; exact valV_pos rfl
    · rw [valV_neg (fun z => e (Sum.inr.inj z))]
      exact dN_get ((List.mem_cons.mp h).resolve_left fun z => e z.symm)
theorem dN_put {t : Str → Int} {n : Str} {z : Int} {ns : List Str} (h : n ∈ ns) : putK (dN ns t) (Sum.inr n : Key) (.int z) = dN ns (at_ t n z) := by
  have e : ((dN ns t).any fun kv => decide (kv.1 = (Sum.inr n : Key))) = true := by
    unfold dN
    rw [List.any_map, List.any_eq_true]
    exact ⟨n, h, by simp⟩
  unfold putK
  rw [if_pos e]
  unfold dN
  rw [List.map_map]
  refine List.map_congr_left fun m hm => ?_
  show (if (Sum.inr m : Key) = Sum.inr n then ((Sum.inr m : Key), V.int z) else ((Sum.inr m : Key), V.int (t m))) = _
  by_cases em : m = n
  · subst em
    rw [if_pos rfl, at_same]
  · rw [if_neg (fun z => em (Sum.inr.inj z)), at_ne em]
theorem dN_len {ns : List Str} {t : Str → Int} : (dN ns t).length = ns.length := by unfold dN; rw [List.length_map]
/-- a dict of numbers, by some names -/
def dB (bs : List (Str × Int)) : List (Key × V) := bs.map fun p => ((Sum.inr p.1 : Key), V.int p.2)
theorem dB_dN (ns : List Str) (t : Str → Int) : dB (ns.map fun n => (n, t n)) = dN ns t := by unfold dB dN; rw [List.map_map]; rfl
theorem dB_get : ∀ {bs : List (Str × Int)} {p : Str × Int}, (bs.map (·.1)).Nodup → p ∈ bs → valV (dB bs) (Sum.inr p.1 : Key) = some (.int p.2)
  | [], _, _, h => by cases h
  | q :: r, p, hn, h => by
    show valV (((Sum.inr q.1 : Key), V.int q.2) :: dB r) _ = _
    obtain ⟨n1, n2⟩ := List.nodup_cons.mp (show (q.1 :: r.map (·.1)).Nodup from hn)
    rcases List.mem_cons.mp h with rfl | h
    · exact valV_pos rfl
    · have ne : ¬ q.1 = p.1 := fun e => n1 (by rw [e]; exact List.mem_map.mpr ⟨p, h, rfl⟩)
      rw [valV_neg (fun z => ne (Sum.inr.inj z))]
      exact dB_get n2 h
theorem dB_none {n : Str} : ∀ {bs : List (Str × Int)}, n ∉ bs.map (·.1) → valV (dB bs) (Sum.inr n : Key) = none
  | [], _ => rfl
  | q :: r, h => by
    show valV (((Sum.inr q.1 : Key), V.int q.2) :: dB r) _ = _
    have ne : ¬ q.1 = n := fun e => h (by rw [← e]; exact List.mem_cons_self ..)
    rw [valV_neg (fun z => ne (Sum.inr.inj z))]
    exact dB_none fun m => h (List.mem_cons_of_mem _ m)
/-- pairs of a name and a number, as tuples in the heap -/
def CsAt (H : Hp) (vs : List V) (cs : List (Str × Int)) : Prop := vs.length = cs.length ∧ ∀ (i : Nat) (c : Str × Int), cs[i]? = some c → ∃ p, vs[i]? = some (V.ref p) ∧ H p = some (.tup [.str c.1, .int c.2])
theorem CsAt.ext {H H' : Hp} {vs : List V} {cs : List (Str × Int)} (h : CsAt H vs cs) (k : Ext H H') : CsAt H' vs cs :=
  ⟨h.1, fun i c hc => by obtain ⟨p, a, b⟩ := h.2 i c hc; exact ⟨p, a, k _ _ b⟩⟩
theorem CsAt.get {H : Hp} {vs : List V} {cs : List (Str × Int)} (h : CsAt H vs cs) {i : Nat} {x : V} (hx : vs[i]? = some x) : ∃ (c : Str × Int) (p : Addr), cs[i]? = some c ∧ x = .ref p ∧ H p = some (.tup [.str c.1, .int c.2]) := by
  have hi : i < cs.length := by rw [← h.1]; exact (List.getElem?_eq_some_iff.mp hx).1
  obtain ⟨p, a, b⟩ := h.2 i _ (List.getElem?_eq_getElem hi)
  rw [hx] at a
  cases a
  exact ⟨_, p, List.getElem?_eq_getElem hi, rfl, b⟩
theorem CsAt.nil {H : Hp} : CsAt H [] [] := ⟨rfl, fun i c h => by cases h⟩
theorem CsAt.snoc {H : Hp} {vs : List V} {cs : List (Str × Int)} {p : Addr} {c : Str × Int} (h : CsAt H vs cs) (hp : H p = some (.tup [.str c.1, .int c.2])) : CsAt H (vs ++ [V.ref p]) (cs ++ [c]) := by
  refine ⟨by rw [List.length_append, List.length_append, h.1]; rfl, fun i c' hc => ?_⟩
  rcases Nat.lt_or_ge i cs.length with hi | hi
  · rw [List.getElem?_append_left hi] at hc
    rw [List.getElem?_append_left (by rw [h.1]; exact hi)]
    exact h.2 i c' hc
  · rw [List.getElem?_append_right hi] at hc
    rw [List.getElem?_append_right (by rw [h.1]; exact hi), h.1]
    cases e : i - cs.length with
    | zero => rw [e] at hc; cases hc; exact ⟨p, rfl, hp⟩
    | succ k => rw [e] at hc; cases hc
theorem CsAt.kp {ns : List Int} {d g c : Addr} {b : Nat} {H H' : Hp} {vs : List V} {cs : List (Str × Int)} (h : CsAt H vs cs) (D : Dw ns d g c b H) (k : Kp d g H H') : CsAt H' vs cs := by
  obtain ⟨⟨gs, l, t, hd, hg, _, _⟩, _⟩ := D
  exact ⟨h.1, fun i r hr => by
    obtain ⟨p, a, e⟩ := h.2 i r hr
    exact ⟨p, a, k _ _ (ne_of e hd (by intro z; cases z)) (ne_of e hg (by intro z; cases z)) e⟩⟩
/-- a dict that is walked is locked meanwhile -/
theorem lock_ext {H H' : Hp} {d : Addr} {u : HO} {od : Obj} (hd : H d = some u) (k : Ext (upd H d (.frz od u)) H') : Ext H (upd H' d u) := fun a o e => by
  by_cases n : a = d
  · subst n
    rw [upd_same, ← hd, e]
  · rw [upd_ne n]
    exact k _ _ (by rw [upd_ne n]; exact e)
theorem lock_in {H : Hp} {d a : Addr} {u o : HO} {od : Obj} (n : a ≠ d) (e : H a = some o) : upd H d (.frz od u) a = some o := by rw [upd_ne n]; exact e
theorem keys_none : ∀ {kvs : List (Key × V)} {k : Key}, k ∉ kvs.map (·.1) → valV kvs k = none
  | [], _, _ => rfl
  | p :: r, k, h => by
    have h1 : ¬ p.1 = k := fun e => h (by rw [← e]; exact List.mem_cons_self ..)
    rw [valV_neg h1]
    exact keys_none fun m => h (List.mem_cons_of_mem _ m)
theorem merge_app : ∀ (more acc : List (Key × V)), ((acc ++ more).map (·.1)).Nodup → mergeK acc more = acc ++ more
  | [], acc, _ => by rw [List.append_nil]; rfl
  | p :: r, acc, h => by
    have hn : p.1 ∉ acc.map (·.1) := by
      intro m
      rw [List.map_append] at h
      exact (List.nodup_append.mp h).2.2 _ m p.1 (List.mem_cons_self ..) rfl
    show mergeK (putK acc p.1 p.2) r = _
    rw [putK_new _ (keys_none hn), merge_app r (acc ++ [(p.1, p.2)]) (by rw [List.append_assoc]; exact h), List.append_assoc]
    rfl
theorem merge_self {kvs : List (Key × V)} (h : (kvs.map (·.1)).Nodup) : mergeK [] kvs = kvs := merge_app kvs [] h
theorem nodup_inr {α : Type} (f : α → Str) : ∀ {l : List α}, (l.map f).Nodup → (l.map fun x => (Sum.inr (f x) : Key)).Nodup
  | [], _ => List.nodup_nil
  | a :: r, h => by
    obtain ⟨h1, h2⟩ := List.nodup_cons.mp (show (f a :: r.map f).Nodup from h)
    refine List.nodup_cons.mpr ⟨fun m => ?_, nodup_inr f h2⟩
    obtain ⟨b, hb, e⟩ := List.mem_map.mp m
    exact h1 (List.mem_map.mpr ⟨b, hb, Sum.inr.inj e⟩)
theorem ix_pos {n : Nat} {r : Int} (h0 : 0 ≤ r) (h1 : r < n) : seqIndex? r n = some r.toNat := (ixN_seq (by unfold ixN; rw [if_pos h0, if_pos h1])).1
end Gu

set_option Elab.async false
set_option linter.all false
set_option maxRecDepth 100000
set_option maxHeartbeats 4000000
/-! zip of two lists or of two tuples at two slots -/
namespace Gv
open L2 hiding Ext
open PySem PySem.Spec PyProof.Rows Gn Gk Gu
theorem walk_zipT {K : PySem.W.Frag} {a b : Addr} {xs ys : List V} {n : Nat} (h : n = min xs.length ys.length) : Walk (RZ.ItzT K a b) n (fun H => SqT K H a xs ∧ SqT K H b ys) (YPair (fun i => xs[i]?) fun i => ys[i]?) := by
  refine ⟨fun i H hi g => ?_, fun H g => ?_, fun i H x H' hi g y => ?_⟩
  · exact ⟨xs, ys, _, _, g.1, g.2, List.getElem?_eq_getElem (by omega), List.getElem?_eq_getElem (by omega)⟩
  · exact ⟨xs, ys, g.1, g.2, by omega⟩
  · obtain ⟨T, x1, x2, e, hT, e2, k1, k2⟩ := y
    exact ⟨T, x1, x2, e, hT, e2, k1 xs g.1, k2 ys g.2⟩
def SameK (H : Hp) (a b : Addr) (xs ys : List V) : Prop := (H a = some (.lst xs) ∧ H b = some (.lst ys)) ∨ (H a = some (.tup xs) ∧ H b = some (.tup ys))
theorem SameK.ext {H H' : Hp} {a b : Addr} {xs ys : List V} (h : SameK H a b xs ys) (k : Ext H H') : SameK H' a b xs ys := h.elim (fun e => .inl ⟨k _ _ e.1, k _ _ e.2⟩) (fun e => .inr ⟨k _ _ e.1, k _ _ e.2⟩)
theorem SameK.c1 {H : Hp} {a b : Addr} {xs ys : List V} (h : SameK H a b xs ys) : ClAt H a xs := h.elim (fun e => .inl e.1) (fun e => .inr e.1)
theorem SameK.c2 {H : Hp} {a b : Addr} {xs ys : List V} (h : SameK H a b xs ys) : ClAt H b ys := h.elim (fun e => .inl e.2) (fun e => .inr e.2)
def iZipV (i j : Nat) : TI := fun σ H R => ∃ (a b : Addr) (xs ys : List V), σ[i]? = some (some (.ref a)) ∧ σ[j]? = some (some (.ref b)) ∧ SameK H a b xs ys ∧ ∀ J, Walk J (min xs.length ys.length) (fun H' => H' a = H a ∧ H' b = H b) (YPair (fun i => xs[i]?) fun i => ys[i]?) → R J H
theorem iZip_ok {K : PySem.W.Frag} {i j : Nat} : ∀ (σ : L2.St) (H : Hp) (R : It → Hp → Prop), iZipV i j σ H R → RZ.iZipA K (tCons (tVar i) (tCons (tVar j) tNil)) σ H R := by
  rintro σ H R ⟨a, b, xs, ys, h1, h2, hc, k⟩
  rcases hc with ⟨h3, h4⟩ | ⟨h3, h4⟩
  · exact ⟨_, h1, _, h2, a, b, xs, ys, rfl, .inl ⟨SqL.of h3, SqL.of h4, k _ (wW (walk_zip rfl) fun H' e => ⟨SqL.of (e.1.trans h3), SqL.of (e.2.trans h4)⟩)⟩⟩
  · exact ⟨_, h1, _, h2, a, b, xs, ys, rfl, .inr ⟨SqT.of h3, SqT.of h4, k _ (wW (walk_zipT rfl) fun H' e => ⟨SqT.of (e.1.trans h3), SqT.of (e.2.trans h4)⟩)⟩⟩
end Gv

set_option Elab.async false
set_option linter.all false
set_option maxRecDepth 100000
set_option maxHeartbeats 4000000
/-! zip of two lists, of two tuples, or of a tuple and a list -/
namespace Gm
open L2 hiding Ext
open PySem PySem.Spec PyProof.Rows Gn Gk Gu
def ItM (K : PySem.W.Frag) (a b : Addr) : It where
  go := fun i H => ∃ xs ys x y, SqT K H a xs ∧ SqL K H b ys ∧ xs[i]? = some x ∧ ys[i]? = some y
  yld := fun i H v H' => ∃ T x y, v = V.ref T ∧ H T = none ∧ H' = upd H T (.tup [x, y]) ∧ (∀ xs, SqT K H a xs → xs[i]? = some x) ∧ ∀ ys, SqL K H b ys → ys[i]? = some y
  stop := fun i H => ∃ xs ys, SqT K H a xs ∧ SqL K H b ys ∧ i = min xs.length ys.length
def tnM (a b z TI TO i1 i2 : Addr) (i : Nat) (h : Heap) : Prop :=
  IsZip h z TI TO Value.none ∧ IsTupOf2 h TI (Value.ref i1) (Value.ref i2) ∧ (∃ x y, IsTupOf2 h TO x y) ∧ h.IsTupleIter i1 a i ∧ h.IsListIter i2 b i
theorem lt_of_get {h : Heap} {a : Addr} {o : Obj} (e : h.get? a = some o) : a < h.objs.size := Heap.lt_size e
theorem turn_zipM {P : Program} {w : World} {K : PySem.W.Frag} {elts : List Expr} {kk : Nat} {tpos : Pos} {a b z TI TO i1 i2 : Addr} (h : ZipApart z TI TO i1 i2 a b) :
    Turn P w K (Expr.Tuple elts kk tpos) (ItM K a b) [z, TI, TO, i1, i2] z (tnM a b z TI TO i1 i2) := by
  have sep : ZipSep2 z TI TO i1 i2 [i1, a] [i2, b] := by
    refine ⟨h.TIz, h.TOz, h.TITO, h.TIi1, by simp, ?_, ?_, h.TIi2, by simp, ?_, ?_, ?_, ?_⟩ <;>
      simp only [List.mem_cons, List.not_mem_nil, or_false, not_or]
    · exact ⟨h.i1z.symm, h.l1z.symm⟩
    · exact ⟨h.TOi1, h.l1TO.symm⟩
    · exact ⟨h.i2z.symm, h.l2z.symm⟩
    · exact ⟨h.TOi2, h.l2TO.symm⟩
    · exact ⟨h.i12, h.l2i1.symm⟩
    · exact ⟨h.i12.symm, h.l1i2.symm⟩
  refine ⟨by simp, ?_, ?_, ?_, ?_, ?_⟩
  · rintro i hp ⟨h1, h2, ⟨x, y, h3⟩, ⟨o4, h4, _, d4⟩, ⟨o5, h5, _, d5⟩⟩ b' hb
    simp only [List.mem_cons, List.not_mem_nil, or_false] at hb
    rcases hb with rfl | rfl | rfl | rfl | rfl
    · exact ⟨_, h1, fun v e => by cases e⟩
    · exact ⟨_, h2, fun v e => by cases e⟩
    · exact ⟨_, h3, fun v e => by cases e⟩
    · exact ⟨_, h4, fun v e => by rw [d4] at e; cases e⟩
    · exact ⟨_, h5, fun v e => by rw [d5] at e; cases e⟩
  · rintro i hp hp' ⟨h1, h2, ⟨x, y, h3⟩, ⟨o4, h4, c4, d4⟩, ⟨o5, h5, c5, d5⟩⟩ k
    exact ⟨k _ (by simp) _ h1, k _ (by simp) _ h2, ⟨x, y, k _ (by simp) _ h3⟩, ⟨o4, k _ (by simp) _ h4, c4, d4⟩, ⟨o5, k _ (by simp) _ h5, c5, d5⟩⟩
  · rintro X rfl rfl rfl hc i pins s σ H E I fp ⟨t1, t2, t3, t4, t5⟩ ⟨xs, ys, x, y, hx, hy, ex, ey⟩
    obtain ⟨its1, v1, p1, _⟩ := I.tuple hx
    obtain ⟨its2, v2, p2, _⟩ := I.list hy
    have hd : X.A.in1.handled = none := I.ok.hd hc
    have G := GoesN.zip2 (elts := elts) (x1 := kk) (pos := tpos) sep (Draws.tuple (prog := X.prog) (w := X.w) hd i1 a h.l1i1 its1.toArray) (Draws.list (prog := X.prog) (w := X.w) hd i2 b h.l2i2 its2.toArray)
    have hi1 := (List.getElem?_eq_some_iff.mp ex).1
    have hi2 := (List.getElem?_eq_some_iff.mp ey).1
    have l1 := v1.length
    have l2 := v2.length
    refine G.goes i s (fun u s2 => ∃ x H', L2.Inv X pins σ H' s2 ∧ L2.RelV x u ∧ (ItM X.K a b).yld i H x H' ∧ tnM a b z TI TO i1 i2 (i + 1) s2.heap ∧ ∀ b ∈ [z, TI, TO, i1, i2], H' b = none) E (by simp; omega) ⟨t1, t2, t3, ⟨t4, p1⟩, ⟨t5, p2.isList⟩⟩ ?_
    rintro v h' tk ⟨T, x', y', rfl, hT, e1, e2, tup⟩ ⟨s1, s2, s3, ⟨s4, _⟩, ⟨s5, _⟩⟩ keep _
    obtain ⟨u1, g1, r1⟩ := v1.get ex
    obtain ⟨u2, g2, r2⟩ := v2.get ey
    have e1 : its1[i]? = some x' := by simpa using e1
    have e2 : its2[i]? = some y' := by simpa using e2
    rw [g1] at e1
    rw [g2] at e2
    cases e1
    cases e2
    have fr := I.hok.fresh hT
    refine ⟨V.ref T, upd H T (.tup [x, y]), ?_, rfl, ⟨T, x, y, rfl, fr, rfl, fun xs' hx' => ?_, fun ys' hy' => ?_⟩, ⟨s1, s2, s3, s4, s5⟩, fun b' hb' => ?_⟩
    · refine I.turnedNew keep (fun b' hb' => fp b' ?_) hT ?_
      · simp only [List.mem_cons, List.not_mem_nil, or_false] at hb' ⊢
        rcases hb' with rfl | rfl | rfl | rfl <;> simp
      · exact ⟨by show 2 ≤ sizeLine; decide, _, .cons r1 (.cons r2 .nil), tup⟩
    · rw [I.tuple_inj hx' hx]; exact ex
    · rw [I.list_inj hy' hy]; exact ey
    · have : b' < s.heap.objs.size := by
        obtain ⟨x, y, t3⟩ := t3
        obtain ⟨o4, t4, _, _⟩ := t4
        obtain ⟨o5, t5, _, _⟩ := t5
        simp only [List.mem_cons, List.not_mem_nil, or_false] at hb'
        rcases hb' with rfl | rfl | rfl | rfl | rfl
        · exact lt_of_get t1
        · exact lt_of_get t2
        · exact lt_of_get t3
        · exact lt_of_get t4
        · exact lt_of_get t5
      rw [upd_ne (Nat.ne_of_lt (Nat.lt_of_lt_of_le this hT))]
      exact (fp b' hb').1
  · rintro X rfl rfl rfl hc i pins s σ H E I fp ⟨t1, t2, t3, t4, t5⟩ ⟨xs, ys, hx, hy, rfl⟩
    obtain ⟨its1, v1, p1, _⟩ := I.tuple hx
    obtain ⟨its2, v2, p2, _⟩ := I.list hy
    have hd : X.A.in1.handled = none := I.ok.hd hc
    have G := GoesN.zip2 (elts := elts) (x1 := kk) (pos := tpos) sep (Draws.tuple (prog := X.prog) (w := X.w) hd i1 a h.l1i1 its1.toArray) (Draws.list (prog := X.prog) (w := X.w) hd i2 b h.l2i2 its2.toArray)
    have l1 := v1.length
    have l2 := v2.length
    have en : min its1.toArray.size its2.toArray.size = min xs.length ys.length := by simp; omega
    rw [en] at G
    refine G.stops s (fun s1 => L2.Inv X pins σ H s1) E ⟨t1, t2, t3, ⟨t4, p1⟩, ⟨t5, p2.isList⟩⟩ fun h' tk keep _ => ?_
    exact I.turnedL keep fun b' hb' => fp b' (by
      simp only [List.mem_cons, List.not_mem_nil, or_false] at hb' ⊢
      rcases hb' with rfl | rfl | rfl | rfl <;> simp)
  · rintro A i s Q E ⟨t1, _⟩ q
    exact wpAny_pyIter_zip t1 q
/-- two lists, two tuples, or a tuple and a list -/
def iZipM (K : PySem.W.Frag) (ta : TA) : TI := fun σ H R => ta σ H fun vs H1 => ∃ a b xs ys, vs = [V.ref a, V.ref b] ∧
  ((SqL K H1 a xs ∧ SqL K H1 b ys ∧ R (Itz K a b) H1) ∨ (SqT K H1 a xs ∧ SqT K H1 b ys ∧ R (RZ.ItzT K a b) H1) ∨ (SqT K H1 a xs ∧ SqL K H1 b ys ∧ R (ItM K a b) H1))
theorem fp5 {X : Cx} {pins : List (Addr × Obj)} {σ : L2.St} {H : Hp} {s : Shared} (I : L2.Inv X pins σ H s) : ∀ b ∈ [s.heap.objs.size + 4, s.heap.objs.size + 2, s.heap.objs.size + 3, s.heap.objs.size, s.heap.objs.size + 1], FpOk X pins H b := fun b hb => by
  simp only [List.mem_cons, List.not_mem_nil, or_false] at hb
  have h : s.heap.objs.size ≤ b := by rcases hb with rfl | rfl | rfl | rfl | rfl <;> first | exact Nat.le_add_right _ _ | exact Nat.le_refl _
  exact I.fpOk h (I.hok.fresh h)
theorem pi_zipM {X : Cx} {e e2 : Expr} {ta : TA} {p pos tpos : Pos} {elts : List Expr} {kk : Nat} (hg : Gl X "zip") (hm : X.mg "zip" = none) (ha : PA X [e, e2] ta)
    (hs : starEach [e, e2] X.env = (false, eval e X.env) :: starEach [e2] X.env := by rfl) (hpl : ((backTo pos (starEach [e2] X.env)).any fun x => x.1) = false := by rfl) :
    PI X (Expr.Tuple elts kk tpos) ((Expr.Name "zip" p).Call [e, e2] [] pos) (iZipM X.K ta) := by
  refine ⟨fun pins s σ H R I h => Call_ (ld_blt I hg hm boot_zip (PyProof.Rows.callWith_type1 (thn (ha.run pos pins s σ H _ I h) ?_) hs hpl))⟩
  rintro us s1 ⟨vs, H1, I1, r1, a, b, xs, ys, rfl, q1⟩
  cases r1 with
  | cons r1 rr => cases rr with
    | cons r2 rr =>
      cases rr
      cases r1
      cases r2
      rcases q1 with ⟨hx, hy, hR⟩ | ⟨hx, hy, hR⟩ | ⟨hx, hy, hR⟩
      · obtain ⟨its1, v1, p1, _⟩ := I1.list hx
        obtain ⟨its2, v2, p2, _⟩ := I1.list hy
        refine zip_begins2 (begins_list a its1.toArray) (begins_list b its2.toArray) p1.isList p2.isList fun h' z1 z2 z3 z4 z5 z6 z7 => wpAny_pyIter_zip z1 ?_
        exact ⟨_, _, _, _, H1, rfl, I1.kept z7, turn_zip (PySem.W.ktu_apart _ a b p1.lt p2.lt), ⟨z1, z2, ⟨_, _, z3⟩, ⟨_, z4, rfl, rfl⟩, ⟨_, z5, rfl, rfl⟩⟩, fp5 I1, hR⟩
      · obtain ⟨its1, v1, p1, _⟩ := I1.tuple hx
        obtain ⟨its2, v2, p2, _⟩ := I1.tuple hy
        refine zip_begins2 (begins_tuple a its1.toArray) (begins_tuple b its2.toArray) p1 p2 fun h' z1 z2 z3 z4 z5 z6 z7 => wpAny_pyIter_zip z1 ?_
        obtain ⟨o1, g1, _⟩ := p1
        obtain ⟨o2, g2, _⟩ := p2
        exact ⟨_, _, _, _, H1, rfl, I1.kept z7, RZ.turn_zipT (PySem.W.ktu_apart _ a b (lt_of_get g1) (lt_of_get g2)), ⟨z1, z2, ⟨_, _, z3⟩, ⟨_, z4, rfl, rfl⟩, ⟨_, z5, rfl, rfl⟩⟩, fp5 I1, hR⟩
      · obtain ⟨its1, v1, p1, _⟩ := I1.tuple hx
        obtain ⟨its2, v2, p2, _⟩ := I1.list hy
        refine zip_begins2 (begins_tuple a its1.toArray) (begins_list b its2.toArray) p1 p2.isList fun h' z1 z2 z3 z4 z5 z6 z7 => wpAny_pyIter_zip z1 ?_
        obtain ⟨o1, g1, _⟩ := p1
        exact ⟨_, _, _, _, H1, rfl, I1.kept z7, turn_zipM (PySem.W.ktu_apart _ a b (lt_of_get g1) p2.lt), ⟨z1, z2, ⟨_, _, z3⟩, ⟨_, z4, rfl, rfl⟩, ⟨_, z5, rfl, rfl⟩⟩, fp5 I1, hR⟩
theorem walk_zipM {K : PySem.W.Frag} {a b : Addr} {xs ys : List V} {n : Nat} (h : n = min xs.length ys.length) : Walk (ItM K a b) n (fun H => SqT K H a xs ∧ SqL K H b ys) (YPair (fun i => xs[i]?) fun i => ys[i]?) := by
  refine ⟨fun i H hi g => ?_, fun H g => ?_, fun i H x H' hi g y => ?_⟩
  · exact ⟨xs, ys, _, _, g.1, g.2, List.getElem?_eq_getElem (by omega), List.getElem?_eq_getElem (by omega)⟩
  · exact ⟨xs, ys, g.1, g.2, h⟩
  · obtain ⟨T, x1, x2, e, hT, e2, k1, k2⟩ := y
    exact ⟨T, x1, x2, e, hT, e2, k1 xs g.1, k2 ys g.2⟩
/-- of one kind, or a tuple beside a list -/
def Mix (H : Hp) (a b : Addr) (xs ys : List V) : Prop := Gv.SameK H a b xs ys ∨ (H a = some (.tup xs) ∧ H b = some (.lst ys))
theorem Mix.ext {H H' : Hp} {a b : Addr} {xs ys : List V} (h : Mix H a b xs ys) (k : Ext H H') : Mix H' a b xs ys := h.elim (fun e => .inl (e.ext k)) (fun e => .inr ⟨k _ _ e.1, k _ _ e.2⟩)
def iZipV (i j : Nat) : TI := fun σ H R => ∃ (a b : Addr) (xs ys : List V), σ[i]? = some (some (.ref a)) ∧ σ[j]? = some (some (.ref b)) ∧ Mix H a b xs ys ∧ ∀ J, Walk J (min xs.length ys.length) (fun H' => H' a = H a ∧ H' b = H b) (YPair (fun i => xs[i]?) fun i => ys[i]?) → R J H
theorem iZip_ok {K : PySem.W.Frag} {i j : Nat} : ∀ (σ : L2.St) (H : Hp) (R : It → Hp → Prop), iZipV i j σ H R → iZipM K (tCons (tVar i) (tCons (tVar j) tNil)) σ H R := by
  rintro σ H R ⟨a, b, xs, ys, h1, h2, hc, k⟩
  rcases hc with (⟨h3, h4⟩ | ⟨h3, h4⟩) | ⟨h3, h4⟩
  · exact ⟨_, h1, _, h2, a, b, xs, ys, rfl, .inl ⟨SqL.of h3, SqL.of h4, k _ (wW (walk_zip rfl) fun H' e => ⟨SqL.of (e.1.trans h3), SqL.of (e.2.trans h4)⟩)⟩⟩
  · exact ⟨_, h1, _, h2, a, b, xs, ys, rfl, .inr (.inl ⟨SqT.of h3, SqT.of h4, k _ (wW (Gv.walk_zipT rfl) fun H' e => ⟨SqT.of (e.1.trans h3), SqT.of (e.2.trans h4)⟩)⟩)⟩
  · exact ⟨_, h1, _, h2, a, b, xs, ys, rfl, .inr (.inr ⟨SqT.of h3, SqL.of h4, k _ (wW (walk_zipM rfl) fun H' e => ⟨SqT.of (e.1.trans h3), SqL.of (e.2.trans h4)⟩)⟩)⟩
end Gm

set_option Elab.async false
set_option linter.all false
set_option maxRecDepth 100000
set_option maxHeartbeats 4000000
/-! enumerate of a list or of a tuple; `is not` of two truth values -/
namespace Gq
open L2 hiding Ext
open PySem PySem.Spec PyProof.Rows Gn Gk Gu
theorem wp_ite {α : Type} {M : Model} {A : Around} {E : Value → Shared → Prop} {s : Shared} {c : Prop} [Decidable c] {a b : Sem α} {Q : α → Shared → Prop} (h1 : wpAny M A a Q E s) (h2 : wpAny M A b Q E s) : wpAny M A (if c then a else b) Q E s := by
  by_cases h : c
  · rw [if_pos h]; exact h1
  · rw [if_neg h]; exact h2
theorem meets_enum1 {v : Value} {o : Obj} {H : Heap → Prop} (B : Begins v o H) :
    Meets (Builtin.«enumerate.__new__» { pos := [Value.type "enumerate", v] }) fun x R s =>
          H s.heap ∧
            R (Except.ok (Flow.ret (Value.ref (s.heap.push o).objs.size)))
              { heap := (s.heap.push o).push { cls := Value.type "enumerate", data := Data.fields #[Value.none, Value.bool false, Value.ref s.heap.objs.size, rawInt 0, Value.none, Value.none] },
                gens := s.gens, drawn := s.drawn, toks := s.toks, os := s.os } := by
  refine Meets.of_wp fun prog w A R s h => ?_
  obtain ⟨hp, g, d, tk, os⟩ := s
  obtain ⟨h1, h⟩ := h
  have q1 := fun {A'} {E Q} q => B.iter prog w A' E { heap := hp, gens := g, drawn := d, toks := tk, os := os } Q h1 q
  have hsub := sub_enumerate
  refine wpAny_bind ?_
  unfold Builtin.SmallTypes.newClass
  refine wpAny_bind ?_
  refine wpAny_pure ?_
  refine wpAny_ite_false rfl ?_
  refine wpAny_bind ?_
  refine wpAny_of_eq hsub ?_
  refine wpAny_ite_false rfl ?_
  refine wpAny_pure ?_
  refine wpAny_ite_true rfl ?_
  refine wpAny_bind ?_
  unfold Builtin.SmallTypes.calledThroughType
  refine wpAny_bind ?_
  refine wpAny_stack_any fun st => wpAny_pure ?_
  refine wp_ite ?_ ?_
  all_goals
    refine wpAny_bind ?_
    refine wpAny_pure ?_
    refine wpAny_bind (q1 ?_)
    refine wpAny_bind ?_
    unfold Builtin.SmallTypes.newRecord
    unfold newObj
    refine wpAny_bind (wpAny_alloc ?_)
    refine wpAny_pure ?_
    refine wpAny_pure ?_
    exact ⟨_, rfl, h⟩
theorem call_enum1 {prog : Program} {w : World} {A : Around} {E : Value → Shared → Prop} {s : Shared} {v : Value} {o : Obj} {H : Heap → Prop} {Q : Value → Shared → Prop} (B : Begins v o H) (h1 : H s.heap)
    (h : ∀ h' : Heap, IsEnum h' (s.heap.objs.size + 1) s.heap.objs.size 0 Value.none → h'.get? s.heap.objs.size = some o → h'.objs.size = s.heap.objs.size + 2 → (∀ (b : Addr) (o : Obj), s.heap.get? b = some o → h'.get? b = some o) →
      Q (Value.ref (s.heap.objs.size + 1)) { heap := h', gens := s.gens, drawn := s.drawn, toks := s.toks, os := s.os }) : wpAny (model prog w) A (call (Value.type "enumerate") [v]) Q E s := by
  refine callType_new F.called_enumerate (by decide) (F.typeCall_enumerate_1 v) (F.newCall_enumerate_1 v) (fun obj => F.args_object_init_2 obj v) F.entry_enumerate_new (meets_enum1 B) ⟨h1, ?_⟩
  have hz := Heap.size_push s.heap o
  have he : ((s.heap.push o).push { cls := Value.type "enumerate", data := Data.fields #[Value.none, Value.bool false, Value.ref s.heap.objs.size, rawInt 0, Value.none, Value.none] }).get? (s.heap.push o).objs.size = some { cls := Value.type "enumerate", data := Data.fields #[Value.none, Value.bool false, Value.ref s.heap.objs.size, rawInt 0, Value.none, Value.none] } := Heap.get?_push_size (s.heap.push o) rfl
  show _ ∧ _
  rw [hz] at he ⊢
  refine ⟨⟨_, he, rfl⟩, h _ he (Heap.get?_push_of_some _ (Heap.get?_push_size s.heap B.free)) (by rw [Heap.size_push, hz]) fun b o' x => Heap.get?_push_of_some _ (Heap.get?_push_of_some o x)⟩
def ItE (K : PySem.W.Frag) (a : Addr) : It where
  go := fun i H => ∃ xs x, SqT K H a xs ∧ xs[i]? = some x
  yld := fun i H v H' => ∃ T x, v = V.ref T ∧ H T = none ∧ H' = upd H T (.tup [.int (i : Nat), x]) ∧ ∀ xs, SqT K H a xs → xs[i]? = some x
  stop := fun i H => ∃ xs, SqT K H a xs ∧ i = xs.length
def tnE (a e it : Addr) (i : Nat) (h : Heap) : Prop := (∃ old, IsEnum h e it ((0 : Int) + (i : Nat)) old) ∧ h.IsTupleIter it a i
theorem turn_enumT {P : Program} {w : World} {K : PySem.W.Frag} {elts : List Expr} {kk : Nat} {tpos : Pos} {a e it : Addr} (h1 : e ≠ it) (h2 : a ≠ e) (h3 : a ≠ it) :
    Turn P w K (Expr.Tuple elts kk tpos) (ItE K a) [e, it] e (tnE a e it) := by
  refine ⟨by simp, ?_, ?_, ?_, ?_, ?_⟩
  · rintro i hp ⟨⟨old, h1⟩, ⟨o4, h4, _, d4⟩⟩ b' hb
    simp only [List.mem_cons, List.not_mem_nil, or_false] at hb
    rcases hb with rfl | rfl
    · exact ⟨_, h1, fun v e => by cases e⟩
    · exact ⟨_, h4, fun v e => by rw [d4] at e; cases e⟩
  · rintro i hp hp' ⟨⟨old, h1⟩, ⟨o4, h4, c4, d4⟩⟩ k
    exact ⟨⟨old, k _ (by simp) _ h1⟩, ⟨o4, k _ (by simp) _ h4, c4, d4⟩⟩
  · rintro X rfl rfl rfl hc i pins s σ H E I fp ⟨t1, t4⟩ ⟨xs, x, hx, ex⟩
    obtain ⟨its1, v1, p1, _⟩ := I.tuple hx
    have hd : X.A.in1.handled = none := I.ok.hd hc
    have G := GoesN.enumFrom (elts := elts) (x1 := kk) (pos := tpos) 0 (Draws.tuple (prog := X.prog) (w := X.w) hd it a h3 its1.toArray) e h1 (by simp only [List.mem_cons, List.not_mem_nil, or_false, not_or]; exact ⟨h1, h2.symm⟩) (by simp)
    have hi1 := (List.getElem?_eq_some_iff.mp ex).1
    have l1 := v1.length
    refine G.goes i s (fun u s2 => ∃ x H', L2.Inv X pins σ H' s2 ∧ L2.RelV x u ∧ (ItE X.K a).yld i H x H' ∧ tnE a e it (i + 1) s2.heap ∧ ∀ b ∈ [e, it], H' b = none) E (by simp; omega) ⟨t1, t4, p1⟩ ?_
    rintro v h' tk ⟨T, t, x', rfl, hT, e1, tup⟩ ⟨s1, s4, _⟩ keep _
    obtain ⟨u1, g1, r1⟩ := v1.get ex
    have e1 : its1[i]? = some x' := by simpa using e1
    rw [g1] at e1
    cases e1
    have fr := I.hok.fresh hT
    refine ⟨V.ref T, upd H T (.tup [.int (i : Nat), x]), ?_, rfl, ⟨T, x, rfl, fr, rfl, fun xs' hx' => ?_⟩, ⟨s1, s4⟩, fun b' hb' => ?_⟩
    · refine I.turnedNew keep (fun b' hb' => fp b' hb') hT ?_
      refine ⟨by show 2 ≤ sizeLine; decide, _, .cons (b := Value.int (0 + (i : Nat)) t) ⟨t, ?_⟩ (.cons r1 .nil), tup⟩
      rw [Int.zero_add]
    · rw [I.tuple_inj hx' hx]; exact ex
    · have : b' < s.heap.objs.size := by
        obtain ⟨old, t1⟩ := t1
        obtain ⟨o4, t4, _, _⟩ := t4
        simp only [List.mem_cons, List.not_mem_nil, or_false] at hb'
        rcases hb' with rfl | rfl
        · exact Gm.lt_of_get t1
        · exact Gm.lt_of_get t4
      rw [upd_ne (Nat.ne_of_lt (Nat.lt_of_lt_of_le this hT))]
      exact (fp b' hb').1
  · rintro X rfl rfl rfl hc i pins s σ H E I fp ⟨t1, t4⟩ ⟨xs, hx, rfl⟩
    obtain ⟨its1, v1, p1, _⟩ := I.tuple hx
    have hd : X.A.in1.handled = none := I.ok.hd hc
    have G := GoesN.enumFrom (elts := elts) (x1 := kk) (pos := tpos) 0 (Draws.tuple (prog := X.prog) (w := X.w) hd it a h3 its1.toArray) e h1 (by simp only [List.mem_cons, List.not_mem_nil, or_false, not_or]; exact ⟨h1, h2.symm⟩) (by simp)
    have l1 := v1.length
    have en : its1.toArray.size = xs.length := by simp; omega
    rw [en] at G
    refine G.stops s (fun s1 => L2.Inv X pins σ H s1) E ⟨t1, t4, p1⟩ fun h' tk keep _ => ?_
    exact I.turnedL keep fun b' hb' => fp b' hb'
  · rintro A i s Q E ⟨⟨old, t1⟩, _⟩ q
    exact wpAny_pyIter_enum t1 q
theorem fp2 {X : Cx} {pins : List (Addr × Obj)} {σ : L2.St} {H : Hp} {s : Shared} (I : L2.Inv X pins σ H s) : ∀ b ∈ [s.heap.objs.size + 1, s.heap.objs.size], FpOk X pins H b := fun b hb => by
  simp only [List.mem_cons, List.not_mem_nil, or_false] at hb
  have h : s.heap.objs.size ≤ b := by rcases hb with rfl | rfl <;> first | exact Nat.le_add_right _ _ | exact Nat.le_refl _
  exact I.fpOk h (I.hok.fresh h)
/-- a list or a tuple -/
def iEnumM (K : PySem.W.Frag) (ta : TA) : TI := fun σ H R => ta σ H fun vs H1 => ∃ a xs, vs = [V.ref a] ∧ ((SqL K H1 a xs ∧ R (Ite K a) H1) ∨ (SqT K H1 a xs ∧ R (ItE K a) H1))
theorem ne_lt {a N : Nat} (h : a < N) : a ≠ N + 1 ∧ a ≠ N := by omega
theorem pi_enumM {X : Cx} {e : Expr} {ta : TA} {p pos tpos : Pos} {elts : List Expr} {kk : Nat} (hg : Gl X "enumerate") (hm : X.mg "enumerate" = none) (ha : PA X [e] ta)
    (hs : starEach [e] X.env = (false, eval e X.env) :: starEach [] X.env := by rfl) (hpl : ((backTo pos (starEach [] X.env)).any fun x => x.1) = false := by rfl) :
    PI X (Expr.Tuple elts kk tpos) ((Expr.Name "enumerate" p).Call [e] [] pos) (iEnumM X.K ta) := by
  refine ⟨fun pins s σ H R I h => Call_ (ld_blt I hg hm boot_enumerate (PyProof.Rows.callWith_type1 (thn (ha.run pos pins s σ H _ I h) ?_) hs hpl))⟩
  rintro us s1 ⟨vs, H1, I1, r1, a, xs, rfl, q1⟩
  cases r1 with
  | cons r1 rr =>
    cases rr
    cases r1
    rcases q1 with ⟨hx, hR⟩ | ⟨hx, hR⟩
    · obtain ⟨its1, v1, p1, _⟩ := I1.list hx
      refine call_enum1 (begins_list a its1.toArray) p1.isList fun h' z1 z2 z3 z4 => wpAny_pyIter_enum z1 ?_
      exact ⟨_, _, _, _, H1, rfl, I1.kept z4, turn_enum a _ _, ⟨⟨_, z1⟩, ⟨_, z2, rfl, rfl⟩, Nat.succ_ne_self _⟩, fp2 I1, hR⟩
    · obtain ⟨its1, v1, p1, _⟩ := I1.tuple hx
      refine call_enum1 (begins_tuple a its1.toArray) p1 fun h' z1 z2 z3 z4 => wpAny_pyIter_enum z1 ?_
      obtain ⟨o1, g1, _⟩ := p1
      obtain ⟨n1, n2⟩ := ne_lt (Gm.lt_of_get g1)
      exact ⟨_, _, _, _, H1, rfl, I1.kept z4, turn_enumT (Nat.succ_ne_self _) n1 n2, ⟨⟨_, z1⟩, ⟨_, z2, rfl, rfl⟩⟩, fp2 I1, hR⟩
theorem walk_enumT {K : PySem.W.Frag} {a : Addr} {xs : List V} : Walk (ItE K a) xs.length (fun H => SqT K H a xs) (YPair (fun i => some (V.int (i : Nat))) fun i => xs[i]?) := by
  refine ⟨fun i H hi g => ?_, fun H g => ?_, fun i H x H' hi g y => ?_⟩
  · exact ⟨xs, _, g, List.getElem?_eq_getElem (by omega)⟩
  · exact ⟨xs, g, rfl⟩
  · obtain ⟨T, x1, e, hT, e2, k1⟩ := y
    exact ⟨T, _, x1, e, hT, e2, rfl, k1 xs g⟩
def iEnumV (i : Nat) : TI := fun σ H R => ∃ (a : Addr) (xs : List V), σ[i]? = some (some (.ref a)) ∧ ClAt H a xs ∧ ∀ J, Walk J xs.length (fun H' => H' a = H a) (YPair (fun i => some (V.int (i : Nat))) fun i => xs[i]?) → R J H
theorem iEnum_ok {K : PySem.W.Frag} {i : Nat} : ∀ (σ : L2.St) (H : Hp) (R : It → Hp → Prop), iEnumV i σ H R → iEnumM K (tCons (tVar i) tNil) σ H R := by
  rintro σ H R ⟨a, xs, h1, hc, k⟩
  rcases hc with h3 | h3
  · exact ⟨_, h1, a, xs, rfl, .inl ⟨SqL.of h3, k _ (wW walk_enum fun H' e => SqL.of (e.trans h3))⟩⟩
  · exact ⟨_, h1, a, xs, rfl, .inr ⟨SqT.of h3, k _ (wW walk_enumT fun H' e => SqT.of (e.trans h3))⟩⟩
theorem same_bool (b c : Bool) : isSame (Value.bool b) (Value.bool c) = pure (b == c) := by cases b <;> cases c <;> rfl
theorem op_isnotB {X : Cx} : OpR X (compareOp CmpOp.IsNot) fun x y H Q => ∃ b c, x = V.bl b ∧ y = V.bl c ∧ Q (V.bl (!(b == c))) H := by
  rintro pins s σ H x y v u Q I r1 r2 ⟨b, c, rfl, rfl, q⟩
  cases r1
  cases r2
  unfold compareOp
  refine wpAny_bind ?_
  refine wpAny_of_eq (same_bool b c) ?_
  refine wpAny_pure ?_
  exact fin_bl I q rfl
end Gq

set_option Elab.async false
set_option linter.all false
set_option maxRecDepth 100000
set_option maxHeartbeats 4000000
/-! a value of any kind beside texts; a list of anything beside an empty one -/
namespace Gj
open L2 hiding Ext
open PySem PySem.Spec PyProof.Rows Gn Gk Gu SeqAt
theorem dict_not_str (a : Addr) (ob : Obj) (b : Str) (u : Tok) (hc : ob.cls = .type "dict") :
    Meets (Builtin.«dict.__eq__» ⟨[.ref a, .str b u], []⟩) (fun _ R s => s.heap.get? a = some ob ∧ R (.ok (.ret .notImplemented)) s) :=
  .of_wp fun prog w A R s h => by
    obtain ⟨hp, g, d, tk, os⟩ := s
    obtain ⟨hl, h⟩ := h
    have f1 := F.sub_str_dict
    unfold Builtin.«dict.__eq__»
    wp_walk using wpAny_loadPart' hl
    exact ⟨_, rfl, h⟩
theorem str_not_dict (b : Str) (u : Tok) (a : Addr) (ob : Obj) :
    Meets (Builtin.«str.__eq__» ⟨[.str b u, .ref a], []⟩) (fun _ R s => s.heap.get? a = some ob ∧ (∃ es ep, ob.data = .dict es ep) ∧ R (.ok (.ret .notImplemented)) s) :=
  .of_wp fun prog w A R s h => by
    obtain ⟨hp, g, d, tk, os⟩ := s
    obtain ⟨hl, ⟨es, ep, hd⟩, h⟩ := h
    obtain ⟨c, dd, data, sl⟩ := ob
    subst hd
    wp_walk using wpAny_loadPart' hl, wpAny_load hl
    exact ⟨_, rfl, h⟩
theorem rc_str_dict {A : Around} {s : Shared} {a : Addr} {ob : Obj} (b : Str) (u : Tok) (hl : s.heap.get? a = some ob) (hc : ob.cls = .type "dict") (hd : ∃ es ep, ob.data = .dict es ep) (hu : A.units < cLine) : RcAt A s (.str b u) (.ref a) false := fun prog w E Q h =>
  rc_eq_decline_or (k := false) (typeIs_str s b u) ⟨_, hl, hc⟩ (by decide) F.sub_dict_str F.slot_str_eq F.slot_dict_eq_refl
    (fun _ hq => call_meets F.slot_str_eq (typeIs_str s b u) F.entry_str_eq (F.args_str_eq_2 _ _) (str_not_dict b u a ob) ⟨hl, hd, hq⟩)
    (fun _ hq => call_meets F.slot_dict_eq_refl ⟨_, hl, hc⟩ F.entry_dict_eq (F.args_dict_eq_2 _ _) (dict_not_str a ob b u hc) ⟨hl, hq⟩)
    (fun _ hq => wpAny_of_eq (rfl : isSame (.str b u) (.ref a) = pure false) hq) (.inr hu) h
theorem eq_str_dict {A : Around} {s : Shared} {a : Addr} {ob : Obj} (b : Str) (u : Tok) (hl : s.heap.get? a = some ob) (hc : ob.cls = .type "dict") (hd : ∃ es ep, ob.data = .dict es ep) (hu : A.units < cLine) : EqAt A s (.str b u) (.ref a) false := fun prog w E Q h => by
  unfold eqBool
  refine wpAny_holding (wpAny_ite_split (fun hab => absurd (eq_of_beq hab) nofun) fun _ => ?_)
  exact wpAny_bind (rc_str_dict b u hl hc hd hu prog w E _ (wpAny_truthy_bool h))
/-- a list, a tuple or a dict -/
def Cont (H : Hp) (a : Addr) : Prop := (∃ xs, H a = some (.lst xs)) ∨ (∃ xs, H a = some (.tup xs)) ∨ ∃ kvs, H a = some (.dK kvs)
theorem Cont.ext {H H' : Hp} {a : Addr} (h : Cont H a) (k : ∀ b o, H b = some o → H' b = some o) : Cont H' a :=
  h.elim (fun ⟨x, e⟩ => .inl ⟨x, k _ _ e⟩) fun h => h.elim (fun ⟨x, e⟩ => .inr (.inl ⟨x, k _ _ e⟩)) fun ⟨x, e⟩ => .inr (.inr ⟨x, k _ _ e⟩)
theorem str_cont {X : Cx} {pins : List (Addr × Obj)} {σ : L2.St} {H : Hp} {s : Shared} (I : L2.Inv X pins σ H s) {a : Addr} (h : Cont H a) {A : Around} (hu : A.units < cLine) (b : Str) (u : Tok) : EqAt A s (.str b u) (.ref a) false := by
  rcases h with ⟨xs, h⟩ | ⟨xs, h⟩ | ⟨kvs, h⟩
  · obtain ⟨its, _, p, _⟩ := I.list (SqL.of h)
    exact EqAt.str_list b u p.isList hu
  · obtain ⟨its, _, p, _⟩ := I.tuple (SqT.of h)
    exact EqAt.str_tuple b u p hu
  · obtain ⟨_, _, vs, _, d⟩ := I.hok a _ h
    obtain ⟨o, es, ep, ho, hx, hdt, _⟩ := d
    exact eq_str_dict b u ho hx.1 ⟨es, ep, hdt⟩ hu
theorem str_flat (ws : List Str) : (ws.map V.str).all flatV = true := by
  rw [List.all_eq_true]
  intro x hx
  obtain ⟨w, _, rfl⟩ := List.mem_map.mp hx
  rfl
/-- x in a list or a tuple of texts, x of any kind -/
def rInO (neg : Bool) : R2 := fun x y H Q => ∃ (p : Addr) (ws : List Str), y = .ref p ∧ (H p = some (.lst (ws.map V.str)) ∨ H p = some (.tup (ws.map V.str))) ∧
  ((flatV x = true ∧ Q (.bl (if neg then !inV x (ws.map V.str) else inV x (ws.map V.str))) H) ∨ ∃ a, x = .ref a ∧ Cont H a ∧ Q (.bl neg) H)
theorem strs_false {X : Cx} {pins : List (Addr × Obj)} {σ : L2.St} {H : Hp} {s : Shared} (I : L2.Inv X pins σ H s) {a : Addr} (h : Cont H a) {A : Around} (hu : A.units < cLine) : ∀ {ws : List Str} {us : List Value}, Vals (ws.map V.str) us → ∀ y ∈ us, EqAt A s y (.ref a) false
  | [], _, .nil, y, hy => by cases hy
  | w :: ws, _, .cons r t, y, hy => by
    obtain ⟨tk, rfl⟩ := r
    rcases List.mem_cons.mp hy with rfl | hy
    · exact str_cont I h hu w tk
    · exact strs_false I h hu t y hy
section
variable {X : Cx} (h64 : X.A.units + 64 < cLine)
include h64 in
theorem op_inO : OpR X (compareOp .In) (rInO false) := by
  have hu : X.A.in1.units < cLine := by show X.A.units + 1 < cLine; omega
  have hu0 : X.A.units < cLine := by omega
  intro pins s σ H x y v u Q I rx ry h
  obtain ⟨p, ws, rfl, hp, h⟩ := h
  rcases h with ⟨fx, q⟩ | ⟨a, rfl, hc, q⟩
  · refine op_in_seq pins s σ H x _ v u Q I rx ry ⟨p, _, rfl, hp.elim (fun e => .inl (SqL.of e)) (fun e => .inr (SqT.of e)), fx, str_flat _, q⟩
  · cases rx
    cases ry
    rcases hp with hp | hp
    · obtain ⟨its, r, pl, _⟩ := I.list (SqL.of hp)
      refine in_listAt (fun _ => false) pl.isList (fun w hw => strs_false I hc hu r w (by simpa using hw)) ⟨.bl _, H, I, rfl, ?_⟩
      rw [show its.toArray.any (fun _ => false) = false by simp]
      exact q
    · obtain ⟨its, r, pl, _⟩ := I.tuple (SqT.of hp)
      refine in_tupleAt (fun _ => false) pl (fun w hw => strs_false I hc hu r w (by simpa using hw)) ⟨.bl _, H, I, rfl, ?_⟩
      rw [show its.toArray.any (fun _ => false) = false by simp]
      exact q
include h64 in
theorem op_notInO : OpR X (compareOp .NotIn) (rInO true) := by
  have hu : X.A.in1.units < cLine := by show X.A.units + 1 < cLine; omega
  have hu0 : X.A.units < cLine := by omega
  intro pins s σ H x y v u Q I rx ry h
  obtain ⟨p, ws, rfl, hp, h⟩ := h
  rcases h with ⟨fx, q⟩ | ⟨a, rfl, hc, q⟩
  · refine op_notIn_seq pins s σ H x _ v u Q I rx ry ⟨p, _, rfl, hp.elim (fun e => .inl (SqL.of e)) (fun e => .inr (SqT.of e)), fx, str_flat _, q⟩
  · cases rx
    cases ry
    rcases hp with hp | hp
    · obtain ⟨its, r, pl, _⟩ := I.list (SqL.of hp)
      refine notIn_listAt (fun _ => false) pl.isList (fun w hw => strs_false I hc hu r w (by simpa using hw)) ⟨.bl _, H, I, rfl, ?_⟩
      rw [show its.toArray.any (fun _ => false) = false by simp]
      exact q
    · obtain ⟨its, r, pl, _⟩ := I.tuple (SqT.of hp)
      refine notIn_tupleAt (fun _ => false) pl (fun w hw => strs_false I hc hu r w (by simpa using hw)) ⟨.bl _, H, I, rfl, ?_⟩
      rw [show its.toArray.any (fun _ => false) = false by simp]
      exact q
/-- a list of anything == a list of no item -/
def rEqE (K : PySem.W.Frag) (neg : Bool) : R2 := fun x y H Q => ∃ (a b : Addr) (xs : List V), x = .ref a ∧ y = .ref b ∧ SqL K H a xs ∧ SqL K H b [] ∧ Q (.bl (if neg then !xs.isEmpty else xs.isEmpty)) H
include h64 in
theorem op_eqE : OpR X (compareOp .Eq) (rEqE X.K false) := by
  have hu : X.A.in1.units < cLine := by show X.A.units + 1 < cLine; omega
  have hu0 : X.A.units < cLine := by omega
  intro pins s σ H x y v u Q I rx ry h
  obtain ⟨a, b, xs, rfl, rfl, ha, hb, q⟩ := h
  cases rx
  cases ry
  obtain ⟨its, r, pa, _⟩ := I.list ha
  obtain ⟨its2, r2, pb, _⟩ := I.list hb
  cases r2
  cases r with
  | nil =>
    refine eq_listAt (e := fun _ => true) pa.isList pb.isList rfl hu0 (fun j h1 => absurd h1 (Nat.not_lt_zero j)) ⟨.bl _, H, I, rfl, ?_⟩
    exact q
  | cons r t =>
    refine eq_list_lengthsAt pa.isList pb.isList (by simp) hu0 ⟨.bl _, H, I, rfl, ?_⟩
    exact q
include h64 in
theorem op_neE : OpR X (compareOp .NotEq) (rEqE X.K true) := by
  have hu0 : X.A.units < cLine := by omega
  intro pins s σ H x y v u Q I rx ry h
  obtain ⟨a, b, xs, rfl, rfl, ha, hb, q⟩ := h
  cases rx
  cases ry
  obtain ⟨its, r, pa, _⟩ := I.list ha
  obtain ⟨its2, r2, pb, _⟩ := I.list hb
  cases r2
  cases r with
  | nil => exact RcNeAt.lists (e := fun _ => true) pa.isList pb.isList rfl hu0 (fun j h1 => absurd h1 (Nat.not_lt_zero j)) _ _ _ _ ⟨.bl _, H, I, rfl, q⟩
  | cons r t => exact RcNeAt.lists_lengths pa.isList pb.isList (by simp) hu0 _ _ _ _ ⟨.bl _, H, I, rfl, q⟩
end
end Gj

set_option Elab.async false
set_option linter.all false
set_option maxRecDepth 100000
set_option maxHeartbeats 4000000
/-! enumerate(.., start=k) of a tuple -/
namespace Gs
open L2 hiding Ext
open PySem PySem.Spec PyProof.Rows Gn Gk Gu Gq
section
variable {M : Model} {A : Around} {E : Value → Shared → Prop} {s : Shared} {env : Env}
theorem callWith_type_kwB {pos : Pos} {T : String} {first : List Value} {args : List (Bool × Sem Value)} {keywords : List (Option Str × Sem Value)} {Q : Value → Shared → Prop}
    (hplain : args.any (·.1) = false) (hkw : keywords.any (·.1.isNone) = false)
    (h : wpAny M A (evalArgs (.type T) true args keywords) (fun a s₁ => wpAny M A (call (.type T) (first ++ a.pos) a.kw) Q E s₁) E s) :
    wpAny M A (callWith pos (.type T) first args keywords) Q E s := by
  unfold callWith
  refine wpAny_bind (wpAny_holding (wpAny_mono h (fun a s₁ h₁ => wpAny_bind (wpAny_standAt ?_)) fun _ _ x => x))
  simp only [hplain, hkw, Bool.or_false]
  refine wpAny_bind (wpAny_pure ?_)
  exact wpAny_bind (wpAny_mono h₁ (fun r s₂ hr => wpAny_bind (wpAny_holding (wpAny_point (wpAny_pure hr)))) fun _ _ x => x)
theorem callWith_typeKw {pos : Pos} {T : String} {e : Expr} {rest : List Expr} {kws : List Keyword} {Q : Value → Shared → Prop}
    (h : wpAny M A (spliced (backTo pos (starEach (e :: rest) env))) (fun vs s₁ => wpAny M A (evalAll ((backToKw pos (keywordEach kws env)).map (·.2)))
      (fun kvs s₂ => wpAny M A (call (.type T) vs (((backToKw pos (keywordEach kws env)).filterMap (·.1)).zip kvs)) Q E s₂) E s₁) E s)
    (he : backTo pos (starEach (e :: rest) env) = (false, eval e env) :: backTo pos (starEach rest env))
    (hplain : (backTo pos (starEach (e :: rest) env)).any (·.1) = false)
    (hall : (backToKw pos (keywordEach kws env)).all (·.1.isSome) = true)
    (hkw : (backToKw pos (keywordEach kws env)).any (·.1.isNone) = false) :
    wpAny M A (callWith pos (.type T) [] (backTo pos (starEach (e :: rest) env)) (backToKw pos (keywordEach kws env))) Q E s := by
  refine callWith_type_kwB hplain hkw ?_
  rw [he] at h ⊢
  exact evalArgs_kwB hall h
end
def ItS (K : PySem.W.Frag) (a : Addr) (k0 : Int) : It where
  go := fun i H => ∃ xs x, SqT K H a xs ∧ xs[i]? = some x
  yld := fun i H v H' => ∃ T x, v = V.ref T ∧ H T = none ∧ H' = upd H T (.tup [.int (k0 + (i : Nat)), x]) ∧ ∀ xs, SqT K H a xs → xs[i]? = some x
  stop := fun i H => ∃ xs, SqT K H a xs ∧ i = xs.length
def tnS (k0 : Int) (a e it : Addr) (i : Nat) (h : Heap) : Prop := (∃ old, IsEnum h e it (k0 + (i : Nat)) old) ∧ h.IsTupleIter it a i
theorem turn_enumS {P : Program} {w : World} {K : PySem.W.Frag} {elts : List Expr} {kk : Nat} {tpos : Pos} {a e it : Addr} {k0 : Int} (h1 : e ≠ it) (h2 : a ≠ e) (h3 : a ≠ it) :
    Turn P w K (Expr.Tuple elts kk tpos) (ItS K a k0) [e, it] e (tnS k0 a e it) := by
  refine ⟨by simp, ?_, ?_, ?_, ?_, ?_⟩
  · rintro i hp ⟨⟨old, h1⟩, ⟨o4, h4, _, d4⟩⟩ b' hb
    simp only [List.mem_cons, List.not_mem_nil, or_false] at hb
    rcases hb with rfl | rfl
    · exact ⟨_, h1, fun v e => by cases e⟩
    · exact ⟨_, h4, fun v e => by rw [d4] at e; cases e⟩
  · rintro i hp hp' ⟨⟨old, h1⟩, ⟨o4, h4, c4, d4⟩⟩ k
    exact ⟨⟨old, k _ (by simp) _ h1⟩, ⟨o4, k _ (by simp) _ h4, c4, d4⟩⟩
  · rintro X rfl rfl rfl hc i pins s σ H E I fp ⟨t1, t4⟩ ⟨xs, x, hx, ex⟩
    obtain ⟨its1, v1, p1, _⟩ := I.tuple hx
    have hd : X.A.in1.handled = none := I.ok.hd hc
    have G := GoesN.enumFrom (elts := elts) (x1 := kk) (pos := tpos) k0 (Draws.tuple (prog := X.prog) (w := X.w) hd it a h3 its1.toArray) e h1 (by simp only [List.mem_cons, List.not_mem_nil, or_false, not_or]; exact ⟨h1, h2.symm⟩) (by simp)
    have hi1 := (List.getElem?_eq_some_iff.mp ex).1
    have l1 := v1.length
    refine G.goes i s (fun u s2 => ∃ x H', L2.Inv X pins σ H' s2 ∧ L2.RelV x u ∧ (ItS X.K a k0).yld i H x H' ∧ tnS k0 a e it (i + 1) s2.heap ∧ ∀ b ∈ [e, it], H' b = none) E (by simp; omega) ⟨t1, t4, p1⟩ ?_
    rintro v h' tk ⟨T, t, x', rfl, hT, e1, tup⟩ ⟨s1, s4, _⟩ keep _
    obtain ⟨u1, g1, r1⟩ := v1.get ex
    have e1 : its1[i]? = some x' := by simpa using e1
    rw [g1] at e1
    cases e1
    have fr := I.hok.fresh hT
    refine ⟨V.ref T, upd H T (.tup [.int (k0 + (i : Nat)), x]), ?_, rfl, ⟨T, x, rfl, fr, rfl, fun xs' hx' => ?_⟩, ⟨s1, s4⟩, fun b' hb' => ?_⟩
    · refine I.turnedNew keep (fun b' hb' => fp b' hb') hT ?_
      refine ⟨by show 2 ≤ sizeLine; decide, _, .cons (b := Value.int (k0 + (i : Nat)) t) ⟨t, rfl⟩ (.cons r1 .nil), tup⟩
    · rw [I.tuple_inj hx' hx]; exact ex
    · have : b' < s.heap.objs.size := by
        obtain ⟨old, t1⟩ := t1
        obtain ⟨o4, t4, _, _⟩ := t4
        simp only [List.mem_cons, List.not_mem_nil, or_false] at hb'
        rcases hb' with rfl | rfl
        · exact Gm.lt_of_get t1
        · exact Gm.lt_of_get t4
      rw [upd_ne (Nat.ne_of_lt (Nat.lt_of_lt_of_le this hT))]
      exact (fp b' hb').1
  · rintro X rfl rfl rfl hc i pins s σ H E I fp ⟨t1, t4⟩ ⟨xs, hx, rfl⟩
    obtain ⟨its1, v1, p1, _⟩ := I.tuple hx
    have hd : X.A.in1.handled = none := I.ok.hd hc
    have G := GoesN.enumFrom (elts := elts) (x1 := kk) (pos := tpos) k0 (Draws.tuple (prog := X.prog) (w := X.w) hd it a h3 its1.toArray) e h1 (by simp only [List.mem_cons, List.not_mem_nil, or_false, not_or]; exact ⟨h1, h2.symm⟩) (by simp)
    have l1 := v1.length
    have en : its1.toArray.size = xs.length := by simp; omega
    rw [en] at G
    refine G.stops s (fun s1 => L2.Inv X pins σ H s1) E ⟨t1, t4, p1⟩ fun h' tk keep _ => ?_
    exact I.turnedL keep fun b' hb' => fp b' hb'
  · rintro A i s Q E ⟨⟨old, t1⟩, _⟩ q
    exact wpAny_pyIter_enum t1 q
/-- a tuple, from k0 on -/
def iEnumS (K : PySem.W.Frag) (k0 : Int) (ta : TA) : TI := fun σ H R => ta σ H fun vs H1 => ∃ a xs, vs = [V.ref a] ∧ SqT K H1 a xs ∧ R (ItS K a k0) H1
theorem pi_enumS {X : Cx} {e : Expr} {ta : TA} {p pos tpos kp cp : Pos} {elts : List Expr} {kk ck : Nat} {k0 : Int} (hk0 : -(2 ^ 63) ≤ k0) (hk1 : k0 < 2 ^ 63) (hg : Gl X "enumerate") (hm : X.mg "enumerate" = none) (ha : PA X [e] ta)
    (he : backTo pos (starEach [e] X.env) = (false, eval e X.env) :: backTo pos (starEach [] X.env) := by rfl) (hpl : (backTo pos (starEach [e] X.env)).any (·.1) = false := by rfl) :
    PI X (Expr.Tuple elts kk tpos) ((Expr.Name "enumerate" p).Call [e] [⟨some "start", .Constant (.int k0) ck cp, kp⟩] pos) (iEnumS X.K k0 ta) := by
  refine ⟨fun pins s σ H R I h => ?_⟩
  refine wpAny_Call_Name_kw (ld_blt I hg hm boot_enumerate ?_)
  refine callWith_typeKw (thn (ha.run pos pins s σ H _ I h) ?_) he hpl (by rfl) (by rfl)
  rintro us s1 ⟨vs, H1, I1, r1, a, xs, rfl, hx, hR⟩
  cases r1 with
  | cons r1 rr =>
    cases rr
    cases r1
    refine kws_cons (thn ((pe_int (X := X) (i := k0)).run pins s1 σ H1 (fun x H2 => x = V.int k0 ∧ H2 = H1) I1 ⟨rfl, rfl⟩) fun v s2 ⟨x, H2, I2, r2, ex, e2⟩ => kws_nil ?_)
    subst ex e2
    obtain ⟨t, rfl⟩ := r2
    obtain ⟨its1, v1, p1, _⟩ := I2.tuple hx
    refine enum_begins_start (begins_tuple a its1.toArray) p1 hk0 hk1 fun h' z1 z2 z3 z4 => wpAny_pyIter_enum z1 ?_
    obtain ⟨o1, g1, _⟩ := p1
    obtain ⟨n1, n2⟩ := ne_lt (Gm.lt_of_get g1)
    exact ⟨_, _, _, _, H2, rfl, I2.kept z4, turn_enumS (Nat.succ_ne_self _) n1 n2, ⟨⟨_, by simpa using z1⟩, ⟨_, z2, rfl, rfl⟩⟩, fp2 I2, hR⟩
theorem walk_enumS {K : PySem.W.Frag} {a : Addr} {xs : List V} {k0 : Int} : Walk (ItS K a k0) xs.length (fun H => SqT K H a xs) (YPair (fun i => some (V.int (k0 + (i : Nat)))) fun i => xs[i]?) := by
  refine ⟨fun i H hi g => ?_, fun H g => ?_, fun i H x H' hi g y => ?_⟩
  · exact ⟨xs, _, g, List.getElem?_eq_getElem (by omega)⟩
  · exact ⟨xs, g, rfl⟩
  · obtain ⟨T, x1, e, hT, e2, k1⟩ := y
    exact ⟨T, _, x1, e, hT, e2, rfl, k1 xs g⟩
end Gs

set_option Elab.async false
set_option linter.all false
set_option maxRecDepth 100000
set_option maxHeartbeats 4000000
namespace Lw
open L2 hiding Ext
open PySem PySem.Spec PyProof.Rows Gn Gr Gk Go Gt Gf Gu
structure Fo3 (P : Program) (w : World) (K : PySem.W.Frag) (mg : Str → Option Value) (base : Heap) (C fI pN fN : Addr) (mc : Value) (fdN : FuncData) : Prop where
  Z : FC K mg C fI mc
  hpN : PropOf K C "names" pN fN
  GN : FnOk P w K mg base CX0 1 fN fdN ["self"] (spNames C)
  bN : Binds K fdN ["self"] []
/-! ### values of any kind, as data -/
mutual
inductive Dk (d g : Addr) (H : Hp) : V → PyData → Prop
  | non : Dk d g H .non .none
  | bl (b : Bool) : Dk d g H (.bl b) (.bool b)
  | int (i : Int) : Dk d g H (.int i) (.int i)
  | str (x : Str) : Dk d g H (.str x) (.str x)
  | lst {a : Addr} {xs : List V} {ds : List PyData} : H a = some (.lst xs) → a ≠ d → a ≠ g → DkAll d g H xs ds → Dk d g H (.ref a) (.list ds)
  | tup {a : Addr} {xs : List V} {ds : List PyData} : H a = some (.tup xs) → a ≠ d → a ≠ g → DkAll d g H xs ds → Dk d g H (.ref a) (.tuple ds)
  | dct {a : Addr} : H a = some (.dK []) → a ≠ d → a ≠ g → Dk d g H (.ref a) (.dict [])
inductive DkAll (d g : Addr) (H : Hp) : List V → List PyData → Prop
  | nil : DkAll d g H [] []
  | cons {v : V} {vs : List V} {x : PyData} {ds : List PyData} : Dk d g H v x → DkAll d g H vs ds → DkAll d g H (v :: vs) (x :: ds)
end
variable {d g : Addr} {H H' : Hp}
mutual
theorem Dk.kp (k : Kp d g H H') : ∀ {v : V} {x : PyData}, Dk d g H v x → Dk d g H' v x
  | _, _, .non => .non
  | _, _, .bl b => .bl b
  | _, _, .int i => .int i
  | _, _, .str x => .str x
  | _, _, .lst h n1 n2 a => .lst (k _ _ n1 n2 h) n1 n2 (DkAll.kp k a)
  | _, _, .tup h n1 n2 a => .tup (k _ _ n1 n2 h) n1 n2 (DkAll.kp k a)
  | _, _, .dct h n1 n2 => .dct (k _ _ n1 n2 h) n1 n2
theorem DkAll.kp (k : Kp d g H H') : ∀ {vs : List V} {ds : List PyData}, DkAll d g H vs ds → DkAll d g H' vs ds
  | _, _, .nil => .nil
  | _, _, .cons h a => .cons (Dk.kp k h) (DkAll.kp k a)
end
mutual
theorem Dk.dr : ∀ {v : V} {x : PyData}, Dk d g H v x → Dr H v x
  | _, _, .non => .non
  | _, _, .bl b => .bl b
  | _, _, .int i => .int i
  | _, _, .str x => .str x
  | _, _, .lst h _ _ a => .lst h (DkAll.dr a)
  | _, _, .tup h _ _ a => .tup h (DkAll.dr a)
  | _, _, .dct h _ _ => .dct h .nil
theorem DkAll.dr : ∀ {vs : List V} {ds : List PyData}, DkAll d g H vs ds → DrAll H vs ds
  | _, _, .nil => .nil
  | _, _, .cons h a => .cons (Dk.dr h) (DkAll.dr a)
end
theorem DkAll.len : ∀ {vs : List V} {ds : List PyData}, DkAll d g H vs ds → vs.length = ds.length
  | _, _, .nil => rfl
  | _, _, .cons h a => by rw [List.length_cons, List.length_cons, DkAll.len a]
theorem DkAll.get : ∀ {vs : List V} {ds : List PyData}, DkAll d g H vs ds → ∀ {i : Nat} {v : V}, vs[i]? = some v → ∃ x, ds[i]? = some x ∧ Dk d g H v x
  | _, _, .nil, _, _, h => by cases h
  | _, _, .cons h a, 0, _, e => by cases e; exact ⟨_, rfl, h⟩
  | _, _, .cons h a, i + 1, _, e => DkAll.get a (i := i) e
theorem DkAll.app : ∀ {vs : List V} {ds : List PyData} {us : List V} {es : List PyData}, DkAll d g H vs ds → DkAll d g H us es → DkAll d g H (vs ++ us) (ds ++ es)
  | _, _, _, _, .nil, b => b
  | _, _, _, _, .cons h a, b => .cons h (DkAll.app a b)
theorem DkAll.take : ∀ {vs : List V} {ds : List PyData} (n : Nat), DkAll d g H vs ds → DkAll d g H (vs.take n) (ds.take n)
  | _, _, 0, _ => by rw [List.take_zero, List.take_zero]; exact .nil
  | _, _, n + 1, .nil => .nil
  | _, _, n + 1, .cons h a => .cons h (DkAll.take n a)
theorem DkAll.drop : ∀ {vs : List V} {ds : List PyData} (n : Nat), DkAll d g H vs ds → DkAll d g H (vs.drop n) (ds.drop n)
  | _, _, 0, h => h
  | _, _, n + 1, .nil => .nil
  | _, _, n + 1, .cons h a => DkAll.drop n a
/-- what judges of values are told -/
def isN (m : Int) : PyData → Bool
  | .int i => decide (1 ≤ i ∧ i ≤ m)
  | _ => false
theorem Dk.amt {v : V} {x : PyData} (h : Dk d g H v x) : AmtV H v (isN 1000000000 x) := by
  cases h with
  | int i =>
    refine .inl ⟨i, rfl, ?_⟩
    show decide (1 ≤ i ∧ i ≤ 1000000000) = (decide (1 ≤ i) && decide (i ≤ 1000000000))
    exact Bool.decide_and _ _
  | non => exact .inr ⟨rfl, .inl .non⟩
  | bl b => exact .inr ⟨rfl, .inr (.inl (.bl b))⟩
  | str x => exact .inr ⟨rfl, .inr (.inr (.inl (.str x)))⟩
  | lst e => exact .inr ⟨rfl, .inr (.inr (.inr (.inl (.lst e))))⟩
  | tup e => exact .inr ⟨rfl, .inr (.inr (.inr (.inr (.inl (.tup e)))))⟩
  | dct e => exact .inr ⟨rfl, .inr (.inr (.inr (.inr (.inr (.dct e)))))⟩
def isD : PyData → Bool
  | .int _ => true
  | _ => false
theorem Dk.intv {v : V} {x : PyData} (h : Dk d g H v x) : IntV H v (isD x) := by
  cases h with
  | int i => exact .inl ⟨i, rfl, rfl⟩
  | non => exact .inr ⟨rfl, .inl .non⟩
  | bl b => exact .inr ⟨rfl, .inr (.inl (.bl b))⟩
  | str x => exact .inr ⟨rfl, .inr (.inr (.inl (.str x)))⟩
  | lst e => exact .inr ⟨rfl, .inr (.inr (.inr (.inl (.lst e))))⟩
  | tup e => exact .inr ⟨rfl, .inr (.inr (.inr (.inr (.inl (.tup e)))))⟩
  | dct e => exact .inr ⟨rfl, .inr (.inr (.inr (.inr (.inr (.dct e)))))⟩
theorem Dk.flat {v : V} {x : PyData} (h : Dk d g H v x) : flatV v = true ∨ ∃ a, v = .ref a ∧ Gj.Cont H a := by
  cases h with
  | lst e => exact .inr ⟨_, rfl, .inl ⟨_, e⟩⟩
  | tup e => exact .inr ⟨_, rfl, .inr (.inl ⟨_, e⟩)⟩
  | dct e => exact .inr ⟨_, rfl, .inr (.inr ⟨_, e⟩)⟩
  | _ => exact .inl rfl
def isA (ws : List Str) : PyData → Bool
  | .str x => decide (x ∈ ws)
  | _ => false
section
variable {P : Program} {w : World} {K : PySem.W.Frag} {mg : Str → Option Value} {base : Heap} {C fI pN fN : Addr} {mc : Value} {fdN : FuncData}
/-! ### is_place -/
def spPlace : Sp := fun vs H Q _ => ∃ (d g : Addr) (v : V) (x : PyData), vs = [v] ∧ Dk d g H v x ∧ ∀ H', Ext H H' → Q (.bl (isN 20 x)) H'
theorem scPlace : FnScope ["value"] ["value"] (defScope sIsPlace) := ⟨rfl, rfl, rfl, by decide +kernel, rfl, by decide +kernel, by decide +kernel⟩
theorem ok_place {f fI : Addr} {fd fdI : FuncData} (F : Fun K "is_place" "is_place" sIsPlace f fd) (T : Names mg) (hP0 : ∃ t, mg "LAST_PLACE" = some (.int 20 t))
    (GI : FnOk P w K mg base CX0 1 fI fdI ["value"] spInt) (bI : Binds K fdI ["value"] []) (kI : PySem.W.keepIn K (.ref fI) = true) (mI : mg "is_int" = some (.ref fI)) : FnOk P w K mg base CX0 2 f fd ["value"] spPlace := by
  refine F.ok scPlace (fun vs H Q E h => ?_) (fun cdv A outer s H vs Q E hr h => ?_)
  · obtain ⟨d, g, v, x, rfl, _⟩ := h
    rfl
  · obtain ⟨d, g, v, x, rfl, hv, k⟩ := h
    obtain ⟨t3, hP⟩ := hP0
    refine ⟨_, pss_one (ps_ret (pe_and (pe_call GI hr rfl mI kI bI .nil pass0 (pa_cons (pv 0) pa_nil)) (pe_one (pe_chain op_le op_le pe_int (pv 0) (pe_glob (v := .int 20) rfl hP ⟨_, rfl⟩))))), ?_⟩
    refine ⟨_, rfl, _, _, rfl, hv.intv, isD x, rfl, ?_⟩
    cases hv with
    | int i =>
      refine iteT ?_
      refine ⟨_, rfl, _, _, rfl, rfl, _, rfl, ?_⟩
      refine ite2 (fun e => ?_) (fun e => ?_)
      · refine ⟨_, _, rfl, rfl, ?_⟩
        have : isN 20 (.int i) = decide (i ≤ 20) := decide_eq_decide.mpr ⟨fun h => h.2, fun h => ⟨of_decide_eq_true e, h⟩⟩
        show Q (.bl (decide (i ≤ 20))) H
        rw [← this]
        exact k H Ext.refl
      · have : isN 20 (.int i) = false := decide_eq_false fun h => e (decide_eq_true h.1)
        rw [this] at k
        exact k H Ext.refl
    | _ => exact iteF (k H Ext.refl)
/-! ### is_part -/
abbrev nIsPart : List Str := ["part", "value", "forest"]
def partB (ws : List Str) (p : Str) (x : PyData) : Bool := if p = "account" then isA ws x else if p = "amount" then isN 1000000000 x else if p = "mark" then isN 999 x else isN 20 x
def spPart (C : Addr) : Sp := fun vs H Q _ => ∃ (d g a : Addr) (p : Str) (v : V) (x : PyData) (rs : List FRow), vs = [.str p, v, .ref a] ∧ FoAt C H a rs ∧ Dk d g H v x ∧ ∀ H', Ext H H' → Q (.bl (partB (fNames rs) p x)) H'
theorem scPart : FnScope nIsPart ["part", "value", "forest"] (defScope sIsPart) := ⟨rfl, rfl, rfl, by decide +kernel, rfl, by decide +kernel, by decide +kernel⟩
theorem ok_part {f f1 f2 f3 : Addr} {fd fd1 fd2 fd3 : FuncData} (F : Fun K "is_part" "is_part" sIsPart f fd) (T : Names mg) (Z : Fo3 P w K mg base C fI pN fN mc fdN) (hM0 : ∃ t, mg "LAST_MARK" = some (.int 999 t))
    (GI : FnOk P w K mg base CX0 1 f1 fd1 ["value"] spInt) (bI : Binds K fd1 ["value"] []) (kI : PySem.W.keepIn K (.ref f1) = true) (mI : mg "is_int" = some (.ref f1))
    (GA : FnOk P w K mg base CX0 2 f2 fd2 ["value"] spAmt) (bA : Binds K fd2 ["value"] []) (kA : PySem.W.keepIn K (.ref f2) = true) (mA : mg "is_amount" = some (.ref f2))
    (GP : FnOk P w K mg base CX0 2 f3 fd3 ["value"] spPlace) (bP : Binds K fd3 ["value"] []) (kP : PySem.W.keepIn K (.ref f3) = true) (mP : mg "is_place" = some (.ref f3)) :
    FnOk P w K mg base CX0 3 f fd ["part", "value", "forest"] (spPart C) := by
  refine F.ok scPart (fun vs H Q E h => ?_) (fun cdv A outer s H vs Q E hr h => ?_)
  · obtain ⟨d, g, a, p, v, x, rs, rfl, _⟩ := h
    rfl
  · obtain ⟨d, g, a, p, v, x, rs, rfl, hF, hv, k⟩ := h
    have hu := hu_of hr
    have nd := scPart.nd
    have hr2 : Room 2 (A.deeper (envOfC "is_part" (defScope sIsPart) s.heap.objs.size f cdv)) := hr
    have hr1 : Room 1 (A.deeper (envOfC "is_part" (defScope sIsPart) s.heap.objs.size f cdv)) := hr.mono (by decide)
    have hrN := hr2
    obtain ⟨t3, hM⟩ := hM0
    refine ⟨_, pss_cons (ps_if (pt_cmpR op_eq (pv 0) pe_str (nomark _)) (pss_one (ps_ret (pe_cmpR (Gj.op_inO hr.units) (pv 1) (pe_prop (pv 2) Z.Z.cl Z.hpN Z.GN hrN Z.bN .nil pass0 rfl) rfl))) pss_nil)
(pss_cons (ps_if (pt_cmpR op_eq (pv 0) pe_str (nomark _)) (pss_one (ps_ret (pe_call GA hr2 rfl mA kA bA .nil pass0 (pa_cons (pv 1) pa_nil)))) pss_nil)
(pss_cons (ps_if (pt_cmpR op_eq (pv 0) pe_str (nomark _)) (pss_one (ps_ret (pe_and (pe_call GI hr1 rfl mI kI bI .nil pass0 (pa_cons (pv 1) pa_nil)) (pe_one (pe_chain op_le op_le pe_int (pv 1) (pe_glob (v := .int 999) rfl hM ⟨_, rfl⟩)))))) pss_nil)
(pss_one (ps_ret (pe_call GP hr2 rfl mP kP bP .nil pass0 (pa_cons (pv 1) pa_nil)))))), ?_⟩
    obtain ⟨dx, q0, h1, h2⟩ := id hF
    refine ⟨_, rfl, rfl, _, rfl, ?_⟩
    refine ite2 (fun e => ?_) (fun e1 => ?_)
    · have ep : p = "account" := by have := of_decide_eq_true e; injection this
      have eb : partB (fNames rs) p x = isA (fNames rs) x := by unfold partB; rw [if_pos ep]
      rw [eb] at k
      refine ⟨_, rfl, _, rfl, a, dx, _, rfl, h1, a, rs, rfl, hF, fun H1 t k1 _ ht => ?_⟩
      have hv1 : Dk d g H1 v x := hv.kp (Kp.of k1)
      refine ⟨t, fNames rs, rfl, .inr ht, ?_⟩
      rcases hv1.flat with hf | ⟨q, rfl, hq⟩
      · refine .inl ⟨hf, ?_⟩
        have : inV v ((fNames rs).map V.str) = isA (fNames rs) x := by
          cases hv with
          | str z => rw [inV_strs]; rfl
          | non => induction fNames rs with
            | nil => rfl
            | cons a r ih => exact ih
          | bl b => induction fNames rs with
            | nil => rfl
            | cons a r ih => exact ih
          | int i => induction fNames rs with
            | nil => rfl
            | cons a r ih => exact ih
          | _ => cases hf
        show Q (.bl (inV v ((fNames rs).map V.str))) H1
        rw [this]
        exact k H1 k1
      · have : isA (fNames rs) x = false := by cases hv <;> rfl
        rw [this] at k
        exact .inr ⟨q, rfl, hq, k H1 k1⟩
    have n1 : p ≠ "account" := fun h => e1 (by rw [h]; exact decide_eq_true rfl)
    refine ⟨_, rfl, rfl, _, rfl, ?_⟩
    refine ite2 (fun e => ?_) (fun e2 => ?_)
    · have ep : p = "amount" := by have := of_decide_eq_true e; injection this
      have eb : partB (fNames rs) p x = isN 1000000000 x := by unfold partB; rw [if_neg n1, if_pos ep]
      rw [eb] at k
      exact ⟨_, rfl, _, _, rfl, hv.amt, k⟩
    have n2 : p ≠ "amount" := fun h => e2 (by rw [h]; exact decide_eq_true rfl)
    refine ⟨_, rfl, rfl, _, rfl, ?_⟩
    refine ite2 (fun e => ?_) (fun e3 => ?_)
    · have ep : p = "mark" := by have := of_decide_eq_true e; injection this
      have eb : partB (fNames rs) p x = isN 999 x := by unfold partB; rw [if_neg n1, if_neg n2, if_pos ep]
      rw [eb] at k
      refine ⟨_, rfl, _, _, rfl, hv.intv, isD x, rfl, ?_⟩
      cases hv with
      | int i =>
        refine iteT ?_
        refine ⟨_, rfl, _, _, rfl, rfl, _, rfl, ?_⟩
        refine ite2 (fun e => ?_) (fun e => ?_)
        · refine ⟨_, _, rfl, rfl, ?_⟩
          have : isN 999 (.int i) = decide (i ≤ 999) := decide_eq_decide.mpr ⟨fun h => h.2, fun h => ⟨of_decide_eq_true e, h⟩⟩
          show Q (.bl (decide (i ≤ 999))) H
          rw [← this]
          exact k H Ext.refl
        · have : isN 999 (.int i) = false := decide_eq_false fun h => e (decide_eq_true h.1)
          rw [this] at k
          exact k H Ext.refl
      | _ => exact iteF (k H Ext.refl)
    have n3 : p ≠ "mark" := fun h => e3 (by rw [h]; exact decide_eq_true rfl)
    have eb : partB (fNames rs) p x = isN 20 x := by unfold partB; rw [if_neg n1, if_neg n2, if_neg n3]
    rw [eb] at k
    exact ⟨_, rfl, d, g, _, _, rfl, hv, k⟩
end
end Lw

set_option Elab.async false
set_option linter.all false
set_option maxRecDepth 100000
set_option maxHeartbeats 4000000
namespace Lw
open L2 hiding Ext
open PySem PySem.Spec PyProof.Rows Gn Gr Gk Go Gt Gf Gu
/-! ### what a fact is -/
def partsOf (k : Str) : Option (List Str) :=
  if k = "spender" then some ["place", "account", "amount"] else if k = "request" then some ["place", "account", "amount"] else if k = "deposit" then some ["mark", "account", "amount"] else if k = "release" then some ["place", "amount"]
  else if k = "consent" then some ["place", "place"] else if k = "refuse" then some ["place", "place"] else if k = "withdrawn" then some ["place"] else none
def ltB : List PyData → Bool
  | .int a :: .int b :: _ => decide (b < a)
  | _ => true
def factR (ws : List Str) (k : Str) (r : List PyData) : Bool := match partsOf k with
  | none => false
  | some ps => decide (r.length = ps.length) && ((List.zipWith (partB ws) ps r).all id && (!decide (k = "consent" ∨ k = "refuse") || ltB r))
def factB (ws : List Str) : PyData → Bool
  | .tuple (.str k :: r) => factR ws k r
  | _ => false
/-- where the parts stand in the program -/
structure Parts (K : PySem.W.Frag) (w : World) (mg : Str → Option Value) (dp da : Addr) (es : Array DictEntry) (n : Nat) : Prop where
  pm : mg "PARTS" = some (.ref dp)
  am : mg "ANSWERS" = some (.ref da)
  pd : KDict K w dp es n
  pl : PySem.W.KeysLit w.params es.toList
  no : ∀ z, partsOf z = none → PySem.W.nsIn K dp z = some none
  yes : ∀ z ps, partsOf z = some ps → ∃ ta, PySem.W.nsIn K dp z = some (some (.ref ta)) ∧ ∀ H : Hp, SqT K H ta (ps.map V.str)
  an : ∀ H : Hp, SqT K H da [V.str "consent", V.str "refuse"]
theorem parts_len {z : Str} {ps : List Str} (h : partsOf z = some ps) : ps.length ≤ 3 ∧ ((z = "consent" ∨ z = "refuse") → ps = (["place", "place"] : List Str)) := by
  unfold partsOf at h
  split at h
  · rename_i e; cases h; subst e; exact ⟨by decide, by decide⟩
  split at h
  · rename_i e; cases h; subst e; exact ⟨by decide, by decide⟩
  split at h
  · rename_i e; cases h; subst e; exact ⟨by decide, by decide⟩
  split at h
  · rename_i e; cases h; subst e; exact ⟨by decide, by decide⟩
  split at h
  · cases h; exact ⟨by decide, fun _ => rfl⟩
  split at h
  · cases h; exact ⟨by decide, fun _ => rfl⟩
  split at h
  · rename_i e; cases h; subst e; exact ⟨by decide, by decide⟩
  · cases h
section
variable {P : Program} {w : World} {K : PySem.W.Frag} {mg : Str → Option Value} {base : Heap} {C fI pN fN : Addr} {mc : Value} {fdN : FuncData}
/-! ### is_fact -/
abbrev nIsFact : List Str := ["value", "forest", "kind", "parts", "at", "part"]
def spIsFact (C : Addr) : Sp := fun vs H Q _ => ∃ (d g a : Addr) (v : V) (x : PyData) (rs : List FRow), vs = [v, .ref a] ∧ FoAt C H a rs ∧ Dk d g H v x ∧ ∀ H', Ext H H' → Q (.bl (factB (fNames rs) x)) H'
theorem scIsFact : FnScope nIsFact ["value", "forest"] (defScope sIsFact) := ⟨rfl, rfl, rfl, by decide +kernel, rfl, by decide +kernel, by decide +kernel⟩
theorem ok_isFact {f f3 dp da : Addr} {fd fd3 : FuncData} {es : Array DictEntry} {n : Nat} (F : Fun K "is_fact" "is_fact" sIsFact f fd) (T : Names mg) (PA_ : Parts K w mg dp da es n)
    (GP : FnOk P w K mg base CX0 3 f3 fd3 ["part", "value", "forest"] (spPart C)) (bP : Binds K fd3 ["part", "value", "forest"] []) (kP : PySem.W.keepIn K (.ref f3) = true) (mP : mg "is_part" = some (.ref f3)) :
    FnOk P w K mg base CX0 4 f fd ["value", "forest"] (spIsFact C) := by
  refine F.ok scIsFact (fun vs H Q E h => ?_) (fun cdv A outer s H vs Q E hr h => ?_)
  · obtain ⟨d, g, a, v, x, rs, rfl, _⟩ := h
    rfl
  · obtain ⟨d, g, a, v, x, rs, rfl, hF, hv, k⟩ := h
    have hu := hu_of hr
    have nd := scIsFact.nd
    have hPm := PA_.pm
    have hAm := PA_.am
    have hPD := PA_.pd
    refine ⟨_, pss_cons (ps_if (PW.pt (pw_or (pt_not (pt_val (pe_callB call_isi rfl T.isi (by decide +kernel) (pa_cons (pv 0) (pa_cons (pe_bltn (v := .ty "tuple") rfl T.tuple (by decide +kernel) rfl) pa_nil))))) (pw_or1 (pt_cmpR op_eq (pe_callB call_len_seq rfl T.len PySem.boot_len (pa_cons (pv 0) pa_nil)) pe_int (nomark _))))) (pss_one (ps_ret pe_bl)) pss_nil)
(pss_cons (ps_set (i := 2) nd rfl (.inl rfl) (pe_ix ix_tup (pv 0) pe_int (fun _ _ => rfl)))
(pss_cons (ps_if (PW.pt (pw_or (pt_not (pt_val (pe_callB call_isi rfl T.isi (by decide +kernel) (pa_cons (pv 2) (pa_cons (pe_bltn (v := .ty "str") rfl T.str (by decide +kernel) rfl) pa_nil))))) (pw_or1 (pt_cmpR (op_notIn_kd hPD) (pv 2) (pe_glob (v := .ref dp) rfl hPm rfl) rfl)))) (pss_one (ps_ret pe_bl)) pss_nil)
(pss_cons (ps_set (i := 3) nd rfl (.inl rfl) (pe_ix (r := rIxD K w) ix_kdict (pe_glob (v := .ref dp) rfl hPm rfl) (pv 2) (fun _ _ => rfl)))
(pss_cons (ps_if (pt_cmpR op_ne (pe_callB call_len_seq rfl T.len PySem.boot_len (pa_cons (pv 0) pa_nil)) (pe_op op_add (pe_callB call_len_seq rfl T.len PySem.boot_len (pa_cons (pv 3) pa_nil)) pe_int) (nomark _)) (pss_one (ps_ret pe_bl)) pss_nil)
(pss_cons (ps_if (pt_not (pt_val (pe_callB (cr_all rfl) rfl T.all (by decide +kernel) (pa_cons (pe_lc (own := [("at", 4), ("part", 5)]) (g := gTup K 2 (gCons (gName 4) (gCons (gName 5) gNil))) (tt := tYes) rfl nd (Gs.pi_enumS (by decide) (by decide) rfl T.enum (pa_cons (pv 3) pa_nil)) (blkOk_by (N := nIsFact) (sc := defScope sIsFact) (by decide +kernel))
(fun _ _ _ _ _ => (by exact (pg_tup rfl (pgs_cons (pg_name (i := 4) nd rfl (.inl rfl)) (pgs_cons (pg_name (i := 5) nd rfl (.inl rfl)) pgs_nil))))) (fun _ _ _ _ _ => pts_nil) (fun _ _ _ _ _ => pe_call GP hr rfl mP kP bP .nil pass0 (pa_cons (pv 5) (pa_cons (pe_ix (r := rIxT K) ix_tup (pv 0) (pv 4) (fun _ _ => rfl)) (pa_cons (pv 1) pa_nil))))) pa_nil)))) (pss_one (ps_ret pe_bl)) pss_nil)
(pss_one (ps_ret (pe_or (pe_cmpR op_notIn_seq (pv 2) (pe_glob (v := .ref da) rfl hAm rfl) rfl) (pe_one (pe_cmpR op_lt (pe_ix ix_tup (pv 0) pe_int (fun _ _ => rfl)) (pe_ix ix_tup (pv 0) pe_int (fun _ _ => rfl)) (nomark _))))))))))), ?_⟩
    cases hv with
    | non => exact ⟨_, rfl, _, _, _, _, false, rfl, .ty _, TyT.non.x, kit_ty (by decide +kernel), false, rfl, iteT (k _ Ext.refl)⟩
    | bl b => exact ⟨_, rfl, _, _, _, _, false, rfl, .ty _, (TyT.bl b).x, kit_ty (by decide +kernel), false, rfl, iteT (k _ Ext.refl)⟩
    | int i => exact ⟨_, rfl, _, _, _, _, false, rfl, .ty _, (TyT.int i).x, kit_ty (by decide +kernel), false, rfl, iteT (k _ Ext.refl)⟩
    | str z => exact ⟨_, rfl, _, _, _, _, false, rfl, .ty _, (TyT.str z).x, kit_ty (by decide +kernel), false, rfl, iteT (k _ Ext.refl)⟩
    | lst e _ _ _ => exact ⟨_, rfl, _, _, _, _, false, rfl, .ty _, (TyT.lst e).x, kit_ty (by decide +kernel), false, rfl, iteT (k _ Ext.refl)⟩
    | dct e _ _ => exact ⟨_, rfl, _, _, _, _, false, rfl, .ty _, (TyT.dct e).x, kit_ty (by decide +kernel), false, rfl, iteT (k _ Ext.refl)⟩
    | @tup p xs ds hp n1 n2 hall =>
    refine ⟨_, rfl, _, _, _, _, true, rfl, .ty _, (TyT.tup hp).x, kit_ty (by decide +kernel), true, rfl, iteF ?_⟩
    refine ⟨_, rfl, p, _, rfl, .inr (SqT.of hp), rfl, _, rfl, ?_⟩
    cases hall with
    | nil => exact iteT (k _ Ext.refl)
    | @cons v0 vr x0 dr h0 hr_ =>
    refine iteF ?_
    have a0 : atI (v0 :: vr) 0 = some v0 := (show atI (v0 :: vr) ((0 : Nat) : Int) = _ from atI_nat rfl)
    refine ⟨_, rfl, p, _, _, _, rfl, rfl, SqT.of hp, a0, ?_⟩
    have no : (∀ z, x0 ≠ .str z) → factB (fNames rs) (.tuple (x0 :: dr)) = false := fun h => by
      cases x0 with
      | str z => exact absurd rfl (h z)
      | _ => rfl
    cases h0 with
    | non => exact ⟨_, rfl, _, _, _, _, false, rfl, .ty _, TyT.non.x, kit_ty (by decide +kernel), false, rfl, iteT (k _ Ext.refl)⟩
    | bl b => exact ⟨_, rfl, _, _, _, _, false, rfl, .ty _, (TyT.bl b).x, kit_ty (by decide +kernel), false, rfl, iteT (k _ Ext.refl)⟩
    | int i => exact ⟨_, rfl, _, _, _, _, false, rfl, .ty _, (TyT.int i).x, kit_ty (by decide +kernel), false, rfl, iteT (k _ Ext.refl)⟩
    | lst e _ _ _ => exact ⟨_, rfl, _, _, _, _, false, rfl, .ty _, (TyT.lst e).x, kit_ty (by decide +kernel), false, rfl, iteT (k _ Ext.refl)⟩
    | tup e _ _ _ => exact ⟨_, rfl, _, _, _, _, false, rfl, .ty _, (TyT.tup e).x, kit_ty (by decide +kernel), false, rfl, iteT (k _ Ext.refl)⟩
    | dct e _ _ => exact ⟨_, rfl, _, _, _, _, false, rfl, .ty _, (TyT.dct e).x, kit_ty (by decide +kernel), false, rfl, iteT (k _ Ext.refl)⟩
    | str z =>
    refine ⟨_, rfl, _, _, _, _, true, rfl, .ty _, (TyT.str z).x, kit_ty (by decide +kernel), true, rfl, iteF ?_⟩
    have ek : factB (fNames rs) (.tuple (.str z :: dr)) = factR (fNames rs) z dr := rfl
    rw [ek] at k
    cases hps : partsOf z with
    | none =>
      refine ⟨_, rfl, z, none, rfl, rfl, PA_.no z hps, _, rfl, iteT ?_⟩
      have : factR (fNames rs) z dr = false := by unfold factR; rw [hps]
      rw [this] at k
      exact k _ Ext.refl
    | some ps =>
    obtain ⟨ta, hta, hT⟩ := PA_.yes z ps hps
    obtain ⟨pl3, pans⟩ := parts_len hps
    refine ⟨_, rfl, z, _, rfl, rfl, hta, _, rfl, iteF ?_⟩
    refine ⟨_, rfl, dp, z, .ref ta, rfl, rfl, ⟨es, n, _, PA_.pd.at_, PA_.pl, hta, rfl⟩, ?_⟩
    have ln := DkAll.len hr_
    have er : factR (fNames rs) z dr = (decide (dr.length = ps.length) && ((List.zipWith (partB (fNames rs)) ps dr).all id && (!decide (z = "consent" ∨ z = "refuse") || ltB dr))) := by unfold factR; rw [hps]
    rw [er] at k
    -- how many
    refine ⟨_, rfl, p, _, rfl, .inr (SqT.of hp), _, rfl, ta, _, rfl, .inr (hT H), _, _, rfl, rfl, rfl, _, rfl, ?_⟩
    have evl : decide (V.int (((V.str z :: vr).length : Nat) : Int) = V.int ((((ps.map V.str).length : Nat) : Int) + 1)) = decide (dr.length = ps.length) := by
      refine decide_eq_decide.mpr ⟨fun e => ?_, fun e => ?_⟩
      · injection e with e
        rw [List.length_cons, List.length_map] at e
        omega
      · congr 1
        rw [List.length_cons, List.length_map]
        omega
    show if (!decide (V.int (((V.str z :: vr).length : Nat) : Int) = V.int ((((ps.map V.str).length : Nat) : Int) + 1))) = true then _ else _
    rw [evl]
    by_cases hlen : dr.length = ps.length
    case neg =>
      rw [decide_eq_false hlen] at k ⊢
      exact iteT (k _ Ext.refl)
    rw [decide_eq_true hlen] at k ⊢
    refine iteF ?_
    -- its parts
    refine ⟨_, rfl, ta, _, rfl, hT H, fun D hD => ?_⟩
    have zl : (List.zipWith (partB (fNames rs)) ps dr).length = ps.length := by rw [List.length_zipWith]; omega
    refine lc_it Gs.walk_enumS (fun i H' => H' D = some (.lst (((List.zipWith (partB (fNames rs)) ps dr).take i).map V.bl)) ∧ Ext H H') ⟨upd_same, Ext.new hD⟩ (fun i H' _ _ => hT H') ?_ ?_
    · rintro i x H2 H2' hi ⟨d2, k2⟩ ⟨t, x1, x2, rfl, ht, rfl, e1, e2⟩
      cases e1
      have e2 : (ps.map V.str)[i]? = some x2 := e2
      rw [List.getElem?_map] at e2
      obtain ⟨q, hq, rfl⟩ := Option.map_eq_some_iff.mp e2
      have il := (List.getElem?_eq_some_iff.mp hq).1
      have hvi := List.getElem?_eq_getElem (l := vr) (i := i) (by omega)
      generalize vr[i] = vi at hvi
      obtain ⟨xi, hxi, dki⟩ := hr_.get hvi
      have k3 := k2.trans (Ext.new (o := .tup [.int (1 + (i : Nat)), .str q]) ht)
      have d3 := new_same (o := .tup [.int (1 + (i : Nat)), .str q]) ht _ _ d2
      refine ⟨t, _, rfl, SqT.of upd_same, rfl, _, _, rfl, _, _, rfl, rfl, rfl, yes_of ?_⟩
      generalize upd H2 t (.tup [.int (1 + (i : Nat)), .str q]) = H3 at k3 d3 ⊢
      have ai : atI (V.str z :: vr) (1 + ((i : Nat) : Int)) = some vi := by
        rw [show 1 + ((i : Nat) : Int) = ((i + 1 : Nat) : Int) by omega]
        exact atI_nat hvi
      refine ⟨_, rfl, _, rfl, _, rfl, p, _, _, _, rfl, rfl, SqT.of (k3 _ _ hp), ai, _, rfl, d, g, a, q, vi, xi, rs, rfl, hF.ext k3, dki.kp (Kp.of k3), fun H4 k4 => ?_⟩
      refine ⟨_, k4 _ _ d3, ?_, ?_, fun y o e => ?_⟩
      · rw [List.length_map, List.length_take]
        exact small1000 (by omega)
      · have hzi : (List.zipWith (partB (fNames rs)) ps dr)[i]? = some (partB (fNames rs) q xi) := by rw [List.getElem?_zipWith, hq, hxi]
        rw [upd_same, List.take_add_one, hzi, List.map_append]
        rfl
      · rw [upd_ne (ne_of_none e hD)]
        exact k4 _ _ (k3 _ _ e)
    rintro H2 ⟨d2, k2⟩
    rw [List.length_map, List.take_of_length_le (by omega)] at d2
    refine ⟨D, _, rfl, SqL.of d2, _, rfl, ?_⟩
    cases hall : (List.zipWith (partB (fNames rs)) ps dr).all id with
    | false =>
      rw [hall] at k
      exact iteT (k _ k2)
    | true =>
    rw [hall] at k
    refine iteF ?_
    refine ⟨_, rfl, da, _, rfl, .inr (PA_.an H2), rfl, rfl, _, rfl, ?_⟩
    by_cases hz : z = "consent" ∨ z = "refuse"
    · have e1 : inV (V.str z) [V.str "consent", V.str "refuse"] = true := by
        rcases hz with rfl | rfl
        · decide +kernel
        · decide +kernel
      rw [e1]
      refine iteF ?_
      have eps := pans hz
      subst eps
      match dr, hlen, hall, hr_, k with
      | [y1, y2], _, hall, hr_, k =>
        have h12 : isN 20 y1 = true ∧ isN 20 y2 = true := by
          have : ((partB (fNames rs) "place" y1) && (partB (fNames rs) "place" y2 && true)) = true := hall
          rw [Bool.and_true, Bool.and_eq_true] at this
          exact this
        obtain ⟨h1, h2⟩ := h12
        cases hr_ with
        | @cons w1 _ _ _ g1 hr_ =>
        cases hr_ with
        | @cons w2 _ _ _ g2 hr_ =>
        cases hr_
        cases y1 with
        | int i1 =>
          cases y2 with
          | int i2 =>
            cases g1
            cases g2
            rw [decide_eq_true hz] at k
            have b2 : atI [V.str z, V.int i1, V.int i2] 2 = some (V.int i2) := (show atI [V.str z, V.int i1, V.int i2] ((2 : Nat) : Int) = _ from atI_nat rfl)
            have b1 : atI [V.str z, V.int i1, V.int i2] 1 = some (V.int i1) := (show atI [V.str z, V.int i1, V.int i2] ((1 : Nat) : Int) = _ from atI_nat rfl)
            exact ⟨_, rfl, p, _, _, _, rfl, rfl, SqT.of (k2 _ _ hp), b2, _, rfl, p, _, _, _, rfl, rfl, SqT.of (k2 _ _ hp), b1, _, _, rfl, rfl, k _ k2⟩
          | _ => cases h2
        | _ => cases h1
    · have e1 : inV (V.str z) [V.str "consent", V.str "refuse"] = false := by
        have : inV (V.str z) ((["consent", "refuse"] : List Str).map V.str) = decide (z ∈ (["consent", "refuse"] : List Str)) := inV_strs z _
        refine this.trans (decide_eq_false fun h => hz ?_)
        simpa using h
      rw [e1]
      refine iteT ?_
      rw [decide_eq_false hz] at k
      exact k _ k2
end
end Lw

set_option Elab.async false
set_option linter.all false
set_option maxRecDepth 100000
set_option maxHeartbeats 4000000
namespace Lw
open L2 hiding Ext
open PySem PySem.Spec PyProof.Rows Gn Gr Gk Go Gt Gf Gu
theorem factR_nil {ws : List Str} {z : Str} : factR ws z [] = false := by
  unfold factR
  cases h : partsOf z with
  | none => rfl
  | some ps =>
    cases ps with
    | nil =>
      exfalso
      unfold partsOf at h
      repeat (split at h; · cases h)
      cases h
    | cons p r => rfl
theorem factR_some {ws : List Str} {z : Str} {r : List PyData} {ps : List Str} (h : partsOf z = some ps) : factR ws z r = (decide (r.length = ps.length) && ((List.zipWith (partB ws) ps r).all id && (!decide (z = "consent" ∨ z = "refuse") || ltB r))) := by
  unfold factR
  rw [h]
section
variable {P : Program} {w : World} {K : PySem.W.Frag} {mg : Str → Option Value} {base : Heap} {C fI pN fN : Addr} {mc : Value} {fdN : FuncData}
/-! ### _law_is_number -/
abbrev nLNum : List Str := ["_law_thing", "_law_most"]
def spLNum : Sp := fun vs H Q _ => ∃ (d g : Addr) (v : V) (x : PyData) (m : Int), vs = [v, .int m] ∧ Dk d g H v x ∧ Q (.bl (isN m x)) H
theorem scLNum : FnScope nLNum ["_law_thing", "_law_most"] (defScope sLIsNumber) := ⟨rfl, rfl, rfl, by decide +kernel, rfl, by decide +kernel, by decide +kernel⟩
theorem ok_lnum {f : Addr} {fd : FuncData} (F : Fun K "_law_is_number" "_law_is_number" sLIsNumber f fd) (T : Names mg) : FnOk P w K mg base CX0 1 f fd ["_law_thing", "_law_most"] spLNum := by
  refine F.ok scLNum (fun vs H Q E h => ?_) (fun cdv A outer s H vs Q E hr h => ?_)
  · obtain ⟨d, g, v, x, m, rfl, _⟩ := h
    rfl
  · obtain ⟨d, g, v, x, m, rfl, hv, k⟩ := h
    refine ⟨_, pss_one (ps_ret (pe_and (pe_callB call_isi rfl T.isi (by decide +kernel) (pa_cons (pv 0) (pa_cons (pe_bltn (v := .ty "int") rfl T.int (by decide +kernel) rfl) pa_nil))) (pe_and (pe_not (pe_callB call_isi rfl T.isi (by decide +kernel) (pa_cons (pv 0) (pa_cons (pe_bltn (v := .ty "bool") rfl T.bool (by decide +kernel) rfl) pa_nil)))) (pe_one (pe_chain op_le op_le pe_int (pv 0) (pv 1)))))), ?_⟩
    cases hv with
    | int i =>
      refine ⟨_, rfl, _, _, _, _, true, rfl, .ty _, (TyT.int i).x, kit_ty (by decide +kernel), true, rfl, iteT ?_⟩
      refine ⟨_, rfl, _, _, _, _, false, rfl, .ty _, (TyT.int i).x, kit_ty (by decide +kernel), false, rfl, true, rfl, iteT ?_⟩
      refine ⟨_, rfl, _, _, rfl, rfl, _, rfl, ?_⟩
      refine ite2 (fun e => ?_) (fun e => ?_)
      · refine ⟨_, rfl, _, _, rfl, rfl, ?_⟩
        have : isN m (.int i) = decide (i ≤ m) := decide_eq_decide.mpr ⟨fun h => h.2, fun h => ⟨of_decide_eq_true e, h⟩⟩
        show Q (.bl (decide (i ≤ m))) H
        rw [← this]
        exact k
      · have : isN m (.int i) = false := decide_eq_false fun h => e (decide_eq_true h.1)
        rw [this] at k
        exact k
    | bl b => exact ⟨_, rfl, _, _, _, _, true, rfl, .ty _, (TyT.bl b).x, kit_ty (by decide +kernel), true, rfl, iteT ⟨_, rfl, _, _, _, _, true, rfl, .ty _, (TyT.bl b).x, kit_ty (by decide +kernel), true, rfl, false, rfl, iteF k⟩⟩
    | non => exact ⟨_, rfl, _, _, _, _, false, rfl, .ty _, TyT.non.x, kit_ty (by decide +kernel), false, rfl, iteF k⟩
    | str z => exact ⟨_, rfl, _, _, _, _, false, rfl, .ty _, (TyT.str z).x, kit_ty (by decide +kernel), false, rfl, iteF k⟩
    | lst e _ _ _ => exact ⟨_, rfl, _, _, _, _, false, rfl, .ty _, (TyT.lst e).x, kit_ty (by decide +kernel), false, rfl, iteF k⟩
    | tup e _ _ _ => exact ⟨_, rfl, _, _, _, _, false, rfl, .ty _, (TyT.tup e).x, kit_ty (by decide +kernel), false, rfl, iteF k⟩
    | dct e _ _ => exact ⟨_, rfl, _, _, _, _, false, rfl, .ty _, (TyT.dct e).x, kit_ty (by decide +kernel), false, rfl, iteF k⟩
/-! ### _law_is_fact -/
abbrev nLFa : List Str := ["_law_names", "_law_thing", "_law_word", "_law_size"]
def spLFa : Sp := fun vs H Q _ => ∃ (d g ln : Addr) (v : V) (x : PyData) (ws : List Str), vs = [.ref ln, v] ∧ H ln = some (.lst (ws.map V.str)) ∧ Dk d g H v x ∧ ∀ H', Ext H H' → Q (.bl (factB ws x)) H'
theorem scLFa : FnScope nLFa ["_law_names", "_law_thing"] (defScope sLIsFact) := ⟨rfl, rfl, rfl, by decide +kernel, rfl, by decide +kernel, by decide +kernel⟩
/-- isinstance(.., str) of a value -/
def isS : PyData → Bool
  | .str _ => true
  | _ => false
theorem Dk.isStr {d g : Addr} {H : Hp} {v : V} {x : PyData} (h : Dk d g H v x) : ∃ T : String, TyX K H v (.type T) ∧ PySem.W.kitOne K (.type T) (.type "str") = some (isS x) := by
  cases h with
  | non => exact ⟨_, TyT.non.x, kit_ty (show kitB "NoneType" "str" = some false by decide +kernel)⟩
  | bl b => exact ⟨_, (TyT.bl b).x, kit_ty (show kitB "bool" "str" = some false by decide +kernel)⟩
  | int i => exact ⟨_, (TyT.int i).x, kit_ty (show kitB "int" "str" = some false by decide +kernel)⟩
  | str z => exact ⟨_, (TyT.str z).x, kit_ty (show kitB "str" "str" = some true by decide +kernel)⟩
  | lst e _ _ _ => exact ⟨_, (TyT.lst e).x, kit_ty (show kitB "list" "str" = some false by decide +kernel)⟩
  | tup e _ _ _ => exact ⟨_, (TyT.tup e).x, kit_ty (show kitB "tuple" "str" = some false by decide +kernel)⟩
  | dct e _ _ => exact ⟨_, (TyT.dct e).x, kit_ty (show kitB "dict" "str" = some false by decide +kernel)⟩
theorem ok_lfa {f fN : Addr} {fd fdN : FuncData} (F : Fun K "_law_is_fact" "_law_is_fact" sLIsFact f fd) (T : Names mg)
    (GN : FnOk P w K mg base CX0 1 fN fdN ["_law_thing", "_law_most"] spLNum) (bN : Binds K fdN ["_law_thing", "_law_most"] []) (kN : PySem.W.keepIn K (.ref fN) = true) (mN : mg "_law_is_number" = some (.ref fN)) :
    FnOk P w K mg base CX0 2 f fd ["_law_names", "_law_thing"] spLFa := by
  refine F.ok scLFa (fun vs H Q E h => ?_) (fun cdv A outer s H vs Q E hr h => ?_)
  · obtain ⟨d, g, ln, v, x, ws, rfl, _⟩ := h
    rfl
  · obtain ⟨d, g, ln, v, x, ws, rfl, hn, hv, k⟩ := h
    have hu := hu_of hr
    have nd := scLFa.nd
    refine ⟨_, pss_cons (ps_if (PW.pt (pw_or (pt_not (pt_val (pe_callB call_isi rfl T.isi (by decide +kernel) (pa_cons (pv 1) (pa_cons (pe_bltn (v := .ty "tuple") rfl T.tuple (by decide +kernel) rfl) pa_nil))))) (pw_or (pt_cmpR op_lt (pe_callB call_len_seq rfl T.len PySem.boot_len (pa_cons (pv 1) pa_nil)) pe_int (nomark _)) (pw_or1 (pt_not (pt_val (pe_callB call_isi rfl T.isi (by decide +kernel) (pa_cons (pe_ix ix_tup (pv 1) pe_int (fun _ _ => rfl)) (pa_cons (pe_bltn (v := .ty "str") rfl T.str (by decide +kernel) rfl) pa_nil))))))))) (pss_one (ps_ret pe_bl)) pss_nil)
(pss_cons (ps_par (i := 2) (j := 3) (by rfl) nd rfl rfl (by decide) rfl rfl (pa_cons (pe_ix ix_tup (pv 1) pe_int (fun _ _ => rfl)) (pa_cons (pe_callB call_len_seq rfl T.len PySem.boot_len (pa_cons (pv 1) pa_nil)) pa_nil)) (by rfl))
(pss_cons (ps_if (pt_cmpR op_in_seq (pv 2) (pe_tup (pa_cons pe_str (pa_cons pe_str (pa_cons pe_str pa_nil)))) rfl) (pss_cons (ps_if (PW.pt (pw_or (pt_cmpR op_ne (pv 3) pe_int (nomark _)) (pw_or (pt_not (pt_val (pe_callB call_isi rfl T.isi (by decide +kernel) (pa_cons (pe_ix ix_tup (pv 1) pe_int (fun _ _ => rfl)) (pa_cons (pe_bltn (v := .ty "str") rfl T.str (by decide +kernel) rfl) pa_nil))))) (pw_or1 (pt_cmpR op_notIn_seq (pe_ix ix_tup (pv 1) pe_int (fun _ _ => rfl)) (pv 0) rfl))))) (pss_one (ps_ret pe_bl)) pss_nil)
(pss_one (ps_ret (pe_and (pe_call GN hr rfl mN kN bN .nil pass0 (pa_cons (pe_ix ix_tup (pv 1) pe_int (fun _ _ => rfl)) (pa_cons (pe_ifExp (pt_cmpR op_eq (pv 2) pe_str (nomark _)) pe_int pe_int) pa_nil))) (pe_one (pe_call GN hr rfl mN kN bN .nil pass0 (pa_cons (pe_ix ix_tup (pv 1) pe_int (fun _ _ => rfl)) (pa_cons (pe_op op_pow pe_int pe_int) pa_nil)))))))) pss_nil)
(pss_cons (ps_if (pt_cmpR op_eq (pv 2) pe_str (nomark _)) (pss_one (ps_ret (pe_and (pe_cmpR op_eq (pv 3) pe_int (nomark _)) (pe_and (pe_call GN hr rfl mN kN bN .nil pass0 (pa_cons (pe_ix ix_tup (pv 1) pe_int (fun _ _ => rfl)) (pa_cons pe_int pa_nil))) (pe_one (pe_call GN hr rfl mN kN bN .nil pass0 (pa_cons (pe_ix ix_tup (pv 1) pe_int (fun _ _ => rfl)) (pa_cons (pe_op op_pow pe_int pe_int) pa_nil)))))))) pss_nil)
(pss_cons (ps_if (pt_cmpR op_in_seq (pv 2) (pe_tup (pa_cons pe_str (pa_cons pe_str pa_nil))) rfl) (pss_cons (ps_if (PW.pt (pw_or (pt_cmpR op_ne (pv 3) pe_int (nomark _)) (pw_or1 (pt_not (pt_val (pe_call GN hr rfl mN kN bN .nil pass0 (pa_cons (pe_ix ix_tup (pv 1) pe_int (fun _ _ => rfl)) (pa_cons pe_int pa_nil)))))))) (pss_one (ps_ret pe_bl)) pss_nil)
(pss_one (ps_ret (pe_and (pe_call GN hr rfl mN kN bN .nil pass0 (pa_cons (pe_ix ix_tup (pv 1) pe_int (fun _ _ => rfl)) (pa_cons pe_int pa_nil))) (pe_one (pe_cmpR op_lt (pe_ix ix_tup (pv 1) pe_int (fun _ _ => rfl)) (pe_ix ix_tup (pv 1) pe_int (fun _ _ => rfl)) (nomark _))))))) pss_nil)
(pss_one (ps_ret (pe_and (pe_cmpR op_eq (pv 2) pe_str (nomark _)) (pe_and (pe_cmpR op_eq (pv 3) pe_int (nomark _)) (pe_one (pe_call GN hr rfl mN kN bN .nil pass0 (pa_cons (pe_ix ix_tup (pv 1) pe_int (fun _ _ => rfl)) (pa_cons pe_int pa_nil)))))))))))), ?_⟩
    cases hv with
    | non => exact ⟨_, rfl, _, _, _, _, false, rfl, .ty _, TyT.non.x, kit_ty (by decide +kernel), false, rfl, iteT (k _ Ext.refl)⟩
    | bl b => exact ⟨_, rfl, _, _, _, _, false, rfl, .ty _, (TyT.bl b).x, kit_ty (by decide +kernel), false, rfl, iteT (k _ Ext.refl)⟩
    | int i => exact ⟨_, rfl, _, _, _, _, false, rfl, .ty _, (TyT.int i).x, kit_ty (by decide +kernel), false, rfl, iteT (k _ Ext.refl)⟩
    | str z => exact ⟨_, rfl, _, _, _, _, false, rfl, .ty _, (TyT.str z).x, kit_ty (by decide +kernel), false, rfl, iteT (k _ Ext.refl)⟩
    | lst e _ _ _ => exact ⟨_, rfl, _, _, _, _, false, rfl, .ty _, (TyT.lst e).x, kit_ty (by decide +kernel), false, rfl, iteT (k _ Ext.refl)⟩
    | dct e _ _ => exact ⟨_, rfl, _, _, _, _, false, rfl, .ty _, (TyT.dct e).x, kit_ty (by decide +kernel), false, rfl, iteT (k _ Ext.refl)⟩
    | @tup p xs ds hp n1 n2 hall =>
    refine ⟨_, rfl, _, _, _, _, true, rfl, .ty _, (TyT.tup hp).x, kit_ty (by decide +kernel), true, rfl, iteF ?_⟩
    refine ⟨_, rfl, p, _, rfl, .inr (SqT.of hp), _, _, rfl, rfl, _, rfl, ?_⟩
    cases hall with
    | nil =>
      rw [decide_eq_true (show (([] : List V).length : Int) < 2 by decide)]
      exact iteT (k _ Ext.refl)
    | @cons v0 vr x0 dr h0 hr_ =>
    have ln2 := DkAll.len hr_
    cases dr with
    | nil =>
      obtain rfl : vr = [] := List.length_eq_zero_iff.mp ln2
      rw [decide_eq_true (show (([v0] : List V).length : Int) < 2 by show (1 : Int) < 2; decide)]
      have : factB ws (.tuple [x0]) = false := by
        cases x0 with
        | str z => exact factR_nil
        | _ => rfl
      rw [this] at k
      exact iteT (k _ Ext.refl)
    | cons x1 dr' =>
    rw [decide_eq_false (show ¬ (((v0 :: vr).length : Nat) : Int) < 2 by rw [List.length_cons, ln2, List.length_cons]; omega)]
    refine iteF ?_
    have a0 : atI (v0 :: vr) 0 = some v0 := (show atI (v0 :: vr) ((0 : Nat) : Int) = _ from atI_nat rfl)
    obtain ⟨T0, t1, t2⟩ := h0.isStr (K := K)
    refine ⟨_, rfl, p, _, _, _, rfl, rfl, SqT.of hp, a0, _, _, _, _, _, rfl, .ty _, t1, t2, _, rfl, ?_⟩
    cases h0 with
    | str z =>
      refine iteF ?_
      have ek : factB ws (.tuple (.str z :: x1 :: dr')) = factR ws z (x1 :: dr') := rfl
      rw [ek] at k
      refine ⟨_, rfl, p, _, _, _, rfl, rfl, SqT.of hp, a0, _, rfl, p, _, rfl, .inr (SqT.of hp), _, _, rfl, ?_⟩
      dsimp only [List.set]
      refine ⟨_, rfl, by show 3 ≤ sizeLine; decide, fun t ht => ?_⟩
      have k1 := Ext.new (o := .tup [.str "spender", .str "request", .str "deposit"]) ht
      refine ⟨t, _, rfl, .inr (SqT.of upd_same), rfl, rfl, _, rfl, ?_⟩
      generalize upd H t (.tup [.str "spender", .str "request", .str "deposit"]) = H1 at k1 ⊢
      have ein : inV (V.str z) [V.str "spender", V.str "request", V.str "deposit"] = decide (z ∈ (["spender", "request", "deposit"] : List Str)) := inV_strs z ["spender", "request", "deposit"]
      show if inV (V.str z) [V.str "spender", V.str "request", V.str "deposit"] = true then _ else _
      rw [ein]
      cases hr_ with
      | @cons v1 vr1 _ _ g1 hr1 =>
      have hn1 := k1 _ _ hn
      have hp1 := k1 _ _ hp
      have g1' := g1.kp (Kp.of k1)
      have a1 : atI (V.str z :: v1 :: vr1) 1 = some v1 := (show atI (V.str z :: v1 :: vr1) ((1 : Nat) : Int) = _ from atI_nat rfl)
      refine ite2 (fun hin => ?_) (fun hout => ?_)
      · have hin := of_decide_eq_true hin
        simp only [List.mem_cons, List.not_mem_nil, or_false] at hin
        obtain ⟨p1, m1, hps, hpm, hm1⟩ : ∃ (p1 : Str) (m1 : Int), partsOf z = some [p1, "account", "amount"] ∧ (∀ x, partB ws p1 x = isN m1 x) ∧ m1 = if z = "deposit" then 999 else 20 := by
          rcases hin with rfl | rfl | rfl
          · exact ⟨"place", 20, rfl, fun _ => rfl, rfl⟩
          · exact ⟨"place", 20, rfl, fun _ => rfl, rfl⟩
          · exact ⟨"mark", 999, rfl, fun _ => rfl, rfl⟩
        have na : decide (z = "consent" ∨ z = "refuse") = false := by
          rcases hin with rfl | rfl | rfl <;> decide +kernel
        rw [factR_some hps, na] at k
        refine ⟨_, rfl, rfl, _, rfl, ?_⟩
        show if (!decide (V.int (((V.str z :: v1 :: vr1).length : Nat) : Int) = V.int 4)) = true then _ else _
        have l4 : decide (V.int (((V.str z :: v1 :: vr1).length : Nat) : Int) = V.int 4) = decide ((x1 :: dr').length = 3) := decide_eq_decide.mpr ⟨fun e => by
          injection e with e
          rw [List.length_cons, ln2] at e
          omega, fun e => by
          congr 1
          rw [List.length_cons, ln2, e]
          rfl⟩
        rw [l4]
        by_cases hl : (x1 :: dr').length = 3
        case neg =>
          rw [show decide ((x1 :: dr').length = ([p1, "account", "amount"] : List Str).length) = false from decide_eq_false hl] at k
          rw [decide_eq_false hl]
          exact iteT (k _ k1)
        rw [show decide ((x1 :: dr').length = ([p1, "account", "amount"] : List Str).length) = true from decide_eq_true hl] at k
        rw [decide_eq_true hl]
        refine iteF ?_
        cases hr1 with
        | nil => cases hl
        | @cons v2 _ x2 _ g2 hr2 =>
        cases hr2 with
        | nil => cases hl
        | @cons v3 _ x3 _ g3 hr3 =>
        cases hr3 with
        | cons => simp at hl
        | nil =>
        have g2' := g2.kp (Kp.of k1)
        have g3' := g3.kp (Kp.of k1)
        have a2 : atI [V.str z, v1, v2, v3] 2 = some v2 := (show atI [V.str z, v1, v2, v3] ((2 : Nat) : Int) = _ from atI_nat rfl)
        have a3 : atI [V.str z, v1, v2, v3] 3 = some v3 := (show atI [V.str z, v1, v2, v3] ((3 : Nat) : Int) = _ from atI_nat rfl)
        have ez : (List.zipWith (partB ws) [p1, "account", "amount"] [x1, x2, x3]).all id = (isN m1 x1 && (isA ws x2 && (isN 1000000000 x3 && true))) := by
          show (partB ws p1 x1 && (partB ws "account" x2 && (partB ws "amount" x3 && true))) = _
          rw [hpm]
          rfl
        rw [ez, Bool.and_true, Bool.not_false, Bool.true_or, Bool.and_true, Bool.true_and] at k
        obtain ⟨T2, t3, t4⟩ := g2'.isStr (K := K)
        refine ⟨_, rfl, p, _, _, _, rfl, rfl, SqT.of hp1, a2, _, _, _, _, _, rfl, .ty _, t3, t4, _, rfl, ?_⟩
        cases g2 with
        | str y =>
          refine iteF ?_
          refine ⟨_, rfl, p, _, _, _, rfl, rfl, SqT.of hp1, a2, _, rfl, ln, _, rfl, .inl (SqL.of hn1), rfl, strs_flat _, _, rfl, ?_⟩
          show if (!inV (V.str y) (ws.map V.str)) = true then _ else _
          rw [inV_strs]
          have ea : isA ws (.str y) = decide (y ∈ ws) := rfl
          rw [ea] at k
          by_cases hy : y ∈ ws
          case neg =>
            rw [decide_eq_false hy, Bool.false_and, Bool.and_false] at k
            rw [decide_eq_false hy]
            exact iteT (k _ k1)
          rw [decide_eq_true hy, Bool.true_and] at k
          rw [decide_eq_true hy]
          refine iteF ?_
          have last : isN m1 x1 = true → ∀ mm : Int, mm = 1000000000 → Q (.bl (isN mm x3)) H1 := fun h mm e => by
            rw [h, Bool.true_and] at k
            rw [e]
            exact k _ k1
          have first : isN m1 x1 = false → Q (.bl false) H1 := fun h => by
            rw [h, Bool.false_and] at k
            exact k _ k1
          refine ⟨_, rfl, p, _, _, _, rfl, rfl, SqT.of hp1, a1, _, rfl, rfl, _, rfl, ?_⟩
          by_cases hd : z = "deposit"
          · rw [if_pos hd] at hm1
            subst hm1
            rw [decide_eq_true (by rw [hd] : V.str z = V.str "deposit")]
            refine iteT ?_
            refine ⟨d, g, v1, x1, 999, rfl, g1', ?_⟩
            cases h1 : isN 999 x1 with
            | false => exact ⟨false, rfl, iteF (first h1)⟩
            | true =>
              refine ⟨true, rfl, iteT ?_⟩
              exact ⟨_, rfl, p, _, _, _, rfl, rfl, SqT.of hp1, a3, _, _, rfl, rfl, ⟨by decide, by decide, by decide⟩, d, g, v3, x3, _, rfl, g3', last h1 _ (by decide +kernel)⟩
          · rw [if_neg hd] at hm1
            subst hm1
            rw [decide_eq_false (fun e => hd (by injection e) : ¬ V.str z = V.str "deposit")]
            refine iteF ?_
            refine ⟨d, g, v1, x1, 20, rfl, g1', ?_⟩
            cases h1 : isN 20 x1 with
            | false => exact ⟨false, rfl, iteF (first h1)⟩
            | true =>
              refine ⟨true, rfl, iteT ?_⟩
              exact ⟨_, rfl, p, _, _, _, rfl, rfl, SqT.of hp1, a3, _, _, rfl, rfl, ⟨by decide, by decide, by decide⟩, d, g, v3, x3, _, rfl, g3', last h1 _ (by decide +kernel)⟩
        | _ =>
          have ea : ∀ b : Bool, (b && (false && isN 1000000000 x3)) = false := fun b => by cases b <;> rfl
          refine iteT ?_
          have := k _ k1
          simp only [isA, Bool.false_and, Bool.and_false] at this
          exact this
      · have hout : ¬ (z = "spender" ∨ z = "request" ∨ z = "deposit") := fun h => hout (decide_eq_true (by simpa using h))
        have lsz : ∀ n : Nat, decide (V.int (((V.str z :: v1 :: vr1).length : Nat) : Int) = V.int ((n + 1 : Nat) : Int)) = decide ((x1 :: dr').length = n) := fun n => decide_eq_decide.mpr ⟨fun e => by
          injection e with e
          rw [List.length_cons, ln2] at e
          omega, fun e => by
          congr 1
          rw [List.length_cons, ln2, e]⟩
        refine ⟨_, rfl, rfl, _, rfl, ?_⟩
        refine ite2 (fun e => ?_) (fun e1 => ?_)
        · obtain rfl : z = "release" := by have := of_decide_eq_true e; injection this
          rw [factR_some (ps := ["place", "amount"]) rfl, show decide ((("release" : Str) = "consent") ∨ (("release" : Str) = "refuse")) = false by decide +kernel] at k
          refine ⟨_, rfl, rfl, _, rfl, ?_⟩
          show if decide (V.int (((V.str "release" :: v1 :: vr1).length : Nat) : Int) = V.int ((2 + 1 : Nat) : Int)) = true then _ else _
          rw [lsz 2]
          by_cases hl : (x1 :: dr').length = 2
          case neg =>
            rw [show decide ((x1 :: dr').length = (["place", "amount"] : List Str).length) = false from decide_eq_false hl] at k
            rw [decide_eq_false hl]
            exact iteF (k _ k1)
          rw [show decide ((x1 :: dr').length = (["place", "amount"] : List Str).length) = true from decide_eq_true hl] at k
          rw [decide_eq_true hl]
          refine iteT ?_
          cases hr1 with
          | nil => cases hl
          | @cons v2 _ x2 _ g2 hr2 =>
          cases hr2 with
          | cons => simp at hl
          | nil =>
          have g2' := g2.kp (Kp.of k1)
          have a2 : atI [V.str "release", v1, v2] 2 = some v2 := (show atI [V.str "release", v1, v2] ((2 : Nat) : Int) = _ from atI_nat rfl)
          have ez : (List.zipWith (partB ws) ["place", "amount"] [x1, x2]).all id = (isN 20 x1 && (isN 1000000000 x2 && true)) := rfl
          rw [ez, Bool.and_true, Bool.not_false, Bool.true_or, Bool.and_true, Bool.true_and] at k
          refine ⟨_, rfl, p, _, _, _, rfl, rfl, SqT.of hp1, a1, d, g, v1, x1, 20, rfl, g1', ?_⟩
          cases h1 : isN 20 x1 with
          | false =>
            rw [h1, Bool.false_and] at k
            exact ⟨false, rfl, iteF (k _ k1)⟩
          | true =>
            rw [h1, Bool.true_and] at k
            refine ⟨true, rfl, iteT ?_⟩
            have last : ∀ mm : Int, mm = 1000000000 → Q (.bl (isN mm x2)) H1 := fun mm e => by
              rw [e]
              exact k _ k1
            exact ⟨_, rfl, p, _, _, _, rfl, rfl, SqT.of hp1, a2, _, _, rfl, rfl, ⟨by decide, by decide, by decide⟩, d, g, v2, x2, _, rfl, g2', last _ (by decide +kernel)⟩
        have n1 : z ≠ "release" := fun h => e1 (by rw [h]; exact decide_eq_true rfl)
        refine ⟨_, rfl, by show 2 ≤ sizeLine; decide, fun t ht => ?_⟩
        have k2 := k1.trans (Ext.new (o := .tup [.str "consent", .str "refuse"]) ht)
        refine ⟨t, _, rfl, .inr (SqT.of upd_same), rfl, rfl, _, rfl, ?_⟩
        generalize upd H1 t (.tup [.str "consent", .str "refuse"]) = H2 at k2 ⊢
        have ein : inV (V.str z) [V.str "consent", V.str "refuse"] = decide (z ∈ (["consent", "refuse"] : List Str)) := inV_strs z ["consent", "refuse"]
        show if inV (V.str z) [V.str "consent", V.str "refuse"] = true then _ else _
        rw [ein]
        have hp2 := k2 _ _ hp
        have g1'' := g1.kp (Kp.of k2)
        refine ite2 (fun hin => ?_) (fun hno => ?_)
        · have hin := of_decide_eq_true hin
          simp only [List.mem_cons, List.not_mem_nil, or_false] at hin
          have hps : partsOf z = some (["place", "place"] : List Str) := by rcases hin with rfl | rfl <;> rfl
          rw [factR_some hps, decide_eq_true hin] at k
          refine ⟨_, rfl, rfl, _, rfl, ?_⟩
          show if (!decide (V.int (((V.str z :: v1 :: vr1).length : Nat) : Int) = V.int ((2 + 1 : Nat) : Int))) = true then _ else _
          rw [lsz 2]
          by_cases hl : (x1 :: dr').length = 2
          case neg =>
            rw [show decide ((x1 :: dr').length = (["place", "place"] : List Str).length) = false from decide_eq_false hl] at k
            rw [decide_eq_false hl]
            exact iteT (k _ k2)
          rw [show decide ((x1 :: dr').length = (["place", "place"] : List Str).length) = true from decide_eq_true hl] at k
          rw [decide_eq_true hl]
          refine iteF ?_
          cases hr1 with
          | nil => cases hl
          | @cons v2 _ x2 _ g2 hr2 =>
          cases hr2 with
          | cons => simp at hl
          | nil =>
          have g2'' := g2.kp (Kp.of k2)
          have b1 : atI [V.str z, v1, v2] 1 = some v1 := (show atI [V.str z, v1, v2] ((1 : Nat) : Int) = _ from atI_nat rfl)
          have b2 : atI [V.str z, v1, v2] 2 = some v2 := (show atI [V.str z, v1, v2] ((2 : Nat) : Int) = _ from atI_nat rfl)
          have ez : (List.zipWith (partB ws) ["place", "place"] [x1, x2]).all id = (isN 20 x1 && (isN 20 x2 && true)) := rfl
          rw [ez, Bool.and_true, Bool.not_true, Bool.false_or, Bool.true_and] at k
          refine ⟨_, rfl, p, _, _, _, rfl, rfl, SqT.of hp2, b1, d, g, v1, x1, 20, rfl, g1'', _, rfl, ?_⟩
          cases h1 : isN 20 x1 with
          | false =>
            rw [h1, Bool.false_and, Bool.false_and] at k
            exact iteT (k _ k2)
          | true =>
            rw [h1, Bool.true_and] at k
            refine iteF ?_
            refine ⟨_, rfl, p, _, _, _, rfl, rfl, SqT.of hp2, b2, d, g, v2, x2, 20, rfl, g2'', ?_⟩
            cases h2 : isN 20 x2 with
            | false =>
              rw [h2, Bool.false_and] at k
              exact ⟨false, rfl, iteF (k _ k2)⟩
            | true =>
              rw [h2, Bool.true_and] at k
              refine ⟨true, rfl, iteT ?_⟩
              cases x1 with
              | int i1 =>
                cases x2 with
                | int i2 =>
                  cases g1
                  cases g2
                  exact ⟨_, rfl, p, _, _, _, rfl, rfl, SqT.of hp2, b2, _, rfl, p, _, _, _, rfl, rfl, SqT.of hp2, b1, _, _, rfl, rfl, k _ k2⟩
                | _ => cases h2
              | _ => cases h1
        · have hno : ¬ (z = "consent" ∨ z = "refuse") := fun h => hno (decide_eq_true (by simpa using h))
          refine ⟨_, rfl, rfl, _, rfl, ?_⟩
          refine ite2 (fun e => ?_) (fun e3 => ?_)
          · obtain rfl : z = "withdrawn" := by have := of_decide_eq_true e; injection this
            rw [factR_some (ps := ["place"]) rfl, decide_eq_false hno] at k
            refine ⟨_, rfl, rfl, _, rfl, ?_⟩
            show if decide (V.int (((V.str "withdrawn" :: v1 :: vr1).length : Nat) : Int) = V.int ((1 + 1 : Nat) : Int)) = true then _ else _
            rw [lsz 1]
            by_cases hl : (x1 :: dr').length = 1
            case neg =>
              rw [show decide ((x1 :: dr').length = (["place"] : List Str).length) = false from decide_eq_false hl] at k
              rw [decide_eq_false hl]
              exact iteF (k _ k2)
            rw [show decide ((x1 :: dr').length = (["place"] : List Str).length) = true from decide_eq_true hl] at k
            rw [decide_eq_true hl]
            refine iteT ?_
            obtain rfl : dr' = [] := by
              cases dr' with
              | nil => rfl
              | cons _ _ => simp at hl
            have ez : (List.zipWith (partB ws) ["place"] [x1]).all id = (isN 20 x1 && true) := rfl
            rw [ez, Bool.and_true, Bool.not_false, Bool.true_or, Bool.and_true, Bool.true_and] at k
            exact ⟨_, rfl, p, _, _, _, rfl, rfl, SqT.of hp2, a1, d, g, v1, x1, 20, rfl, g1'', k _ k2⟩
          · have n3 : z ≠ "withdrawn" := fun h => e3 (by rw [h]; exact decide_eq_true rfl)
            have hps : partsOf z = none := by
              unfold partsOf
              rw [if_neg fun h => hout (.inl h), if_neg fun h => hout (.inr (.inl h)), if_neg fun h => hout (.inr (.inr h)), if_neg n1, if_neg fun h => hno (.inl h), if_neg fun h => hno (.inr h), if_neg n3]
            have : factR ws z (x1 :: dr') = false := by unfold factR; rw [hps]
            rw [this] at k
            have e3 := Bool.eq_false_iff.mpr e3
            exact k _ k2
    | _ => exact iteT (k _ Ext.refl)
end
end Lw

set_option Elab.async false
set_option linter.all false
set_option maxRecDepth 100000
set_option maxHeartbeats 8000000
/-! parts of a split text, joined parts -/
namespace Gp
open L2
open PySem PySem.Spec PyProof.Rows Gn Gr Gk Gf
/-! ### parts of any text -/
theorem spl_ne (S : List Nat) : ∀ (l : List Nat) (k : Nat) (acc : List Nat), TL.spl S k acc l ≠ []
  | [], k, acc => by rw [TL.spl_nil]; simp
  | c :: r, 0, acc => by
    show (if TL.pre S (c :: r) = true then acc :: TL.spl S (S.length - 1) [] r else TL.spl S 0 (acc ++ [c]) r) ≠ []
    split
    · simp
    · exact spl_ne S r 0 _
  | c :: r, k + 1, acc => spl_ne S r k acc
theorem spl_sum (S : List Nat) : ∀ (l : List Nat) (k : Nat) (acc : List Nat), ((TL.spl S k acc l).map (·.length)).sum ≤ acc.length + l.length
  | [], k, acc => by rw [TL.spl_nil]; simp
  | c :: r, 0, acc => by
    show ((if TL.pre S (c :: r) = true then acc :: TL.spl S (S.length - 1) [] r else TL.spl S 0 (acc ++ [c]) r).map (·.length)).sum ≤ _
    split
    · have := spl_sum S r (S.length - 1) []
      rw [List.map_cons, List.sum_cons, List.length_cons]
      have e : ([] : List Nat).length = 0 := rfl
      omega
    · have := spl_sum S r 0 (acc ++ [c])
      rw [List.length_append] at this
      rw [List.length_cons]
      have e : [c].length = 1 := rfl
      omega
  | c :: r, k + 1, acc => by
    have := spl_sum S r k acc
    show ((TL.spl S k acc r).map (·.length)).sum ≤ _
    rw [List.length_cons]
    omega
theorem spl_count (S : List Nat) : ∀ (l : List Nat) (k : Nat) (acc : List Nat), (TL.spl S k acc l).length ≤ l.length + 1
  | [], k, acc => by rw [TL.spl_nil]; simp
  | c :: r, 0, acc => by
    show (if TL.pre S (c :: r) = true then acc :: TL.spl S (S.length - 1) [] r else TL.spl S 0 (acc ++ [c]) r).length ≤ _
    split
    · have := spl_count S r (S.length - 1) []
      rw [List.length_cons, List.length_cons]
      omega
    · have := spl_count S r 0 (acc ++ [c])
      rw [List.length_cons]
      omega
  | c :: r, k + 1, acc => by
    have := spl_count S r k acc
    show (TL.spl S k acc r).length ≤ _
    rw [List.length_cons]
    omega
theorem spl_signs (S : List Nat) (p : Nat → Prop) : ∀ (l : List Nat) (k : Nat) (acc : List Nat), (∀ c ∈ acc, p c) → (∀ c ∈ l, p c) → ∀ q ∈ TL.spl S k acc l, ∀ c ∈ q, p c
  | [], k, acc, ha, _, q, hq => by
    rw [TL.spl_nil, List.mem_singleton] at hq
    rw [hq]
    exact ha
  | c :: r, 0, acc, ha, hl, q, hq => by
    have hr : ∀ x ∈ r, p x := fun x hx => hl x (List.mem_cons_of_mem _ hx)
    have hq : q ∈ (if TL.pre S (c :: r) = true then acc :: TL.spl S (S.length - 1) [] r else TL.spl S 0 (acc ++ [c]) r) := hq
    split at hq
    · rcases List.mem_cons.mp hq with rfl | hq
      · exact ha
      · exact spl_signs S p r _ [] (fun x hx => by cases hx) hr q hq
    · refine spl_signs S p r 0 _ (fun x hx => ?_) hr q hq
      rcases List.mem_append.mp hx with hx | hx
      · exact ha x hx
      · rw [List.mem_singleton.mp hx]
        exact hl c (List.mem_cons_self ..)
  | c :: r, k + 1, acc, ha, hl, q, hq => spl_signs S p r k acc ha (fun x hx => hl x (List.mem_cons_of_mem _ hx)) q hq
/-- the parts between single signs -/
structure SpP (x : Str) (ps : List Str) : Prop where
  ne : ps ≠ []
  sum : (ps.map (·.length)).sum ≤ x.length
  count : ps.length ≤ x.length + 1
  signs : ∀ q ∈ ps, ∀ c ∈ q.cps.toList, c ∈ x.cps.toList
theorem kind_le (x y : Str) (hk : y.cps.all (· < 256) = true) : ¬ Builtin.Str.strKind x < Builtin.Str.strKind y := TL.kind_ok hk
theorem parts_of {x y : Str} (hy : TL.tl y ≠ []) (hk : y.cps.all (· < 256) = true) : SpP x (Txt.split x y) := by
  have e := TL.split_spl x y hy (kind_le x y hk)
  have el : ∀ ps : List Str, (ps.map (·.length)) = (ps.map TL.tl).map (·.length) := fun ps => by
    rw [List.map_map]
    exact List.map_congr_left fun p _ => (len_cps p).symm
  refine ⟨fun z => ?_, ?_, ?_, fun q hq c hc => ?_⟩
  · rw [z] at e
    exact spl_ne _ _ _ _ e.symm
  · rw [el, e]
    have := spl_sum (TL.tl y) (TL.tl x) 0 []
    have e0 : ([] : List Nat).length = 0 := rfl
    have e1 : (TL.tl x).length = x.length := len_cps x
    omega
  · have := spl_count (TL.tl y) (TL.tl x) 0 []
    rw [← e, List.length_map] at this
    have e1 : (TL.tl x).length = x.length := len_cps x
    omega
  · have hm : TL.tl q ∈ TL.spl (TL.tl y) 0 [] (TL.tl x) := by rw [← e]; exact List.mem_map.mpr ⟨q, hq, rfl⟩
    exact spl_signs _ (fun c => c ∈ x.cps.toList) _ _ _ (fun c h => by cases h) (fun c h => h) _ hm c hc
theorem mem_sum {α : Type} (f : α → Nat) : ∀ {l : List α} {a : α}, a ∈ l → f a ≤ (l.map f).sum
  | x :: r, a, h => by
    rw [List.map_cons, List.sum_cons]
    rcases List.mem_cons.mp h with rfl | h
    · omega
    · have := mem_sum f h
      omega
theorem SpP.len {x : Str} {ps : List Str} (h : SpP x ps) {q : Str} (hq : q ∈ ps) : q.length ≤ x.length := Nat.le_trans (mem_sum _ hq) h.sum
theorem sp_parts (x : Str) : SpP x (Txt.split x " ") := parts_of (by rw [sp_tl]; simp) (by decide +kernel)
theorem nl_parts (x : Str) : SpP x (Txt.split x "\n") := parts_of (by rw [nl_tl]; simp) (by decide +kernel)
/-! ### joined texts -/
/-- texts with their separators: of at most m signs -/
structure Pt (m : Nat) (ps : List Str) : Prop where
  wt : (ps.map (·.length)).sum + ps.length ≤ m
  lo : ∀ p ∈ ps, ∀ ch ∈ p.cps.toList, ch < 128
theorem joinL_len (S : List Nat) : ∀ ps : List (List Nat), (TL.joinL S ps).length ≤ (ps.map (·.length)).sum + ps.length * S.length
  | [] => Nat.zero_le _
  | [p] => by
    show p.length ≤ _
    simp
  | p :: q :: r => by
    have := joinL_len S (q :: r)
    show (p ++ (S ++ TL.joinL S (q :: r))).length ≤ _
    rw [List.length_append, List.length_append, List.map_cons, List.sum_cons, List.length_cons, Nat.succ_mul]
    omega
theorem joinL_mem (S : List Nat) (P : Nat → Prop) (hS : ∀ c ∈ S, P c) : ∀ ps : List (List Nat), (∀ p ∈ ps, ∀ c ∈ p, P c) → ∀ c ∈ TL.joinL S ps, P c
  | [], _, c, hc => by cases hc
  | [p], h, c, hc => h p (List.mem_singleton.mpr rfl) c hc
  | p :: q :: r, h, c, hc => by
    have hc : c ∈ p ++ (S ++ TL.joinL S (q :: r)) := hc
    rcases List.mem_append.mp hc with hc | hc
    · exact h p (List.mem_cons_self ..) c hc
    rcases List.mem_append.mp hc with hc | hc
    · exact hS c hc
    · exact joinL_mem S P hS (q :: r) (fun p' hp => h p' (List.mem_cons_of_mem _ hp)) c hc
theorem map_tl_len (ps : List Str) : (ps.map TL.tl).map (·.length) = ps.map (·.length) := by
  rw [List.map_map]
  exact List.map_congr_left fun p _ => len_cps p
theorem Pt.join {m : Nat} {ps : List Str} (h : Pt m ps) {y : Str} (hy : TL.tl y = [32] ∨ TL.tl y = [10]) : Asc m (Txt.join y ps) := by
  have e : (Txt.join y ps).cps.toList = TL.joinL (TL.tl y) (ps.map TL.tl) := by
    show TL.tl _ = _
    rw [TL.join_eq, TL.tl_join]
  have y1 : (TL.tl y).length = 1 := by rcases hy with hy | hy <;> rw [hy] <;> rfl
  refine ⟨?_, fun ch hc => ?_⟩
  · rw [← len_cps, e]
    have := joinL_len (TL.tl y) (ps.map TL.tl)
    rw [map_tl_len, List.length_map, y1] at this
    have := h.wt
    omega
  · rw [e] at hc
    refine joinL_mem _ (· < 128) (fun c hc => ?_) _ (fun p hp c hc => ?_) ch hc
    · rcases hy with hy | hy <;> rw [hy] at hc <;> simp at hc <;> omega
    · obtain ⟨q, hq, rfl⟩ := List.mem_map.mp hp
      exact h.lo q hq c hc
theorem spl_both (s : Nat) : ∀ (l acc : List Nat), ((TL.spl [s] 0 acc l).map (·.length)).sum + (TL.spl [s] 0 acc l).length ≤ acc.length + l.length + 1
  | [], acc => by rw [TL.spl_nil]; simp
  | c :: r, acc => by
    show ((if TL.pre [s] (c :: r) = true then acc :: TL.spl [s] 0 [] r else TL.spl [s] 0 (acc ++ [c]) r).map (·.length)).sum + (if TL.pre [s] (c :: r) = true then acc :: TL.spl [s] 0 [] r else TL.spl [s] 0 (acc ++ [c]) r).length ≤ _
    split
    · have := spl_both s r []
      have e : ([] : List Nat).length = 0 := rfl
      rw [List.map_cons, List.sum_cons, List.length_cons, List.length_cons]
      omega
    · have := spl_both s r (acc ++ [c])
      rw [List.length_append] at this
      have e : [c].length = 1 := rfl
      rw [List.length_cons]
      omega
theorem pt_of {x y : Str} {s n : Nat} (hy : TL.tl y = [s]) (hk : y.cps.all (· < 256) = true) (a : Asc n x) : Pt (n + 1) (Txt.split x y) := by
  have e := TL.split_spl x y (by rw [hy]; simp) (kind_le x y hk)
  rw [hy] at e
  have q := spl_both s (TL.tl x) []
  rw [← e, map_tl_len, List.length_map] at q
  have e0 : ([] : List Nat).length = 0 := rfl
  have e1 : (TL.tl x).length = x.length := len_cps x
  refine ⟨by have := a.1; omega, fun p hp c hc => a.2 c ?_⟩
  exact (parts_of (x := x) (y := y) (by rw [hy]; simp) hk).signs p hp c hc
theorem sum_append (a b : List Nat) : (a ++ b).sum = a.sum + b.sum := by simp
theorem sum_take (l : List Nat) (k : Nat) : (l.take k).sum + (l.drop k).sum = l.sum := by rw [← sum_append, List.take_append_drop]
theorem Pt.mono {m m' : Nat} {ps : List Str} (h : Pt m ps) (k : m ≤ m') : Pt m' ps := ⟨Nat.le_trans h.wt k, h.lo⟩
theorem Pt.nil : Pt 0 [] := ⟨Nat.le_refl _, fun p hp => by cases hp⟩
theorem Pt.one {n : Nat} {p : Str} (h : Asc n p) : Pt (n + 1) [p] := ⟨by have := h.1; simp; omega, fun q hq => by rw [List.mem_singleton.mp hq]; exact h.2⟩
theorem Pt.all {n : Nat} : ∀ {ps : List Str}, (∀ p ∈ ps, Asc n p) → Pt (ps.length * (n + 1)) ps
  | [], _ => ⟨Nat.zero_le _, fun p hp => by cases hp⟩
  | p :: ps, h => by
    have q := Pt.all (ps := ps) fun x hx => h x (List.mem_cons_of_mem _ hx)
    have hp := h p List.mem_cons_self
    refine ⟨?_, fun x hx => (h x hx).2⟩
    have := q.wt
    have := hp.1
    rw [List.map_cons, List.sum_cons, List.length_cons, Nat.succ_mul]
    omega
theorem joinL_snoc (S : List Nat) (q : List Nat) : ∀ ps : List (List Nat), ps ≠ [] → TL.joinL S (ps ++ [q]) = TL.joinL S ps ++ (S ++ q)
  | [], h => absurd rfl h
  | [p], _ => rfl
  | p :: p2 :: r, _ => by
    show p ++ (S ++ TL.joinL S ((p2 :: r) ++ [q])) = (p ++ (S ++ TL.joinL S (p2 :: r))) ++ (S ++ q)
    rw [joinL_snoc S q (p2 :: r) (by simp)]
    simp
end Gp

set_option Elab.async false
set_option linter.all false
set_option maxRecDepth 100000
set_option maxHeartbeats 4000000
namespace Lw
open L2 hiding Ext
open PySem PySem.Spec PyProof.Rows Gn Gr Gk Go Gt Gf Gu Gp
/-! ### words of numbers -/
def dig (c : Nat) : Bool := decide (48 ≤ c) && decide (c ≤ 57)
/-- digits, the first of them not 0 -/
def nzd : List Nat → Bool
  | [] => false
  | c :: r => !decide (c = 48) && (c :: r).all dig
theorem nzd_cons (c : Nat) (r : List Nat) : nzd (c :: r) = (!decide (c = 48) && (c :: r).all dig) := rfl
def nL (x : Str) : Bool := nzd (TL.tl x)
def nP (x : Str) : Bool := nL x && decide (x.length ≤ 10)
def cvD (b : Bool) (x : Str) : PyData := if b = true then .int ((NumText.digitsVal (TL.tl x) : Nat) : Int) else .str x
def cvV (b : Bool) (x : Str) : V := if b = true then .int ((NumText.digitsVal (TL.tl x) : Nat) : Int) else .str x
theorem cv_dk {d g : Addr} {H : Hp} (b : Bool) (x : Str) : Dk d g H (cvV b x) (cvD b x) := by
  cases b
  · exact .str x
  · exact .int _
theorem cv_all {d g : Addr} {H : Hp} (f : Str → Bool) : ∀ xs : List Str, DkAll d g H (xs.map fun x => cvV (f x) x) (xs.map fun x => cvD (f x) x)
  | [] => .nil
  | x :: xs => .cons (cv_dk _ x) (cv_all f xs)
theorem nzd_digits {L : List Nat} (h : nzd L = true) : NumText.AllDigits L ∧ L ≠ [] := by
  cases L with
  | nil => cases h
  | cons c r =>
    rw [nzd_cons] at h
    rw [Bool.and_eq_true] at h
    refine ⟨fun x hx => ?_, by simp⟩
    have := List.all_eq_true.mp h.2 x hx
    unfold dig at this
    rw [Bool.and_eq_true] at this
    exact ⟨of_decide_eq_true this.1, of_decide_eq_true this.2⟩
theorem fold_ge : ∀ (l : List Nat) (a : Nat), a * 10 ^ l.length ≤ l.foldl (fun acc c => acc * 10 + (c - 48)) a
  | [], a => by simp
  | c :: l, a => by
    have h := fold_ge l (a * 10 + (c - 48))
    rw [List.foldl_cons, List.length_cons, Nat.pow_succ]
    refine Nat.le_trans ?_ h
    rw [Nat.mul_comm (10 ^ l.length) 10, ← Nat.mul_assoc]
    exact Nat.mul_le_mul_right _ (by omega)
theorem val_big {L : List Nat} (h : nzd L = true) (hl : 10 < L.length) : 10000000000 ≤ NumText.digitsVal L := by
  have hd := (nzd_digits h).1
  cases L with
  | nil => cases h
  | cons c r =>
    rw [nzd_cons] at h
    rw [Bool.and_eq_true] at h
    have h0 : c ≠ 48 := by have := h.1; simpa using this
    have h1 := (hd c List.mem_cons_self).1
    have q := fold_ge r (0 * 10 + (c - 48))
    have p : 10 ^ 10 ≤ 10 ^ r.length := Nat.pow_le_pow_right (by decide) (by rw [List.length_cons] at hl; omega)
    have e : (10 : Nat) ^ 10 = 10000000000 := by decide
    have m := Nat.mul_le_mul (show 1 ≤ 0 * 10 + (c - 48) by omega) p
    show _ ≤ r.foldl (fun acc c => acc * 10 + (c - 48)) (0 * 10 + (c - 48))
    omega
theorem name_no {x : Str} (h : nameOk x = true) : nL x = false := by
  have c0 := name_cps h
  unfold nL
  have e : TL.tl x = x.cps.toList := rfl
  rw [e]
  cases hx : x.cps.toList with
  | nil => rfl
  | cons c r =>
    have hc := c0 c (by rw [hx]; exact List.mem_cons_self)
    rw [nzd_cons]
    have : dig c = false := by
      unfold dig
      rw [decide_eq_false (show ¬ c ≤ 57 by omega), Bool.and_false]
    rw [List.all_cons, this, Bool.false_and, Bool.and_false]
theorem part_str {ws : List Str} (p : Str) (x : Str) (h : x ∉ ws) : partB ws p (.str x) = false := by
  unfold partB
  split
  · exact decide_eq_false h
  split
  · rfl
  split
  · rfl
  · rfl
theorem part_big {ws : List Str} (p : Str) (v : Int) (h : 1000000000 < v) : partB ws p (.int v) = false := by
  unfold partB
  split
  · rfl
  split
  · exact decide_eq_false (by omega)
  split
  · exact decide_eq_false (by omega)
  · exact decide_eq_false (by omega)
theorem part_cv {ws : List Str} (hw : ∀ x ∈ ws, nameOk x = true) (p x : Str) : partB ws p (cvD (nP x) x) = partB ws p (cvD (nL x) x) ∧ (partB ws p (cvD (nL x) x) = true → cvD (nP x) x = cvD (nL x) x) := by
  by_cases h2 : x.length ≤ 10
  · have e : nP x = nL x := by unfold nP; rw [decide_eq_true h2, Bool.and_true]
    rw [e]
    exact ⟨rfl, fun _ => rfl⟩
  · have e : nP x = false := by unfold nP; rw [decide_eq_false h2, Bool.and_false]
    cases h1 : nL x with
    | false =>
      rw [e]
      exact ⟨rfl, fun _ => rfl⟩
    | true =>
      have hx : x ∉ ws := fun m => by rw [name_no (hw x m)] at h1; cases h1
      have big := val_big (L := TL.tl x) h1 (by rw [← TL.len_tl]; omega)
      have f1 : partB ws p (cvD (nP x) x) = false := by rw [e]; exact part_str p x hx
      have f2 : partB ws p (cvD true x) = false := part_big p _ (by omega)
      rw [f1, f2]
      exact ⟨rfl, fun h => by cases h⟩
theorem parts_cv {ws : List Str} (hw : ∀ x ∈ ws, nameOk x = true) : ∀ (ps xs : List Str),
    List.zipWith (partB ws) ps (xs.map fun x => cvD (nP x) x) = List.zipWith (partB ws) ps (xs.map fun x => cvD (nL x) x) ∧
    (ps.length = xs.length → (List.zipWith (partB ws) ps (xs.map fun x => cvD (nL x) x)).all id = true → (xs.map fun x => cvD (nP x) x) = xs.map fun x => cvD (nL x) x)
  | [], [] => ⟨rfl, fun _ _ => rfl⟩
  | [], _ :: _ => ⟨rfl, fun h _ => by cases h⟩
  | _ :: _, [] => ⟨rfl, fun h _ => by cases h⟩
  | p :: ps, x :: xs => by
    obtain ⟨a1, a2⟩ := part_cv hw p x
    obtain ⟨b1, b2⟩ := parts_cv hw ps xs
    rw [List.map_cons, List.map_cons, List.zipWith_cons_cons, List.zipWith_cons_cons, a1, b1]
    refine ⟨rfl, fun hl h => ?_⟩
    rw [List.all_cons, Bool.and_eq_true] at h
    rw [a2 h.1, b2 (by simpa using hl) h.2]
theorem factR_cv {ws : List Str} (hw : ∀ x ∈ ws, nameOk x = true) (z : Str) (xs : List Str) :
    factR ws z (xs.map fun x => cvD (nP x) x) = factR ws z (xs.map fun x => cvD (nL x) x) ∧ (factR ws z (xs.map fun x => cvD (nL x) x) = true → (xs.map fun x => cvD (nP x) x) = xs.map fun x => cvD (nL x) x) := by
  cases h : partsOf z with
  | none =>
    have e : ∀ r, factR ws z r = false := fun r => by unfold factR; rw [h]
    rw [e, e]
    exact ⟨rfl, fun h => by cases h⟩
  | some ps =>
    rw [factR_some h, factR_some h, List.length_map, List.length_map]
    obtain ⟨b1, b2⟩ := parts_cv hw ps xs
    by_cases hl : xs.length = ps.length
    · rw [decide_eq_true hl, Bool.true_and, Bool.true_and, b1]
      cases ha : (List.zipWith (partB ws) ps (xs.map fun x => cvD (nL x) x)).all id with
      | false => exact ⟨rfl, fun h => by cases h⟩
      | true =>
        have e := b2 hl.symm ha
        rw [e]
        exact ⟨rfl, fun _ => rfl⟩
    · rw [decide_eq_false hl]
      exact ⟨rfl, fun h => by cases h⟩
/-- a text's words: by the program, by the law -/
def wP (xs : List Str) : PyData := .tuple (xs.map fun x => cvD (nP x) x)
def wL : List Str → PyData
  | [] => .tuple []
  | z :: r => .tuple (.str z :: r.map fun x => cvD (nL x) x)
theorem kind_no {z : Str} (h : nL z = true) : partsOf z = none := by
  unfold partsOf
  rw [if_neg (fun e => by subst e; revert h; decide +kernel), if_neg (fun e => by subst e; revert h; decide +kernel), if_neg (fun e => by subst e; revert h; decide +kernel), if_neg (fun e => by subst e; revert h; decide +kernel), if_neg (fun e => by subst e; revert h; decide +kernel), if_neg (fun e => by subst e; revert h; decide +kernel), if_neg (fun e => by subst e; revert h; decide +kernel)]
theorem fact_cv {ws : List Str} (hw : ∀ x ∈ ws, nameOk x = true) (xs : List Str) : factB ws (wP xs) = factB ws (wL xs) ∧ (factB ws (wL xs) = true → wP xs = wL xs) := by
  cases xs with
  | nil => exact ⟨rfl, fun _ => rfl⟩
  | cons z r =>
    obtain ⟨a, b⟩ := factR_cv hw z r
    have eL : factB ws (wL (z :: r)) = factR ws z (r.map fun x => cvD (nL x) x) := rfl
    cases hz : nP z with
    | true =>
      have h1 : nL z = true := by unfold nP at hz; rw [Bool.and_eq_true] at hz; exact hz.1
      have e1 : factR ws z (r.map fun x => cvD (nL x) x) = false := by unfold factR; rw [kind_no h1]
      have e2 : factB ws (wP (z :: r)) = false := by
        unfold wP
        rw [List.map_cons, hz]
        rfl
      rw [eL, e1, e2]
      exact ⟨rfl, fun h => by cases h⟩
    | false =>
      have e2 : wP (z :: r) = .tuple (.str z :: r.map fun x => cvD (nP x) x) := by
        unfold wP
        rw [List.map_cons, hz]
        rfl
      rw [e2, eL]
      exact ⟨a, fun h => by rw [b h]; rfl⟩
/-! ### the text of a fact -/
def lowS (z : Str) : Prop := z.length ≤ 9 ∧ TL.tl z ≠ [] ∧ ∀ c ∈ TL.tl z, 97 ≤ c ∧ c ≤ 122
instance lowDec (z : Str) : Decidable (lowS z) := by
  unfold lowS
  infer_instance
def Wd (y : PyData) : Prop := (∃ n : Nat, 1 ≤ n ∧ n ≤ 1000000000 ∧ y = .int (n : Int)) ∨ ∃ z, y = .str z ∧ lowS z
def txt : PyData → Str
  | .int i => toString i
  | .str z => z
  | _ => ""
theorem low_name {x : Str} (h : nameOk x = true) : lowS x := by
  have c0 := name_cps h
  have l0 := name_len h
  refine ⟨by omega, fun e => ?_, fun c hc => by have := c0 c hc; omega⟩
  have := TL.len_tl x
  rw [e] at this
  have : x.length = 0 := this
  omega
theorem low_no {z : Str} (h : lowS z) : nL z = false := by
  obtain ⟨_, h1, h2⟩ := h
  unfold nL
  cases hx : TL.tl z with
  | nil => exact absurd hx h1
  | cons c r =>
    have hc := h2 c (by rw [hx]; exact List.mem_cons_self)
    rw [nzd_cons]
    have : dig c = false := by
      unfold dig
      rw [decide_eq_false (show ¬ c ≤ 57 by omega), Bool.and_false]
    rw [List.all_cons, this, Bool.false_and, Bool.and_false]
theorem num_head {n : Nat} (h : 1 ≤ n) : nzd (TL.numL n) = true := by
  have key : ∀ m, 1 ≤ m → ∃ c r, TL.numL m = c :: r ∧ c ≠ 48 := by
    intro m
    induction m using Nat.strongRecOn with
    | _ m ih =>
      intro hm
      by_cases h10 : m < 10
      · exact ⟨48 + m, [], TL.numL_lt h10, by omega⟩
      · obtain ⟨c, r, e, hc⟩ := ih (m / 10) (by omega) (by omega)
        refine ⟨c, r ++ [48 + m % 10], ?_, hc⟩
        rw [TL.numL_step (by omega), e]
        rfl
  obtain ⟨c, r, e, hc⟩ := key n h
  have hd := TL.numL_digits n
  rw [e] at hd ⊢
  rw [nzd_cons]
  rw [decide_eq_false hc, Bool.not_false, Bool.true_and, List.all_eq_true]
  intro x hx
  obtain ⟨h1, h2⟩ := hd x hx
  unfold dig
  rw [decide_eq_true h1, decide_eq_true h2]
  rfl
theorem wd_asc {y : PyData} (h : Wd y) : Asc 10 (txt y) ∧ 32 ∉ TL.tl (txt y) := by
  rcases h with ⟨n, h1, h2, rfl⟩ | ⟨z, rfl, h1, h2, h3⟩
  · have e : TL.tl (txt (.int (n : Int))) = TL.numL n := TL.tl_num n
    have hd := TL.numL_digits n
    have hl := TL.numL_len (n := n) (k := 10) (by decide) (by have : (10 : Nat) ^ 10 = 10000000000 := (by decide); omega)
    refine ⟨⟨?_, fun c hc => ?_⟩, ?_⟩
    · rw [TL.len_tl, e]
      exact hl
    · have hc : c ∈ TL.tl (txt (.int (n : Int))) := hc
      rw [e] at hc
      have := hd c hc
      omega
    · rw [e]
      exact TL.numL_free (by decide)
  · refine ⟨⟨by show z.length ≤ 10; omega, fun c hc => by have := h3 c hc; omega⟩, fun hc => by have := h3 32 hc; omega⟩
theorem wd_cv {y : PyData} (h : Wd y) : cvD (nP (txt y)) (txt y) = y := by
  have ha := (wd_asc h).1.1
  rcases h with ⟨n, h1, h2, rfl⟩ | ⟨z, rfl, h1⟩
  · have e : TL.tl (txt (.int (n : Int))) = TL.numL n := TL.tl_num n
    have : nP (txt (.int (n : Int))) = true := by
      unfold nP nL
      rw [e, num_head h1, decide_eq_true ha]
      rfl
    rw [this]
    unfold cvD
    rw [if_pos rfl, e, TL.numL_val]
  · have : nP (txt (.str z)) = false := by
      unfold nP
      rw [show nL (txt (.str z)) = false from low_no h1, Bool.false_and]
    rw [this]
    rfl
def lineD (ys : List PyData) : Str := Txt.join " " (ys.map txt)
theorem wds_cv : ∀ {ys : List PyData}, (∀ y ∈ ys, Wd y) → ((ys.map txt).map fun x => cvD (nP x) x) = ys
  | [], _ => rfl
  | y :: ys, h => by
    rw [List.map_cons, List.map_cons, wd_cv (h y List.mem_cons_self), wds_cv fun x hx => h x (List.mem_cons_of_mem _ hx)]
theorem split_words {ps : List Str} (hne : ps ≠ []) (h : ∀ p ∈ ps, 32 ∉ TL.tl p) : Txt.split (Txt.join " " ps) " " = ps := TL.split_join (s := 32) (S := []) sp_tl (by decide +kernel) hne h
theorem line_split {ys : List PyData} (hne : ys ≠ []) (h : ∀ y ∈ ys, Wd y) : Txt.split (lineD ys) " " = ys.map txt := split_words (fun e => hne (List.map_eq_nil_iff.mp e)) fun p hp => by
  obtain ⟨y, hy, rfl⟩ := List.mem_map.mp hp
  exact (wd_asc (h y hy)).2
theorem line_back {ys : List PyData} (hne : ys ≠ []) (h : ∀ y ∈ ys, Wd y) : wP (Txt.split (lineD ys) " ") = .tuple ys := by
  rw [line_split hne h]
  unfold wP
  rw [wds_cv h]
theorem line_pt {ys : List PyData} (h : ∀ y ∈ ys, Wd y) (hl : ys.length ≤ 4) : Pt 44 (ys.map txt) := by
  have p : Pt ((ys.map txt).length * 11) (ys.map txt) := Pt.all fun p hp => by
    obtain ⟨y, hy, rfl⟩ := List.mem_map.mp hp
    exact (wd_asc (h y hy)).1
  rw [List.length_map] at p
  exact p.mono (by omega)
theorem line_asc {ys : List PyData} (h : ∀ y ∈ ys, Wd y) (hl : ys.length ≤ 4) : Asc 44 (lineD ys) := (line_pt h hl).join (.inl sp_tl)
/-! ### what is no fact's text -/
theorem fact_one {ws : List Str} {x : PyData} : factB ws (.tuple [x]) = false := by
  cases x with
  | str z => exact factR_nil
  | _ => rfl
theorem kind0 : partsOf "" = none := by decide +kernel
theorem fact_head0 {ws : List Str} {r : List Str} : factB ws (wP ("" :: r)) = false := by
  have e : wP ("" :: r) = .tuple (.str "" :: r.map fun x => cvD (nP x) x) := by
    unfold wP
    rw [List.map_cons, show nP "" = false by decide +kernel]
    rfl
  rw [e]
  have : ∀ q, factR ws "" q = false := fun q => by
    unfold factR
    rw [kind0]
  exact this (r.map fun x => cvD (nP x) x)
theorem parts_form {z : Str} {ps : List Str} (h : partsOf z = some ps) : (∃ p, ps = ([p, "account", "amount"] : List Str)) ∨ ps = (["place", "amount"] : List Str) ∨ ps = (["place", "place"] : List Str) ∨ ps = (["place"] : List Str) := by
  unfold partsOf at h
  split at h
  · cases h; exact .inl ⟨_, rfl⟩
  split at h
  · cases h; exact .inl ⟨_, rfl⟩
  split at h
  · cases h; exact .inl ⟨_, rfl⟩
  split at h
  · cases h; exact .inr (.inl rfl)
  split at h
  · cases h; exact .inr (.inr (.inl rfl))
  split at h
  · cases h; exact .inr (.inr (.inl rfl))
  split at h
  · cases h; exact .inr (.inr (.inr rfl))
  · cases h
/-- a fact that was drawn -/
def Fx (ws : List Str) (x : PyData) : Prop := ∃ (z : Str) (r : List PyData), x = .tuple (.str z :: r) ∧ factR ws z r = true ∧ lowS z ∧ r.length ≤ 3 ∧ ∀ y ∈ r, Wd y
theorem Fx.len {ws : List Str} {z : Str} {r : List PyData} (h : factR ws z r = true) : ∃ ps, partsOf z = some ps ∧ r.length = ps.length := by
  cases e : partsOf z with
  | none => unfold factR at h; rw [e] at h; cases h
  | some ps =>
    rw [factR_some e, Bool.and_eq_true] at h
    exact ⟨ps, rfl, of_decide_eq_true h.1⟩
theorem all_wd {z : Str} {r : List PyData} (h1 : lowS z) (h2 : ∀ y ∈ r, Wd y) : ∀ y ∈ PyData.str z :: r, Wd y := fun y hy => by
  rcases List.mem_cons.mp hy with rfl | hy
  · exact .inr ⟨z, rfl, h1⟩
  · exact h2 y hy
/-- its line with a blank behind it -/
theorem no_behind {ws : List Str} {z : Str} {r : List PyData} (hf : factR ws z r = true) (h1 : lowS z) (h2 : ∀ y ∈ r, Wd y) : factB ws (wP (Txt.split (lineD (.str z :: r) ++ " ") " ")) = false := by
  have hw := all_wd h1 h2
  have e : lineD (.str z :: r) ++ " " = Txt.join " " ((PyData.str z :: r).map txt ++ [("" : Str)]) := by
    refine TL.ext_tl ?_
    rw [TL.tl_append, lineD, TL.join_eq, TL.tl_join, TL.join_eq, TL.tl_join, List.map_append, sp_tl]
    show _ = TL.joinL [32] (_ ++ [TL.tl ""])
    rw [joinL_snoc _ _ _ (by simp), show TL.tl "" = [] by decide +kernel, List.append_nil]
  rw [e, split_words (by simp) (fun p hp => by
    rcases List.mem_append.mp hp with hp | hp
    · obtain ⟨y, hy, rfl⟩ := List.mem_map.mp hp
      exact (wd_asc (hw y hy)).2
    · rw [List.mem_singleton.mp hp]
      decide +kernel)]
  unfold wP
  rw [List.map_append, wds_cv hw]
  show factR ws z (r ++ [_]) = false
  obtain ⟨ps, e1, e2⟩ := Fx.len hf
  rw [factR_some e1, List.length_append, decide_eq_false (show ¬ r.length + [_].length = ps.length by rw [e2]; simp)]
  rfl
/-- a blank ahead of it -/
theorem no_ahead {ws : List Str} {z : Str} {r : List PyData} (h1 : lowS z) (h2 : ∀ y ∈ r, Wd y) : factB ws (wP (Txt.split (" " ++ lineD (.str z :: r)) " ")) = false := by
  have hw := all_wd h1 h2
  have e : " " ++ lineD (.str z :: r) = Txt.join " " (("" : Str) :: (PyData.str z :: r).map txt) := by
    refine TL.ext_tl ?_
    rw [TL.tl_append, lineD, TL.join_eq, TL.tl_join, TL.join_eq, TL.tl_join, sp_tl]
    show [32] ++ TL.joinL [32] _ = TL.tl "" ++ ([32] ++ TL.joinL [32] _)
    rw [show TL.tl "" = [] by decide +kernel, List.nil_append]
    rfl
  rw [e, split_words (by simp) (fun p hp => by
    rcases List.mem_cons.mp hp with rfl | hp
    · decide +kernel
    · obtain ⟨y, hy, rfl⟩ := List.mem_map.mp hp
      exact (wd_asc (hw y hy)).2)]
  exact fact_head0
/-- a line feed behind it -/
theorem nl_no {x : Str} (h : ∀ c ∈ TL.tl x, c < 128) : nL (x ++ "\n") = false := by
  unfold nL
  rw [TL.tl_append, nl_tl]
  cases hx : TL.tl x with
  | nil => decide
  | cons c r =>
    show (!decide (c = 48) && (c :: (r ++ [10])).all dig) = false
    rw [← List.cons_append, List.all_append]
    show (_ && (_ && (dig 10 && true))) = false
    rw [show dig 10 = false by decide, Bool.false_and, Bool.and_false, Bool.and_false]
theorem no_feed {ws : List Str} (hws : ∀ x ∈ ws, nameOk x = true) {z : Str} {r : List PyData} (hf : factR ws z r = true) (h1 : lowS z) (h2 : ∀ y ∈ r, Wd y) : factB ws (wP (Txt.split (lineD (.str z :: r) ++ "\n") " ")) = false := by
  obtain ⟨ps, e1, e2⟩ := Fx.len hf
  have hw := all_wd h1 h2
  obtain ⟨i, y, rfl⟩ : ∃ i y, r = i ++ [y] := by
    have : r ≠ [] := fun e => by
      subst e
      rw [factR_nil] at hf
      cases hf
    exact ⟨r.dropLast, r.getLast this, (List.dropLast_concat_getLast this).symm⟩
  have hwi : ∀ x ∈ PyData.str z :: i, Wd x := fun x hx => hw x (by
    rcases List.mem_cons.mp hx with rfl | hx
    · exact List.mem_cons_self
    · exact List.mem_cons_of_mem _ (List.mem_append_left _ hx))
  have hy : Wd y := h2 y (List.mem_append_right _ (List.mem_singleton.mpr rfl))
  have e : lineD (.str z :: (i ++ [y])) ++ "\n" = Txt.join " " ((PyData.str z :: i).map txt ++ [(txt y ++ "\n" : Str)]) := by
    refine TL.ext_tl ?_
    rw [TL.tl_append, lineD, TL.join_eq, TL.tl_join, TL.join_eq, TL.tl_join, sp_tl]
    show TL.joinL [32] ((((PyData.str z :: i) ++ [y]).map txt).map TL.tl) ++ _ = _
    rw [List.map_append, List.map_append, List.map_append]
    show TL.joinL [32] (_ ++ [TL.tl (txt y)]) ++ _ = TL.joinL [32] (_ ++ [TL.tl (txt y ++ "\n")])
    rw [joinL_snoc _ _ _ (by simp), joinL_snoc _ _ _ (by simp), TL.tl_append, List.append_assoc, List.append_assoc]
  have an := wd_asc hy
  rw [e, split_words (by simp) (fun p hp => by
    rcases List.mem_append.mp hp with hp | hp
    · obtain ⟨x, hx, rfl⟩ := List.mem_map.mp hp
      exact (wd_asc (hwi x hx)).2
    · rw [List.mem_singleton.mp hp, TL.tl_append, nl_tl]
      intro hm
      rcases List.mem_append.mp hm with hm | hm
      · exact an.2 hm
      · simp at hm)]
  unfold wP
  rw [List.map_append, wds_cv hwi]
  have cv : cvD (nP (txt y ++ "\n")) (txt y ++ "\n") = .str (txt y ++ "\n") := by
    unfold nP
    rw [nl_no (x := txt y) an.1.2, Bool.false_and]
    rfl
  show factR ws z (i ++ [cvD (nP (txt y ++ "\n")) (txt y ++ "\n")]) = false
  rw [cv, factR_some e1, List.length_append, List.length_singleton]
  have l2 : i.length + 1 = ps.length := by rw [← e2, List.length_append, List.length_singleton]
  rw [decide_eq_true l2, Bool.true_and]
  have fin : ∀ (b : Bool) (p : Str), p = "amount" ∨ p = "place" → (List.zipWith (partB ws) ps (i ++ [PyData.str (txt y ++ "\n")])).all id = (b && (partB ws p (.str (txt y ++ "\n")) && true)) → (List.zipWith (partB ws) ps (i ++ [PyData.str (txt y ++ "\n")])).all id = false := fun b p hp h => by
    rw [h]
    have : partB ws p (.str (txt y ++ "\n")) = false := by
      rcases hp with rfl | rfl <;> rfl
    rw [this, Bool.false_and, Bool.and_false]
  have all0 : (List.zipWith (partB ws) ps (i ++ [PyData.str (txt y ++ "\n")])).all id = false := by
    rcases parts_form e1 with ⟨p, rfl⟩ | rfl | rfl | rfl
    · match i, l2 with
      | [a, b], _ => exact fin (partB ws p a && partB ws "account" b) "amount" (.inl rfl) (by
          show (partB ws p a && (partB ws "account" b && _)) = _
          rw [Bool.and_assoc]
          rfl)
    · match i, l2 with
      | [a], _ => exact fin (partB ws "place" a) "amount" (.inl rfl) rfl
    · match i, l2 with
      | [a], _ => exact fin (partB ws "place" a) "place" (.inr rfl) rfl
    · match i, l2 with
      | [], _ => exact fin true "place" (.inr rfl) rfl
  rw [all0, Bool.false_and]
theorem no_name {ws : List Str} {x : Str} (h : lowS x) : factB ws (wP (Txt.split x " ")) = false := by
  have e : Txt.join " " [x] = x := by
    refine TL.ext_tl ?_
    rw [TL.join_eq, TL.tl_join]
    rfl
  have := split_words (ps := [x]) (by simp) (fun p hp => by
    rw [List.mem_singleton.mp hp]
    exact fun hm => by have := h.2.2 32 hm; omega)
  rw [e] at this
  rw [this]
  exact fact_one
theorem no_empty {ws : List Str} : factB ws (wP (Txt.split "" " ")) = false := by
  have e : Txt.join " " [""] = "" := by decide +kernel
  have := split_words (ps := [""]) (by simp) (fun p hp => by
    rw [List.mem_singleton.mp hp]
    decide +kernel)
  rw [e] at this
  rw [this]
  exact fact_one
theorem no_blank {ws : List Str} : factB ws (wP (Txt.split " " " ")) = false := by
  have e : Txt.join " " ["", ""] = " " := by decide +kernel
  have := split_words (ps := ["", ""]) (by simp) (fun p hp => by
    have : p = "" := by
      simp only [List.mem_cons, List.not_mem_nil, or_false] at hp
      rcases hp with h | h <;> exact h
    rw [this]
    decide +kernel)
  rw [e] at this
  rw [this]
  exact fact_head0
end Lw

set_option Elab.async false
set_option linter.all false
set_option maxRecDepth 100000
set_option maxHeartbeats 4000000
/-! a caught exception, kept behind its suite -/
namespace Gx
open PySem PySem.Spec PyProof.Rows L2
/-- an exception of the class cls with the dict d, at a -/
def ExK (cls : Value) (d : Option Addr) (a : Addr) : HO := .ext fun h => ∃ (ob : Obj) (fv : Array Value), h.get? a = some ob ∧ Zc cls d ob ∧ ob.data = .fields fv
section
variable {X : Cx} {pins : List (Addr × Obj)} {σ : L2.St} {H : Hp} {s : Shared} {a : Addr} {ob : Obj} {fv : Array Value} {cls : Value} {d : Option Addr}
/-- what stands and is not tracked may be tracked, if it is no part of the frame and was not there at the entry -/
theorem track (J : Inv X pins σ H s) (g : s.heap.get? a = some ob) (z : Zc cls d ob) (df : ob.data = .fields fv) (free : H a = none) (n0 : X.s_0.heap.get? a = none) (nL : a ≠ X.env.locals) (np : ∀ p ∈ X.pn ++ pins, p.1 ≠ a) : Inv X pins σ (upd H a (ExK cls d a)) s := by
  have nc : ∀ x c, X.env.cells.lookup x = some c → c ≠ a := fun x c e q => by
    obtain ⟨v, o', h1, h2⟩ := J.cell x c e
    rw [q, g] at h1
    cases h1
    rw [df] at h2
    cases h2
  have B := J.base
  have far : ∀ b o, X.s_0.heap.get? b = some o → b ≠ a := fun b o e q => by rw [q, n0] at e; cases e
  have ok : ObjOk X.prog X.w (upd H a (ExK cls d a)) s.heap a (ExK cls d a) := ⟨⟨ob, fv, g, z, df⟩, ⟨ob, g⟩, fun h1 h2 ⟨o, v, q, r⟩ k => ⟨o, v, k o q, r⟩⟩
  have U : Un X.fs X.ex X.H_0 (upd H a (ExK cls d a)) X.s_0.heap s.heap :=
    { keep := B.keep, slot := B.slot, there := B.there
      free := fun b o e n x => (upd_ne (far b o e)).trans (B.free b o e n x)
      tups := fun b xs e => (upd_ne (ne_of_none (B.tups b xs e) free)).trans (B.tups b xs e)
      frzs := fun b o u e => (upd_ne (ne_of_none (B.frzs b o u e) free)).trans (B.frzs b o u e)
      tbls := fun b ps e => by
        obtain ⟨more, q⟩ := B.tbls b ps e
        exact ⟨more, (upd_ne (ne_of_none q free)).trans q⟩ }
  exact
    { ok := J.ok, os := J.os, bare := J.bare, base := U, loc := J.loc, cell := J.cell
      free := (upd_ne nL.symm).trans J.free
      freeC := fun x c e => (upd_ne (nc x c e)).trans (J.freeC x c e)
      pin := fun p hp => by
        obtain ⟨p1, p2, p3⟩ := J.pin p hp
        exact ⟨p1, (upd_ne (np p hp)).trans p2, p3⟩
      hok := J.hok.laidN (fun b u q => q) free ok
      len := J.len }
end
/-- the clause 'except x as n: y = n': every exception is caught; y is slot j, n slot i -/
def wKeep (K : PySem.W.Frag) (c : Value) (i j : Nat) (D : Ends) : WX := fun cls d σ H =>
  PySem.W.exmOne K cls c = some true ∧ ∀ a, H a = none → D.nx (((σ.set i (some (.ref a))).set j (some (.ref a))).set i none) (upd H a (ExK cls d a))
section
variable {X : Cx} {x n y : Str} {c : Value} {i j : Nat} {body : List Stmt} {np' py pn' pa pos pos' : Pos} {tb : WX → TS}
theorem ps_try_keep (hs : X.stack = X.env :: X.outer) (hf : X.env.frame = some X.env.locals) (hN : X.N.Nodup) (hi : X.N[i]? = some n) (hj : X.N[j]? = some y) (hln : X.env.kindOf n = some .local) (hly : X.env.kindOf y = some .local) (hc : Names X x c) (hex : X.ex = [])
    (hd : (n == ("__debug__" : Str)) = false := by decide) (hcd : (n == ("__classdict__" : Str)) = false := by decide)
    (hsw : swapsWith (.Name n pn') (some (.Name y py)) pa.line X.env = pure false := by rfl)
    (hb : ∀ (W : WX) (pn : List (Addr × Obj)) (xe : Value → Shared → Prop), Takes (X.tr pn xe) W → PassesOwn (model X.prog X.w) X.A X.env xe → PSs (X.tr pn xe) body (tb W)) :
    PS X (.Try body [.ExceptHandler (some (.Name x np')) (some n) [.Assign [.Name y py] (.Name n pn') pa] pos'] [] [] pos) (fun D σ H => tb (wKeep X.K c i j D) D σ H) := by
  refine ⟨fun pins s σ H D I h => wpAny_Try_except ?_⟩
  have fr1 : X.A.frames = some (X.env :: X.outer) := I.ok.frames.trans (congrArg some hs)
  refine wpAny_mono ((hb (wKeep X.K c i j D) (X.pn ++ pins) _ (fun u s' caught => ?_) PassesOwn.looking).run [] s σ H D (I.toTry _) h) (fun f s1 done => ?_) (fun _ _ z => z)
  · obtain ⟨a, B, sI, ps, σ1, H1, cls, dct, ue, I1, ground, slots, sky, fresh, osEq, bare1, mt, next⟩ := caught
    cases ue
    have I2 : Inv X pins σ1 H1 sI := I1.ofTry I.ok
    rw [hs] at sky ground
    refine Sky.land Zc.steady fr1 hf sky fun hA flA upA => ?_
    have IA : Inv X pins σ1 H1 { s' with heap := hA } := I2.landed (by rw [hs]; exact ground) flA.1 (slots.trans upA) osEq bare1
    obtain ⟨ob, fv, gA, zA, dA⟩ := flA.there
    have noFrame : a ∉ frs (X.env :: X.outer) := fun m => by
      obtain ⟨_, o', e', nf⟩ := flA.2.2.1.mem m
      rw [gA] at e'
      cases e'
      exact nf _ dA
    have notLoc : a ≠ X.env.locals := fun q => noFrame (List.mem_filterMap.mpr ⟨X.env, List.mem_cons_self, by rw [hf, q]⟩)
    have notFs : a ∉ X.fs := fun m => by
      obtain ⟨ev, m1, m2⟩ := List.mem_filterMap.mp m
      exact noFrame (List.mem_filterMap.mpr ⟨ev, List.mem_cons_of_mem _ m1, m2⟩)
    have groundA : B.get? a = none := flA.2.1
    -- nothing of before is at a
    have before : ∀ b o, sI.heap.get? b = some o → b ≠ a := fun b o e q => by
      rw [q] at e
      have := ground a o e noFrame
      rw [groundA] at this
      cases this
    have n0 : X.s_0.heap.get? a = none := by
      cases e : X.s_0.heap.get? a with
      | none => rfl
      | some o =>
        obtain ⟨o', e'⟩ := I2.base.there a o e (by rw [hex]; exact List.not_mem_nil)
        exact absurd rfl (before a o' e')
    have np : ∀ p ∈ X.pn ++ pins, p.1 ≠ a := fun p hp => before p.1 p.2 (I2.pin p hp).1
    refine wpAny_handleBy_cons (codeAny_handlers_test ?_) (by intro q; cases q)
    have SA := IA.suite gA dA fresh notLoc notFs
    have kind : PySem.W.Looks (model X.prog X.w) hA (typeOf (.ref a)) cls := fun A Q E s k q => wpAny_typeOf_ref (k _ _ gA) (by rw [zA.1]; exact q)
    have named : ∀ {Q : Value → Shared → Prop} {E : Value → Shared → Prop}, Q c { s' with heap := hA } → wpAny (model X.prog X.w) (X.A.mark (some (.ref a))) (eval (.Name x np') X.env) Q E { s' with heap := hA } := fun {Q E} q => by
      obtain ⟨m1, m2, m3⟩ := hc
      rcases m3 with m3 | ⟨m3, m4, m5⟩
      · exact ld_glob (X := X.suite a ((a, ob) :: (X.pn ++ pins))) SA m1 m3 q m2
      · exact ld_blt (X := X.suite a ((a, ob) :: (X.pn ++ pins))) SA m1 m3 m4 q m5 m2
    refine named ((PySem.W.exm_one (M := model X.prog X.w) IA.kIn kind mt).here ?_)
    refine codeAny_handlers_suite_as (HandSPX.lands_againZ flA fun hB flB upB => ?_)
    have IB : Inv X pins σ1 H1 { s' with heap := hB } := I2.landed (by rw [hs]; exact ground) flB.1 ((slots.trans upA).trans upB) osEq bare1
    obtain ⟨ob2, fv2, gB, zB, dB⟩ := flB.there
    have SB := IB.suite gB dB fresh notLoc notFs
    refine store_ok (X := X.suite a ((a, ob2) :: (X.pn ++ pins))) (v := .ref a) SB hN hi (.inl hln) rfl (fun s3 S3 => ?_) (.inr hln)
    have set2 : PS (X.suite a ((a, ob2) :: (X.pn ++ pins))) (.Assign [.Name y py] (.Name n pn') pa) (tAsg (tVar i) (gName j)) := ps_set hN hj (.inl hly) (pe_var hi (.inl hln) hd hcd) hsw (.inr hly)
    have goal1 : (tAsg (tVar i) (gName j)) { nx := fun σ' H' => σ' = (σ1.set i (some (.ref a))).set j (some (.ref a)) ∧ H' = H1, rt := fun _ _ => False, bk := fun _ _ => False, ct := fun _ _ => False } (σ1.set i (some (.ref a))) H1 := by
      have hlen : i < σ1.length := by
        rw [I2.len]
        exact (List.getElem?_eq_some_iff.mp hi).1
      exact ⟨_, List.getElem?_set_self hlen, rfl, rfl⟩
    have run1 := (pss_one set2).run [] s3 _ H1 _ S3 goal1
    refine wpAny_mono run1 (fun f s4 q => ?_) (fun _ _ z => False.elim z)
    cases f with
    | next =>
      obtain ⟨σ4, H4, S4, e1, e2⟩ := q
      rw [e1, e2] at S4
      refine gone_ok (X := X.suite a ((a, ob2) :: (X.pn ++ pins))) S4 hN hi hln fun s5 S5 => ?_
      have pin5 := S5.pin (a, ob2) (List.mem_append_left _ List.mem_cons_self)
      have J5 : Inv X pins (((σ1.set i (some (.ref a))).set j (some (.ref a))).set i none) H1 s5 := S5.unsuite I.ok
      exact ⟨_, _, track J5 pin5.1 zB dB fresh n0 notLoc np, next a fresh⟩
    | brk =>
      obtain ⟨_, _, _, z⟩ := q
      exact False.elim z
    | cont =>
      obtain ⟨_, _, _, z⟩ := q
      exact False.elim z
    | ret u =>
      obtain ⟨_, _, _, _, _, z⟩ := q
      exact False.elim z
  · cases f with
    | next =>
      obtain ⟨σ2, H2, J, q⟩ := done
      exact wpAny_execs_nil ⟨σ2, H2, J.ofTry I.ok, q⟩
    | brk =>
      obtain ⟨σ2, H2, J, q⟩ := done
      exact ⟨σ2, H2, J.ofTry I.ok, q⟩
    | cont =>
      obtain ⟨σ2, H2, J, q⟩ := done
      exact ⟨σ2, H2, J.ofTry I.ok, q⟩
    | ret u =>
      obtain ⟨v, σ2, H2, J, r, q⟩ := done
      exact ⟨v, σ2, H2, J.ofTry I.ok, r, q⟩
end
/-! isinstance and a field of it -/
section
variable {X : Cx} {pins : List (Addr × Obj)} {σ : L2.St} {H : Hp} {s : Shared} {a D : Addr} {d : Option Addr}
/-- its own dict, where it has one -/
def DicAt (H : Hp) : Option Addr → Prop
  | none => True
  | some dd => ∃ fs, H dd = some (.xd fs)
theorem inst_of (I : Inv X pins σ H s) (e : H a = some (ExK (.ref D) d a)) (k : DicAt H d) : ∃ ob od, PySem.W.InstAt s.heap a ob D od := by
  obtain ⟨⟨ob, fv, g, z, df⟩, _⟩ := I.hok a _ e
  have nc : PySem.W.notCls ob := by
    unfold PySem.W.notCls
    rw [df]
  cases d with
  | none => exact ⟨ob, none, g, z.1, nc, by rw [z.2]; exact True.intro⟩
  | some dd =>
    obtain ⟨fs, hd⟩ := k
    obtain ⟨mA, hns, _⟩ := (show ObjOk X.prog X.w H s.heap dd (.xd fs) from I.hok dd _ hd)
    obtain ⟨o, ho, _⟩ := lookIn_ns hns
    exact ⟨ob, some o, g, z.1, nc, by rw [z.2]; exact ho⟩
theorem kit_exc (T : ExcC X.K D) {ob : Obj} {od : Option Obj} : PySem.W.KitX X.K (.ref a) (.ref D) (fun h => PySem.W.InstAt h a ob D od) := by
  refine PySem.W.kitx_exc ?_ T.hg T.hk T.hs T.ha T.hn T.ht T.hm
  obtain ⟨cd, h, _⟩ := PySem.W.any_some T.hd
  rw [h]
  rfl
/-- isinstance(e, c), e a kept exception -/
def rIsX (K : PySem.W.Frag) : List V → Hp → VK → Prop := fun xs H Q => ∃ (a D : Addr) (d : Option Addr) (c : V) (u : Value) (b : Bool), xs = [.ref a, c] ∧ H a = some (ExK (.ref D) d a) ∧ DicAt H d ∧ ExcC K D ∧ ClsV c u ∧ PySem.W.kitOne K (.ref D) u = some b ∧ Q (.bl b) H
theorem call_isX : CallR X (.builtin "isinstance") (rIsX X.K) := by
  intro pins s σ H xs us Q I r h
  obtain ⟨a, D, d, c, u, b, rfl, e, k, T, cv, kb, q⟩ := h
  obtain ⟨u1, u2, rfl, r1, r2⟩ := vals2 r
  obtain rfl := cv.eq r2
  cases (show u1 = Value.ref a from r1)
  obtain ⟨ob, od, J⟩ := inst_of I e k
  exact PySem.W.kia_one (kit_exc T) I.kIn J kb (fun z => nomatch z) fun tk => ⟨.bl b, H, I.tok tk, rfl, q⟩
/-- isinstance(e, (c, ..)) -/
def rIsXT (K : PySem.W.Frag) : List V → Hp → VK → Prop := fun xs H Q => ∃ (a D : Addr) (d : Option Addr) (tp : Addr) (cs : List V) (us : List Value) (b : Bool), xs = [.ref a, .ref tp] ∧ H a = some (ExK (.ref D) d a) ∧ DicAt H d ∧ ExcC K D ∧ H tp = some (.tup cs) ∧ Paired ClsV cs us ∧ PySem.W.kitAny K (.ref D) us = some b ∧ Q (.bl b) H
theorem call_isXT : CallR X (.builtin "isinstance") (rIsXT X.K) := by
  intro pins s σ H xs us Q I r h
  obtain ⟨a, D, d, tp, cs, ws, b, rfl, e, k, T, ht, cv, kb, q⟩ := h
  obtain ⟨u1, u2, rfl, r1, r2⟩ := vals2 r
  cases (show u1 = Value.ref a from r1)
  cases (show u2 = Value.ref tp from r2)
  obtain ⟨ob, od, J⟩ := inst_of I e k
  obtain ⟨_, its, rv, o, h1, h2, n, h3⟩ := (show ObjOk X.prog X.w H s.heap tp (.tup cs) from I.hok tp _ ht)
  obtain rfl := ClsV.all cv rv
  obtain ⟨oc, od', dt, sl⟩ := o
  dsimp only at h2 h3
  rw [h2, h3] at h1
  exact PySem.W.kia_tup (kit_exc T) I.kIn J h1 kb (fun z => nomatch z) fun tk => ⟨.bl b, H, I.tok tk, rfl, q⟩
/-- e.f, e a kept exception of an own class -/
def tXk (K : PySem.W.Frag) (te : TE) (f : Str) : TE := fun σ H Q => te σ H fun x H1 => ∃ (a C dd : Addr) (fs : List (Str × V)) (v : V), x = .ref a ∧ H1 a = some (ExK (.ref C) (some dd) a) ∧ H1 dd = some (.xd fs) ∧ XfC K C ∧ PySem.W.findIn K (.ref C) f = some none ∧ fs.lookup f = some v ∧ Q v H1
theorem pe_xk {e : Expr} {te : TE} {pos : Pos} {f : Str} (he : PE X e te) (hb : attributeBase e f X.env (eval e X.env) = eval e X.env := by rfl) : PE X (.Attribute e f pos) (tXk X.K te f) := by
  refine ⟨fun pins s σ H Q I h => attr_of hb (thn (he.run pins s σ H _ I h) fun u s1 hu => ?_)⟩
  obtain ⟨x, H1, I1, rx, a, C, dd, fs, v, rfl, ea, ed, T, nf, lf, q⟩ := hu
  cases (show u = Value.ref a from rx)
  obtain ⟨⟨ob, fv, g, z, df⟩, _⟩ := I1.hok a _ ea
  obtain ⟨mA, hns, rl⟩ := (show ObjOk X.prog X.w H1 s1.heap dd (.xd fs) from I1.hok dd _ ed)
  obtain ⟨o, ho, look⟩ := lookIn_ns hns
  obtain ⟨w, hw, rw'⟩ := RelO.some_of (v := v) (o := mA f) (by rw [← lf]; exact rl f)
  have J : PySem.W.InstAt s1.heap a ob C (some o) := ⟨g, z.1, by unfold PySem.W.notCls; rw [df], by rw [z.2]; exact ho⟩
  exact HandSPX.exc_get I1.kIn J T.ga T.gg T.exC (PySem.W.findObj_own T.hdC nf rfl (by rw [look, hw])) (handed_of rw') ⟨v, H1, I1.tok _, rw', q⟩
end
/-! C.m(e, ..), m static, in a try's body -/
section
variable {X : Cx} {CX : CXT} {k : Nat} {C g p : Addr} {mc : Value} {fd : FuncData} {ps : List Str} {sp : Sp} {E : L2.St → XK} {o e : Expr} {es : List Expr} {m : Str} {pos apos : Pos} {ta : TE} {t : TA} {pl : Sem Bool}
def tSMethS (C : Addr) (sp : Sp) (E : L2.St → XK) (ta : TE) (t : TA) : TE := fun σ H Q => ta σ H fun x H1 => x = .ref C ∧ t σ H1 fun vs H2 => sp vs H2 Q (E σ)
theorem pe_smethS (he : PE X o ta) (r : ClX.CRead X.K C mc) (c : Go.SMet X.K C mc m p g) (hk : PySem.W.keepIn X.K (.ref g) = true) (F : FnOk X.prog X.w X.K X.mg X.base CX k g fd ps sp) (hr : Room k X.A) (hb : Binds X.K fd ps []) (hx : ∀ σ, PassesAt CX X σ (E σ)) (ha : PA X (e :: es) t)
    (hst : starEach (e :: es) X.env = (false, eval e X.env) :: starEach es X.env := by rfl) (hpl : (backTo pos (starEach es X.env)).any (·.1) = false := by rfl)
    (ht : eval (.Call (.Attribute o m apos) (e :: es) [] pos) X.env = (do
      let ov ← eval o X.env
      standAt apos.atName
      let (f, first) ← holding [ov] (getMethod ov m pl)
      callWith pos f first (backTo pos (starEach (e :: es) X.env)) (backToKw pos (keywordEach [] X.env))) := by rfl) :
    PE X (.Call (.Attribute o m apos) (e :: es) [] pos) (tSMethS C sp E ta t) := by
  refine ⟨fun pins s σ H Q I h => PySem.W.methodCall_KW (pl := pl) (thn (he.run pins s σ H _ I h) fun u s1 hu => ?_) ht⟩
  obtain ⟨x, H1, I1, rx, rfl, q⟩ := hu
  cases (show u = Value.ref C from rx)
  refine Go.getsm_ok I1 r c fun s2 I2 => PySem.W.callWith_K (first := []) (h₀ := X.base) I2.ok.mod.kin hk (thn (ha.run pos pins s2 σ H1 _ I2 q) fun us s3 hv => ?_) hst hpl
  obtain ⟨vs, H2, I3, rv, q2⟩ := hv
  exact ⟨I3.kIn, run_fnS (us := us) (vs := vs) F hr hb (hx σ) I3 rv q2⟩
end
end Gx

set_option Elab.async false
set_option linter.all false
set_option maxRecDepth 100000
set_option maxHeartbeats 4000000
namespace Lw
open L2 hiding Ext
open PySem PySem.Spec PyProof.Rows Gn Gr Gk Go Gt Gf Gu Gp Gx
/-! ### str(..) of a number or a text -/
def rStrX : List V → Hp → VK → Prop := fun xs H Q => (∃ i, xs = [.int i] ∧ i.natAbs.log2 < 1920 ∧ Q (.str (toString i)) H) ∨ ∃ a, xs = [.str a] ∧ Q (.str a) H
theorem call_strX {X : Cx} : CallR X (.type "str") rStrX := by
  intro pins s σ H xs us Q I r h
  rcases h with h | h
  · exact call_str_int pins s σ H xs us Q I r h
  · exact SkE.call_str_str pins s σ H xs us Q I r h
theorem str_wd {d g : Addr} {H H' : Hp} {Q : VK} {v : V} {y : PyData} (h : Dk d g H v y) (w : Wd y) (k : Q (.str (txt y)) H') : rStrX [v] H' Q := by
  rcases w with ⟨n, n1, n2, rfl⟩ | ⟨z, rfl, _⟩
  · cases h
    refine .inl ⟨_, rfl, ?_, k⟩
    have : ((n : Int)).natAbs = n := rfl
    rw [this]
    exact (Nat.log2_lt (by omega)).mpr (Nat.lt_of_le_of_lt n2 (by decide +kernel))
  · cases h
    exact .inr ⟨_, rfl, k⟩
section
variable {P : Program} {w : World} {K : PySem.W.Frag} {mg : Str → Option Value} {base : Heap} {C fI pN fN : Addr} {mc : Value} {fdN : FuncData}
/-! ### fact_text -/
abbrev nFText : List Str := ["fact", "part"]
def spFText : Sp := fun vs H Q _ => ∃ (d g : Addr) (v : V) (ys : List PyData), vs = [v] ∧ Dk d g H v (.tuple ys) ∧ (∀ y ∈ ys, Wd y) ∧ ys.length ≤ 4 ∧ ∀ H', Ext H H' → Q (.str (lineD ys)) H'
theorem scFText : FnScope nFText ["fact"] (defScope sFactText) := ⟨rfl, rfl, rfl, by decide +kernel, rfl, by decide +kernel, by decide +kernel⟩
theorem ok_ftext {f : Addr} {fd : FuncData} (F : Fun K "fact_text" "fact_text" sFactText f fd) (T : Names mg) : FnOk P w K mg base CX0 1 f fd ["fact"] spFText := by
  refine F.ok scFText (fun vs H Q E h => ?_) (fun cdv A outer s H vs Q E hr h => ?_)
  · obtain ⟨d, g, v, ys, rfl, _⟩ := h
    rfl
  · obtain ⟨d, g, v, ys, rfl, hv, hw, hl, k⟩ := h
    have hu := hu_of hr
    have nd := scFText.nd
    refine ⟨_, pss_one (ps_ret (pe_join pe_str (pe_lc (own := [("part", 1)]) (g := gName 1) (tt := tYes) rfl nd (pi_tup (pv 0)) (blkOk_by (N := nFText) (sc := defScope sFactText) (by decide +kernel))
(fun _ _ _ _ _ => pg_name (i := 1) nd rfl (.inl rfl)) (fun _ _ _ _ _ => pts_nil) (fun _ _ _ _ _ => pe_callTy call_strX rfl T.str (by decide +kernel) (pa_cons (pv 1) pa_nil))))), ?_⟩
    cases hv with
    | @tup p xs _ hp n1 n2 hall =>
    have ln := hall.len
    refine ⟨⟨_, rfl⟩, _, rfl, p, rfl, ⟨_, SqT.of hp⟩, fun D hD => ?_⟩
    refine lc_it walk_tup (fun i H' => H' D = some (.lst (((ys.take i).map txt).map V.str)) ∧ Ext H H') ⟨upd_same, Ext.new hD⟩ (fun i H' _ ⟨_, e⟩ => SqT.of (e _ _ hp)) ?_ ?_
    · rintro i x H1 H2 hi ⟨d1, k1⟩ ⟨rfl, hx⟩
      obtain ⟨y, hy, dk⟩ := hall.get hx
      refine ⟨rfl, yes_of ?_⟩
      refine ⟨_, rfl, ?_⟩
      dsimp only [tNil]
      refine str_wd (dk.kp (Kp.of k1)) (hw y (List.mem_of_getElem? hy)) ⟨_, d1, ?_, ?_, fun b o e => ?_⟩
      · rw [List.length_map, List.length_map, List.length_take]
        exact small1000 (by omega)
      · rw [upd_same, List.take_add_one, hy, List.map_append, List.map_append]
        rfl
      · rw [upd_ne (ne_of_none e hD)]
        exact k1 _ _ e
    · rintro H1 ⟨d1, k1⟩
      rw [List.take_of_length_le (by omega)] at d1
      have la := (line_pt hw hl).wt
      have sp1 : (" " : Str).length = 1 := by decide +kernel
      refine ⟨_, _, _, rfl, rfl, .inl (SqL.of d1), ?_, k _ k1⟩
      rw [sp1, Nat.mul_one]
      exact Nat.le_trans la (by decide)
/-! ### is_number -/
abbrev digits : Str := "0123456789"
theorem digits_is : digits.cps.toList = [48, 49, 50, 51, 52, 53, 54, 55, 56, 57] := by decide +kernel
theorem dig_in (c : Nat) : decide (c ∈ digits.cps.toList) = dig c := by
  rw [digits_is]
  unfold dig
  rw [← Bool.decide_and]
  refine decide_eq_decide.mpr ?_
  simp only [List.mem_cons, List.not_mem_nil, or_false]
  omega
theorem zero_is : ("0" : Str) = (⟨#[48]⟩ : Str) := by decide +kernel
theorem one_zero (c : Nat) : decide (V.str (⟨#[c]⟩ : Str) = V.str "0") = decide (c = 48) := by
  refine decide_eq_decide.mpr ⟨fun e => ?_, fun e => ?_⟩
  · rw [zero_is] at e
    injection e with e
    injection e with e
    have := congrArg (fun a : Array Nat => a.toList) e
    simpa using this
  · rw [e, zero_is]
abbrev nIsNumb : List Str := ["word", "most", "digit"]
def spIsNum : Sp := fun vs H Q _ => ∃ (x : Str) (m : Nat), vs = [.str x, .int (m : Int)] ∧ x.length ≤ 1000 ∧ ∀ H', Ext H H' → Q (.bl (nL x && decide (x.length ≤ m))) H'
theorem scIsNumb : FnScope nIsNumb ["word", "most"] (defScope sIsNumber) := ⟨rfl, rfl, rfl, by decide +kernel, rfl, by decide +kernel, by decide +kernel⟩
theorem ok_isNumb {f : Addr} {fd : FuncData} (F : Fun K "is_number" "is_number" sIsNumber f fd) (T : Names mg) (hD0 : ∃ t, mg "DIGITS" = some (.str digits t)) : FnOk P w K mg base CX0 1 f fd ["word", "most"] spIsNum := by
  refine F.ok scIsNumb (fun vs H Q E h => ?_) (fun cdv A outer s H vs Q E hr h => ?_)
  · obtain ⟨x, m, rfl, _⟩ := h
    rfl
  · obtain ⟨x, m, rfl, hx, k⟩ := h
    have hu := hu_of hr
    have nd := scIsNumb.nd
    obtain ⟨t1, hD⟩ := hD0
    have el : (TL.tl x).length = x.length := len_cps x
    refine ⟨_, pss_cons (ps_if (PW.pt (pw_or (pt_cmpR op_lt (pe_callB call_len_str rfl T.len PySem.boot_len (pa_cons (pv 0) pa_nil)) pe_int (nomark _)) (pw_or (pt_cmpR op_gt (pe_callB call_len_str rfl T.len PySem.boot_len (pa_cons (pv 0) pa_nil)) (pv 1) (nomark _)) (pw_or1 (pt_cmpR op_eq (pe_ix ix_str (pv 0) pe_int (fun _ _ => rfl)) pe_str (nomark _)))))) (pss_one (ps_ret pe_bl)) pss_nil)
(pss_one (ps_ret (pe_callB (cr_all rfl) rfl T.all (by decide +kernel) (pa_cons (pe_lc (own := [("digit", 2)]) (g := gName 2) (tt := tYes) rfl nd (pi_str (pv 0)) (blkOk_by (N := nIsNumb) (sc := defScope sIsNumber) (by decide +kernel))
(fun _ _ _ _ _ => pg_name (i := 2) nd rfl (.inl rfl)) (fun _ _ _ _ _ => pts_nil) (fun _ _ _ _ _ => pe_cmpR op_in_sign (pv 2) (pe_glob (v := .str digits) rfl hD ⟨_, rfl⟩) rfl)) pa_nil)))), ?_⟩
    refine ⟨_, rfl, x, rfl, by rw [sizeLine_eq]; omega, _, _, rfl, rfl, _, rfl, ?_⟩
    unfold nL at k
    refine ite2 (fun e => ?_) (fun n1 => ?_)
    · have e : (x.length : Int) < 1 := of_decide_eq_true e
      rw [List.length_eq_zero_iff.mp (by omega : (TL.tl x).length = 0)] at k
      exact iteT (k H Ext.refl)
    have n1 : ¬ (x.length : Int) < 1 := of_decide_eq_false (Bool.eq_false_iff.mpr n1)
    refine ⟨_, rfl, x, rfl, by rw [sizeLine_eq]; omega, _, rfl, _, _, rfl, rfl, _, rfl, ?_⟩
    refine ite2 (fun e => ?_) (fun n2 => ?_)
    · have e : (m : Int) < x.length := of_decide_eq_true e
      rw [decide_eq_false (show ¬ x.length ≤ m by omega), Bool.and_false] at k
      exact iteT (k H Ext.refl)
    have n2 : ¬ (m : Int) < x.length := of_decide_eq_false (Bool.eq_false_iff.mpr n2)
    rw [decide_eq_true (show x.length ≤ m by omega), Bool.and_true] at k
    cases hx0 : TL.tl x with
    | nil =>
      rw [hx0] at el
      have : (0 : Nat) = x.length := el
      omega
    | cons c r =>
    have hc0 : atI x.cps.toList 0 = some c := by
      show atI (TL.tl x) ((0 : Nat) : Int) = _
      rw [hx0]
      exact atI_nat rfl
    refine ⟨_, rfl, x, 0, c, rfl, rfl, by rw [sizeLine_eq]; omega, hc0, rfl, _, rfl, ?_⟩
    rw [hx0] at k
    rw [one_zero]
    by_cases h0 : c = 48
    · rw [decide_eq_true h0]
      have : nzd (c :: r) = false := by
        rw [nzd_cons]
        rw [decide_eq_true h0]
        rfl
      rw [this] at k
      exact iteT (k H Ext.refl)
    rw [decide_eq_false h0]
    have en : nzd (c :: r) = (c :: r).all dig := by
      rw [nzd_cons]
      rw [decide_eq_false h0]
      rfl
    rw [en] at k
    refine iteF ?_
    refine ⟨_, rfl, x, rfl, fun D hD' => ?_⟩
    refine lc_it walk_str (fun i H' => H' D = some (.lst (((x.cps.toList.take i).map dig).map V.bl)) ∧ Ext H H') ⟨upd_same, Ext.new hD'⟩ (fun _ _ _ _ => trivial) ?_ ?_
    · rintro i y H1 H2 hi ⟨hd, he⟩ ⟨rfl, c1, hc, rfl⟩
      refine ⟨rfl, yes_of ?_⟩
      refine ⟨_, rfl, c1, _, rfl, rfl, _, hd, ?_, ?_, fun a o e => ?_⟩
      · have := len_cps x
        rw [List.length_map, List.length_map, List.length_take]
        exact small1000 (by omega)
      · rw [upd_same, take_succ_map dig (cps_at hc), List.map_append, dig_in]
        rfl
      · rw [upd_ne (ne_of_none e hD')]
        exact he a o e
    · rintro H1 ⟨hd, he⟩
      refine ⟨D, _, rfl, SqL.of hd, ?_⟩
      rw [← cps_len, List.take_length, List.all_map]
      have : x.cps.toList = c :: r := hx0
      rw [this]
      exact k H1 he
end
end Lw

set_option Elab.async false
set_option linter.all false
set_option maxRecDepth 100000
set_option maxHeartbeats 4000000
namespace Lw
open L2 hiding Ext
open PySem PySem.Spec PyProof.Rows Gn Gr Gk Go Gt Gf Gu Gp Gx
theorem none_of {H H' : Hp} {p : Addr} (k : Ext H H') (h : H' p = none) : H p = none := by
  cases e : H p with
  | none => rfl
  | some u => rw [k _ _ e] at h; cases h
/-- the errors' classes -/
structure XT (K : PySem.W.Frag) (mg : Str → Option Value) (CT CP fTI : Addr) : Prop where
  oT : OexC K CT
  gT : mg "InvalidText" = some (.ref CT)
  iT : PySem.W.findIn K (.ref CT) "__init__" = some (some (.ref fTI))
  tT : PySem.W.typeIn K (.ref fTI) = some (.type "function")
  nT : PySem.W.findIn K (.ref CT) "line" = some none
  cT : ExcC K CT
  fT : XfC K CT
  nm : mg "PurseError" = some (.ref CP)
  eT : PySem.W.exmOne K (.ref CT) (.ref CP) = some true
  sT : PySem.W.kitOne K (.ref CT) (.ref CT) = some true
  vT : PySem.W.kitOne K (.ref CT) (.type "ValueError") = some true
  nv : mg "ValueError" = none
section
variable {P : Program} {w : World} {K : PySem.W.Frag} {mg : Str → Option Value} {base : Heap} {C fI pN fN : Addr} {mc : Value} {fdN : FuncData}
/-! ### InvalidText.__init__ -/
abbrev sTI : Stmt := (cBody (top 4)).getD 0 (.Pass ⟨0, 0, 0, 0⟩)
def spTI (CT : Addr) : Sp := fun vs H Q _ => ∃ (a : Addr) (v : V), vs = [.ref a, v] ∧ H a = some (exo a CT none) ∧ ∀ dx, H dx = none → dx ≠ a → Q .non (upd (upd H dx (exd dx [("line", v)])) a (exo a CT (some dx)))
theorem scTI : FnScope ["self", "line"] ["self", "line"] (defScope sTI) := ⟨rfl, rfl, rfl, by decide +kernel, rfl, by decide +kernel, by decide +kernel⟩
theorem ok_ti {CT CP fTI f : Addr} {fd : FuncData} (F : Fun K "__init__" "InvalidText.__init__" sTI f fd) (X : XT K mg CT CP fTI) : FnOk P w K mg base CX0 1 f fd ["self", "line"] (spTI CT) := by
  refine F.ok scTI (fun vs H Q E h => ?_) (fun cdv A outer s H vs Q E hr h => ?_)
  · obtain ⟨a, v, rfl, _⟩ := h
    rfl
  · obtain ⟨a, v, rfl, ha, k⟩ := h
    refine ⟨_, pss_one (ps_ost (pv 0) (pv 1)), ?_⟩
    exact ⟨_, rfl, _, rfl, a, CT, rfl, X.oT, X.nT, .inl ⟨ha, fun dx h1 h2 => k dx h1 h2⟩⟩
theorem text_made {CT : Addr} {H1 : Hp} {n : Int} {E : XK} {a : Addr} (ha : H1 a = none) (k : ∀ H' d, Ext H1 H' → H1 d = none → H' d = some (.xd [("line", .int n)]) → E (.ref CT) (some d) H') :
    spTI CT [.ref a, .int n] (upd H1 a (exo a CT none)) (fun v H2 => v = .non ∧ ∃ (d : Addr) (fs : List (Str × V)), H2 a = some (exo a CT (some d)) ∧ H2 d = some (exd d fs) ∧ H1 d = none ∧ E (.ref CT) (some d) (upd (del H2 a) d (.xd fs))) (fun _ _ _ => False) := by
  refine ⟨a, .int n, rfl, upd_same, fun dx h1 h2 => ⟨rfl, dx, [("line", .int n)], upd_same, ?_, ?_, ?_⟩⟩
  · rw [upd_ne h2, upd_same]
  · rw [upd_ne h2] at h1
    exact h1
  · have hd : H1 dx = none := by rw [upd_ne h2] at h1; exact h1
    refine k _ dx (fun b o hb => ?_) hd upd_same
    rw [upd_ne (ne_of_none hb hd), del_ne (ne_of_none hb ha), upd_ne (ne_of_none hb ha), upd_ne (ne_of_none hb hd), upd_ne (ne_of_none hb ha)]
    exact hb
/-! ### parse_fact -/
abbrev nParseF : List Str := ["text", "forest", "fact", "word"]
def Bad (CT : Addr) (H : Hp) (E : XK) : Prop := ∀ H' d, Ext H H' → H d = none → H' d = some (.xd [("line", .int 0)]) → E (.ref CT) (some d) H'
theorem Bad.ext {CT : Addr} {H H1 : Hp} {E : XK} (h : Bad CT H E) (k : Ext H H1) : Bad CT H1 E := fun H' d k' d0 d1 => h H' d (k.trans k') (none_of k d0) d1
def Got (C CT : Addr) (ws : List Str) (x : Str) (H : Hp) (Q : VK) (E : XK) : Prop :=
  if factB ws (wP (Txt.split x " ")) = true then ∀ H' t, Ext H H' → H t = none → H' t = some (.tup ((Txt.split x " ").map fun y => cvV (nP y) y)) → Q (.ref t) H' else Bad CT H E
def spParseF (C CT : Addr) : Sp := fun vs H Q E => ∃ (a : Addr) (v : V) (rs : List FRow), vs = [v, .ref a] ∧ FoAt C H a rs ∧
  ((∃ x : Str, v = .str x ∧ x.length ≤ 200 ∧ Got C CT (fNames rs) x H Q E) ∨ (∃ T, TyT H v T ∧ kitB T "str" = some false ∧ Bad CT H E))
theorem scParseF : FnScope nParseF ["text", "forest"] (defScope sParseFact) := ⟨rfl, rfl, rfl, by decide +kernel, rfl, by decide +kernel, by decide +kernel⟩
theorem ok_parseF {f fN2 fF2 CT CP fTI : Addr} {fd fdN2 fdF2 fdTI : FuncData} (F : Fun K "parse_fact" "parse_fact" sParseFact f fd) (T : Names mg) (Y : XT K mg CT CP fTI) (hM0 : ∃ t, mg "MOST_DIGITS" = some (.int 10 t))
    (GN : FnOk P w K mg base CX0 1 fN2 fdN2 ["word", "most"] spIsNum) (bN : Binds K fdN2 ["word", "most"] []) (kN : PySem.W.keepIn K (.ref fN2) = true) (mN : mg "is_number" = some (.ref fN2))
    (GF : FnOk P w K mg base CX0 4 fF2 fdF2 ["value", "forest"] (spIsFact C)) (bF : Binds K fdF2 ["value", "forest"] []) (kF : PySem.W.keepIn K (.ref fF2) = true) (mF : mg "is_fact" = some (.ref fF2))
    (GT : FnOk P w K mg base CX0 1 fTI fdTI ["self", "line"] (spTI CT)) (bT : Binds K fdTI ["self", "line"] []) :
    FnOk P w K mg base (L2.CX P w) 5 f fd ["text", "forest"] (spParseF C CT) := by
  refine F.okX scParseF (fun vs H Q E h => ?_) (fun cdv A outer s H vs Q E hr h => ?_)
  · obtain ⟨a, v, rs, rfl, _⟩ := h
    rfl
  · obtain ⟨a, v, rs, rfl, hF, h⟩ := h
    have hu := hu_of hr
    have nd := scParseF.nd
    have hr1 : Room 1 (A.deeper (envOfC "parse_fact" (defScope sParseFact) s.heap.objs.size f cdv)) := hr.mono (by decide)
    have hr2 : Room 2 (A.deeper (envOfC "parse_fact" (defScope sParseFact) s.heap.objs.size f cdv)) := hr.mono (by decide)
    have hr4 : Room 4 (A.deeper (envOfC "parse_fact" (defScope sParseFact) s.heap.objs.size f cdv)) := hr
    obtain ⟨t1, hMD⟩ := hM0
    refine ⟨_, pss_cons (ps_if (pt_not (pt_val (pe_callB call_isi rfl T.isi (by decide +kernel) (pa_cons (pv 0) (pa_cons (pe_bltn (v := .ty "str") rfl T.str (by decide +kernel) rfl) pa_nil))))) (pss_one (ps_raise rfl (takes_of rfl rfl rfl rfl) (pmk_oex Y.oT Y.iT Y.tT GT hr2 bT .nil (fun _ _ _ _ _ _ _ h => False.elim h) rfl Y.gT (pa_cons pe_int pa_nil)))) pss_nil)
(pss_cons (ps_set (i := 2) nd rfl (.inl rfl) (pe_callTy call_tuple_of rfl T.tuple (by decide +kernel) (pa_cons (pe_lc (own := [("word", 3)]) (g := gName 3) (tt := tYes) rfl nd (pi_list (pe_split (pv 0) pe_str)) (blkOk_by (N := nParseF) (sc := defScope sParseFact) (by decide +kernel))
(fun _ _ _ _ _ => pg_name (i := 3) nd rfl (.inl rfl)) (fun _ _ _ _ _ => pts_nil) (fun _ _ _ _ _ => pe_ifExp (pt_val (pe_call GN hr1 rfl mN kN bN .nil pass0 (pa_cons (pv 3) (pa_cons (pe_glob (v := .int 10) rfl hMD ⟨_, rfl⟩) pa_nil)))) (pe_callTy call_int_str (by rfl) T.int (by decide +kernel) (pa_cons (pv 3) pa_nil)) (pv 3))) pa_nil)))
(pss_cons (ps_if (pt_not (pt_val (pe_call GF hr4 rfl mF kF bF .nil pass0 (pa_cons (pv 2) (pa_cons (pv 1) pa_nil))))) (pss_one (ps_raise rfl (takes_of rfl rfl rfl rfl) (pmk_oex Y.oT Y.iT Y.tT GT hr2 bT .nil (fun _ _ _ _ _ _ _ h => False.elim h) rfl Y.gT (pa_cons pe_int pa_nil)))) pss_nil)
(pss_one (ps_ret (pv 2))))), ?_⟩
    rcases h with ⟨x, rfl, hx, k⟩ | ⟨U, hty, hkit, k⟩
    · refine ⟨_, rfl, _, _, _, _, true, rfl, .ty _, (TyT.str (H := H) x).x, kit_ty (by decide +kernel), true, rfl, iteF ?_⟩
      refine ⟨_, rfl, ⟨_, rfl⟩, _, _, rfl, rfl, by decide +kernel, by rw [sizeLine_eq]; omega, fun p hp => ?_⟩
      have sp := sp_parts x
      unfold Got at k
      generalize Txt.split x " " = xs at k sp ⊢
      have k1 : Ext H (upd H p (.lst (xs.map V.str))) := Ext.new hp
      have p1 : (upd H p (.lst (xs.map V.str))) p = some (.lst (xs.map V.str)) := upd_same
      generalize upd H p (.lst (xs.map V.str)) = H1 at k1 p1 ⊢
      have spl := sp.count
      refine ⟨p, rfl, ⟨_, SqL.of p1⟩, fun D hD => ?_⟩
      refine lc_it walk_list (fun i H' => H' D = some (.lst ((xs.take i).map fun y => cvV (nP y) y)) ∧ Ext H1 H') ⟨upd_same, Ext.new hD⟩ (fun i H' _ ⟨_, e⟩ => SqL.of (e _ _ p1)) ?_ ?_
      · rintro i y H2 H3 hi ⟨d2, k2⟩ ⟨rfl, hy⟩
        rw [List.getElem?_map] at hy
        obtain ⟨q, hq, rfl⟩ := Option.map_eq_some_iff.mp hy
        have hql := sp.len (List.mem_of_getElem? hq)
        have fin : ∀ H4, Ext H3 H4 → ∃ acc, H4 D = some (HO.lst acc) ∧ acc.length < sizeLine ∧ upd H4 D (HO.lst (acc ++ [cvV (nP q) q])) D = some (HO.lst ((xs.take (i + 1)).map fun y => cvV (nP y) y)) ∧ Ext H1 (upd H4 D (HO.lst (acc ++ [cvV (nP q) q]))) := fun H4 k4 => by
          refine ⟨_, k4 _ _ d2, ?_, ?_, fun b o e => ?_⟩
          · rw [List.length_map, List.length_take]
            exact small1000 (by omega)
          · rw [upd_same, List.take_add_one, hq, List.map_append]
            rfl
          · rw [upd_ne (ne_of_none e hD)]
            exact k4 _ _ (k2 _ _ e)
        refine ⟨rfl, yes_of ?_⟩
        refine ⟨_, rfl, q, 10, rfl, by omega, fun H4 k4 => ?_⟩
        refine ⟨_, rfl, ?_⟩
        have f4 := fin H4 k4
        refine ite2 (fun e => ?_) (fun e => ?_)
        · have e : nP q = true := e
          have e1 : nL q = true := by unfold nP at e; rw [Bool.and_eq_true] at e; exact e.1
          obtain ⟨dg, ne⟩ := nzd_digits e1
          have ec : cvV (nP q) q = .int ((NumText.digitsVal (TL.tl q) : Nat) : Int) := by unfold cvV; rw [if_pos e]
          rw [ec] at f4
          exact ⟨_, rfl, q, _, rfl, PySem.intText_digits dg ne (by omega), by omega, f4⟩
        · have e : nP q = false := Bool.eq_false_iff.mpr e
          have ec : cvV (nP q) q = .str q := by unfold cvV; rw [e]; rfl
          rw [ec] at f4
          exact ⟨_, rfl, f4⟩
      · rintro H2 ⟨d2, k2⟩
        rw [List.length_map, List.take_length] at d2
        refine ⟨D, _, rfl, .inl ⟨SqL.of d2, fun t ht => ?_⟩⟩
        have ht0 : H t = none := none_of (k1.trans k2) ht
        have k3 : Ext H (upd H2 t (.tup (xs.map fun y => cvV (nP y) y))) := (k1.trans k2).trans (Ext.new ht)
        have t3 : (upd H2 t (.tup (xs.map fun y => cvV (nP y) y))) t = some (.tup (xs.map fun y => cvV (nP y) y)) := upd_same
        generalize upd H2 t (.tup (xs.map fun y => cvV (nP y) y)) = H3 at k3 t3 ⊢
        obtain ⟨dx, q0, g1, g2⟩ := id hF
        have nta : t ≠ a := (ne_of_none g1 ht0).symm
        refine ⟨_, rfl, _, rfl, a, a, a, .ref t, wP xs, rs, rfl, hF.ext k3, .tup t3 nta nta (cv_all nP xs), fun H4 k4 => ⟨_, rfl, ?_⟩⟩
        have k34 := k3.trans k4
        cases hf : factB (fNames rs) (wP xs) with
        | true =>
          rw [hf, if_pos rfl] at k
          exact iteF ⟨_, rfl, k H4 t k34 ht0 (k4 _ _ t3)⟩
        | false =>
          rw [hf, if_neg Bool.false_ne_true] at k
          exact iteT ⟨by decide, fun b hb => text_made hb fun H' d k' hd hl => k H' d (k34.trans k') (none_of k34 hd) hl⟩
    · refine ⟨_, rfl, _, _, _, _, false, rfl, .ty _, hty.x, kit_ty hkit, false, rfl, iteT ?_⟩
      exact ⟨by decide, fun b hb => text_made hb k⟩
end
end Lw

set_option Elab.async false
set_option linter.all false
set_option maxRecDepth 100000
set_option maxHeartbeats 4000000
namespace Lw
open L2 hiding Ext
open PySem PySem.Spec PyProof.Rows Gn Gr Gk Go Gt Gf Gu Gp Gx
theorem isN_t {m i : Int} (h1 : 1 ≤ i) (h2 : i ≤ m) : isN m (.int i) = true := decide_eq_true ⟨h1, h2⟩
theorem factR_of {ws : List Str} {z : Str} {ps : List Str} {r : List PyData} (h : partsOf z = some ps) (hl : r.length = ps.length) (ha : (List.zipWith (partB ws) ps r).all id = true) (hc : decide (z = "consent" ∨ z = "refuse") = false ∨ ltB r = true) : factR ws z r = true := by
  rw [factR_some h, decide_eq_true hl, ha]
  rcases hc with hc | hc
  · rw [hc]
    rfl
  · rw [hc, Bool.or_true]
    rfl
theorem fact3 {ws : List Str} {z p n : Str} {i j : Int} (m : Int) (h : partsOf z = some [p, "account", "amount"]) (hp : partB ws p (.int i) = isN m (.int i)) (hz : decide (z = "consent" ∨ z = "refuse") = false) (i0 : 1 ≤ i) (i1 : i ≤ m) (hn : n ∈ ws) (j0 : 1 ≤ j) (j1 : j ≤ 1000000000) : factR ws z [.int i, .str n, .int j] = true := by
  refine factR_of h rfl ?_ (.inl hz)
  show (partB ws p (.int i) && (decide (n ∈ ws) && (isN 1000000000 (.int j) && true))) = true
  rw [hp, isN_t i0 i1, decide_eq_true hn, isN_t j0 j1]
  rfl
theorem fact2 {ws : List Str} {z : Str} {i j : Int} (m : Int) (h : (partsOf z = some (["place", "amount"] : List Str) ∧ m = 1000000000 ∧ decide (z = "consent" ∨ z = "refuse") = false) ∨ (partsOf z = some (["place", "place"] : List Str) ∧ m = 20 ∧ j < i)) (i0 : 1 ≤ i) (i1 : i ≤ 20) (j0 : 1 ≤ j) (j1 : j ≤ m) : factR ws z [.int i, .int j] = true := by
  rcases h with ⟨h, rfl, hz⟩ | ⟨h, rfl, hz⟩
  · refine factR_of h rfl ?_ (.inl hz)
    show (isN 20 (.int i) && (isN 1000000000 (.int j) && true)) = true
    rw [isN_t i0 i1, isN_t j0 j1]
    rfl
  · refine factR_of h rfl ?_ (.inr (decide_eq_true hz))
    show (isN 20 (.int i) && (isN 20 (.int j) && true)) = true
    rw [isN_t i0 i1, isN_t j0 j1]
    rfl
theorem fact1 {ws : List Str} {i : Int} (i0 : 1 ≤ i) (i1 : i ≤ 20) : factR ws "withdrawn" [.int i] = true := by
  refine factR_of (ps := ["place"]) (by decide +kernel) rfl ?_ (.inl (by decide +kernel))
  show (isN 20 (.int i) && true) = true
  rw [isN_t i0 i1]
  rfl
theorem ten20 {i : Int} (h0 : -3000000000 ≤ i) (h : i ≤ 3000000000) : i.natAbs < 10 ^ 20 := by
  have : (10:Nat) ^ 20 = 100000000000000000000 := by decide
  omega
def Nm (H : Hp) (a : Addr) (ws : List Str) : Prop := H a = some (.lst (ws.map V.str)) ∧ ws ≠ [] ∧ ws.length ≤ 8 ∧ ∀ x ∈ ws, nameOk x = true
section
variable {P : Program} {w : World} {K : PySem.W.Frag} {mg : Str → Option Value} {base : Heap}
abbrev nLFact : List Str := ["_law_state", "_law_names", "_law_places", "_law_marks", "_law_way", "_law_spot", "_law_number", "_law_later"]
def spLFact (ns : List Int) : Sp := fun vs H Q _ => ∃ (d g c l : Addr) (b : Nat) (m z : Int) (ws : List Str), vs = [.ref d, .ref l, .int m, .int z] ∧ Dw ns d g c b H ∧ b ≤ 800000000 ∧ l ≠ d ∧ l ≠ g ∧ Nm H l ws ∧ 4 ≤ m ∧ m ≤ 20 ∧ 1 ≤ z ∧ z ≤ 999 ∧
  ∀ (p : Addr) (x : PyData) (H' : Hp), Dk d g H' (.ref p) x → Fx ws x → Dw ns d g c (b + 20) H' → Kp d g H H' → Q (.ref p) H'
theorem scLFact : FnScope nLFact ["_law_state", "_law_names", "_law_places", "_law_marks"] (defScope sLFact) := ⟨rfl, rfl, rfl, by decide +kernel, rfl, by decide +kernel, by decide +kernel⟩
theorem ok_lfact {f fT fP : Addr} {fd fdT fdP : FuncData} (ns : List Int) (F : Fun K "_law_fact" "_law_fact" sLFact f fd) (R : Draw P w K mg base ns fT fP fdT fdP) : FnOk P w K mg base CX0 4 f fd ["_law_state", "_law_names", "_law_places", "_law_marks"] (spLFact ns) := by
  refine F.ok scLFact (fun vs H Q E h => ?_) (fun cdv A outer s H vs Q E hr h => ?_)
  · obtain ⟨d, g, c, l, b, m, z, ws, rfl, _⟩ := h
    rfl
  · obtain ⟨d, g, c, l, b, m, z, ws, rfl, D, hb, nld, nlg, ⟨hl, hws, hlen, hok⟩, m0, m1, z0, z1, k⟩ := h
    have hu := hu_of hr
    have nd := scLFact.nd
    have hr3 : Room 3 (A.deeper (envOfC "_law_fact" (defScope sLFact) s.heap.objs.size f cdv)) := hr
    have hr2 : Room 2 (A.deeper (envOfC "_law_fact" (defScope sLFact) s.heap.objs.size f cdv)) := hr.mono (by decide)
    refine ⟨_, pss_cons (ps_par (i := 4) (j := 5) (by rfl) nd rfl rfl (by decide) rfl rfl (pa_cons (pe_call R.GT hr2 rfl R.mT R.kT R.bT .nil pass0 (pa_cons (pv 0) (pa_cons pe_int pa_nil))) (pa_cons (pe_op op_add pe_int (pe_call R.GT hr2 rfl R.mT R.kT R.bT .nil pass0 (pa_cons (pv 0) (pa_cons (pv 2) pa_nil)))) pa_nil)) (by rfl))
(pss_cons (ps_set (i := 6) nd rfl (.inl rfl) (pe_call R.GP hr3 rfl R.mP R.kP R.bP .nil pass0 (pa_cons (pv 0) (pa_cons (pe_lst (pa_cons pe_int (pa_cons pe_int (pa_cons pe_int (pa_cons (pe_op op_add pe_int (pe_call R.GT hr2 rfl R.mT R.kT R.bT .nil pass0 (pa_cons (pv 0) (pa_cons pe_int pa_nil)))) (pa_cons (pe_op op_add pe_int (pe_call R.GT hr2 rfl R.mT R.kT R.bT .nil pass0 (pa_cons (pv 0) (pa_cons (pe_op op_pow pe_int pe_int) pa_nil)))) (pa_cons (pe_op op_pow pe_int pe_int) pa_nil))))))) pa_nil))))
(pss_cons (ps_if (pt_cmpR op_lt (pv 4) pe_int (nomark _)) (pss_one (ps_ret (pe_tup (pa_cons (pe_ix ix_list (pe_lst (pa_cons pe_str (pa_cons pe_str pa_nil))) (pv 4) (fun _ _ => rfl)) (pa_cons (pv 5) (pa_cons (pe_call R.GP hr3 rfl R.mP R.kP R.bP .nil pass0 (pa_cons (pv 0) (pa_cons (pv 1) pa_nil))) (pa_cons (pv 6) pa_nil))))))) pss_nil)
(pss_cons (ps_if (pt_cmpR op_lt (pv 4) pe_int (nomark _)) (pss_one (ps_ret (pe_tup (pa_cons pe_str (pa_cons (pe_op op_add pe_int (pe_call R.GT hr2 rfl R.mT R.kT R.bT .nil pass0 (pa_cons (pv 0) (pa_cons (pv 3) pa_nil)))) (pa_cons (pe_call R.GP hr3 rfl R.mP R.kP R.bP .nil pass0 (pa_cons (pv 0) (pa_cons (pv 1) pa_nil))) (pa_cons (pv 6) pa_nil))))))) pss_nil)
(pss_cons (ps_if (pt_cmpR op_eq (pv 4) pe_int (nomark _)) (pss_one (ps_ret (pe_tup (pa_cons pe_str (pa_cons (pv 5) (pa_cons (pv 6) pa_nil)))))) pss_nil)
(pss_cons (ps_if (pt_cmpR op_eq (pv 4) pe_int (nomark _)) (pss_one (ps_ret (pe_tup (pa_cons pe_str (pa_cons (pv 5) pa_nil))))) pss_nil)
(pss_cons (ps_set (i := 7) nd rfl (.inl rfl) (pe_op op_add pe_int (pe_call R.GT hr2 rfl R.mT R.kT R.bT .nil pass0 (pa_cons (pv 0) (pa_cons (pe_op op_sub (pv 2) pe_int) pa_nil)))))
(pss_one (ps_ret (pe_tup (pa_cons (pe_ix ix_list (pe_lst (pa_cons pe_str (pa_cons pe_str pa_nil))) (pe_op op_sub (pv 4) pe_int) (fun _ _ => rfl)) (pa_cons (pv 7) (pa_cons (pe_op op_add pe_int (pe_call R.GT hr2 rfl R.mT R.kT R.bT .nil pass0 (pa_cons (pv 0) (pa_cons (pe_op op_sub (pv 7) pe_int) pa_nil)))) pa_nil)))))))))))), ?_⟩
    refine ⟨_, rfl, d, g, c, _, 8, rfl, D, by omega, by decide, by decide, fun r H1 r0 r1 D1 k1 => ?_⟩
    refine ⟨_, rfl, _, rfl, d, g, c, _, m, rfl, D1, by omega, by omega, by omega, fun y H2 y0 y1 D2 k2 => ?_⟩
    refine ⟨_, _, rfl, rfl, ?_⟩
    refine ⟨_, _, rfl, ?_⟩
    refine ⟨_, rfl, _, rfl, d, g, c, _, 12, rfl, D2, by omega, by decide, by decide, fun u1 H3 u10 u11 D3 k3 => ?_⟩
    refine ⟨_, _, rfl, rfl, ?_⟩
    refine ⟨_, rfl, _, _, rfl, rfl, ⟨by decide, by decide, by decide⟩, d, g, c, _, _, rfl, D3, by omega, by decide +kernel, by decide +kernel, fun u2 H4 u20 u21 D4 k4 => ?_⟩
    refine ⟨_, _, rfl, rfl, ?_⟩
    refine ⟨_, _, rfl, rfl, ⟨by decide, by decide, by decide⟩, by show 6 ≤ sizeLine; decide, fun q hq => ?_⟩
    refine ⟨d, g, c, _, D4.new hq, by omega, .inl ⟨q, _, rfl, upd_same, D4.nd hq, D4.ng hq, by show 0 < 6; decide, by show 6 ≤ 1000000; decide, fun x H5 hx D5 k5 => ?_⟩⟩
    obtain ⟨nm, rfl, nm0, nm1⟩ : ∃ n : Int, x = .int n ∧ 1 ≤ n ∧ n ≤ 1000000000 := by
      simp only [List.mem_cons, List.not_mem_nil, or_false] at hx
      rcases hx with rfl | rfl | rfl | rfl | rfl | rfl
      · exact ⟨_, rfl, by decide, by decide⟩
      · exact ⟨_, rfl, by decide, by decide⟩
      · exact ⟨_, rfl, by decide, by decide⟩
      · exact ⟨_, rfl, by omega, by omega⟩
      · exact ⟨_, rfl, by omega, by have u21 : u2 < 1000000000 := u21; omega⟩
      · exact ⟨_, rfl, by decide +kernel, by decide +kernel⟩
    have sm : ∀ i : Int, 1 ≤ i → i ≤ 1000000000 → Wd (.int i) := fun i h1 h2 => .inl ⟨i.toNat, by omega, by omega, congrArg PyData.int (by omega)⟩
    have onm : Wd (.int nm) := sm nm nm0 nm1
    have out : ∀ (t : Addr) (H' H0 : Hp) (c' : Nat) (z : Str) (vs : List V) (r : List PyData), H' t = some (.tup (.str z :: vs)) → H0 t = none → Dw ns d g c c' H0 → DkAll d g H' vs r → lowS z → factR ws z r = true → r.length ≤ 3 → (∀ y ∈ r, Wd y) → Dw ns d g c (b + 20) H' → Kp d g H H' → Q (.ref t) H' := fun t H' H0 c' z vs r h1 h2 D0 h3 hz hf hl hw D' k' => k t (.tuple (.str z :: r)) H' (.tup h1 (D0.nd h2) (D0.ng h2) (.cons (.str z) h3)) ⟨z, r, rfl, hf, hz, hl, hw⟩ D' k'
    have all3 : ∀ {a1 a2 a3 : PyData}, Wd a1 → Wd a2 → Wd a3 → ∀ y ∈ [a1, a2, a3], Wd y := fun h1 h2 h3 y hy => by
      simp only [List.mem_cons, List.not_mem_nil, or_false] at hy
      rcases hy with rfl | rfl | rfl
      · exact h1
      · exact h2
      · exact h3
    have all2 : ∀ {a1 a2 : PyData}, Wd a1 → Wd a2 → ∀ y ∈ [a1, a2], Wd y := fun h1 h2 y hy => by
      simp only [List.mem_cons, List.not_mem_nil, or_false] at hy
      rcases hy with rfl | rfl
      · exact h1
      · exact h2
    have all1 : ∀ {a1 : PyData}, Wd a1 → ∀ y ∈ [a1], Wd y := fun h1 y hy => by
      rw [List.mem_singleton] at hy
      rw [hy]
      exact h1
    have okw : ∀ n ∈ ws, Wd (.str n) := fun n hn => .inr ⟨n, rfl, low_name (hok n hn)⟩
    have kk : Kp d g H H5 := ((((k1.trans k2).trans k3).trans k4).trans (Kp.new hq)).trans k5
    have hl5 := kk l _ nld nlg hl
    clear hx k1 k2 k3 k4 k5 D1 D2 D3 D4
    have D5 : Dw ns d g c (b + 5) H5 := D5.mono (by omega)
    have wpos : 0 < (ws.map V.str).length := by rw [List.length_map]; exact List.length_pos_iff.mpr hws
    have wlen : (ws.map V.str).length ≤ 1000000 := by rw [List.length_map]; omega
    refine ⟨_, rfl, _, _, rfl, rfl, _, rfl, ?_⟩
    refine ite2 (fun e => ?_) (fun n1 => ?_)
    · have e : r < 2 := of_decide_eq_true e
      refine ⟨by show 2 ≤ sizeLine; decide, fun q2 hq2 => ?_⟩
      have D6 := D5.new (o := .lst [.str "spender", .str "request"]) hq2
      have hl6 := new_same (o := .lst [.str "spender", .str "request"]) hq2 _ _ hl5
      have fin : ∀ (kd : Str) (x : V) (H7 : Hp) (t : Addr), lowS kd ∧ partsOf kd = some (["place", "account", "amount"] : List Str) ∧ decide (kd = "consent" ∨ kd = "refuse") = false → x ∈ ws.map V.str → Dw ns d g c (b + 6) H7 → Kp d g H H7 → H7 t = none → Q (.ref t) (upd H7 t (.tup [.str kd, .int (1 + y), x, .int nm])) := fun kd x H7 t hk hx D7 k7 ht => by
        obtain ⟨n, hn, rfl⟩ := List.mem_map.mp hx
        exact out t _ _ _ _ _ _ upd_same ht D7 (.cons (.int _) (.cons (.str n) (.cons (.int _) .nil))) hk.1 (fact3 (p := "place") 20 hk.2.1 rfl hk.2.2 (by omega) (by omega) hn nm0 nm1) (Nat.le_refl _) (all3 (sm _ (by omega) (by omega)) (okw n hn) onm) ((D7.new ht).mono (by omega)) (k7.trans (Kp.new ht))
      have hr01 : r = 0 ∨ r = 1 := by omega
      rcases hr01 with rfl | rfl
      · refine ⟨_, rfl, q2, _, 0, V.str "spender", rfl, rfl, SqL.of upd_same, rfl, ?_⟩
        refine ⟨_, rfl, _, rfl, _, rfl, d, g, c, _, D6, by omega, .inl ⟨l, _, rfl, hl6, nld, nlg, wpos, wlen, fun x H7 hx D7 k7 => ?_⟩⟩
        exact ⟨_, rfl, by show 4 ≤ sizeLine; decide, fun t ht => fin "spender" x H7 t ⟨by decide +kernel, by decide +kernel, by decide +kernel⟩ hx D7 ((kk.trans (Kp.new hq2)).trans k7) ht⟩
      · refine ⟨_, rfl, q2, _, 1, V.str "request", rfl, rfl, SqL.of upd_same, rfl, ?_⟩
        refine ⟨_, rfl, _, rfl, _, rfl, d, g, c, _, D6, by omega, .inl ⟨l, _, rfl, hl6, nld, nlg, wpos, wlen, fun x H7 hx D7 k7 => ?_⟩⟩
        exact ⟨_, rfl, by show 4 ≤ sizeLine; decide, fun t ht => fin "request" x H7 t ⟨by decide +kernel, by decide +kernel, by decide +kernel⟩ hx D7 ((kk.trans (Kp.new hq2)).trans k7) ht⟩
    have n1 : ¬ r < 2 := of_decide_eq_false (Bool.eq_false_iff.mpr n1)
    refine ⟨_, rfl, _, _, rfl, rfl, _, rfl, ?_⟩
    refine ite2 (fun e => ?_) (fun n2 => ?_)
    · refine ⟨_, rfl, _, rfl, d, g, c, _, z, rfl, D5, by omega, by omega, by omega, fun mk H6 mk0 mk1 D6 k6 => ?_⟩
      refine ⟨_, _, rfl, rfl, ?_⟩
      refine ⟨_, rfl, _, rfl, d, g, c, _, D6, by omega, .inl ⟨l, _, rfl, k6 _ _ nld nlg hl5, nld, nlg, wpos, wlen, fun x H7 hx D7 k7 => ?_⟩⟩
      refine ⟨_, rfl, by show 4 ≤ sizeLine; decide, fun t ht => ?_⟩
      obtain ⟨n, hn, rfl⟩ := List.mem_map.mp hx
      exact out t _ _ _ "deposit" _ _ upd_same ht D7 (.cons (.int _) (.cons (.str n) (.cons (.int _) .nil))) (by decide +kernel) (fact3 (p := "mark") 999 (by decide +kernel) rfl (by decide +kernel) (by omega) (by omega) hn nm0 nm1) (Nat.le_refl _) (all3 (sm _ (by omega) (by omega)) (okw n hn) onm) ((D7.new ht).mono (by omega)) (((kk.trans k6).trans k7).trans (Kp.new ht))
    have n2 : ¬ r < 4 := of_decide_eq_false (Bool.eq_false_iff.mpr n2)
    refine ⟨_, rfl, rfl, _, rfl, ?_⟩
    refine ite2 (fun e => ?_) (fun n3 => ?_)
    · refine ⟨_, rfl, _, rfl, by show 3 ≤ sizeLine; decide, fun t ht => ?_⟩
      exact out t _ _ _ "release" _ _ upd_same ht D5 (.cons (.int _) (.cons (.int _) .nil)) (by decide +kernel) (fact2 _ (.inl ⟨by decide +kernel, rfl, by decide +kernel⟩) (by omega) (by omega) nm0 nm1) (by show 2 ≤ 3; decide) (all2 (sm _ (by omega) (by omega)) onm) ((D5.new ht).mono (by omega)) (kk.trans (Kp.new ht))
    have n3 : ¬ r = 4 := fun e => n3 (decide_eq_true (by rw [e]))
    refine ⟨_, rfl, rfl, _, rfl, ?_⟩
    refine ite2 (fun e => ?_) (fun n4 => ?_)
    · refine ⟨_, rfl, by show 2 ≤ sizeLine; decide, fun t ht => ?_⟩
      exact out t _ _ _ "withdrawn" _ _ upd_same ht D5 (.cons (.int _) .nil) (by decide +kernel) (fact1 (by omega) (by omega)) (by show 1 ≤ 3; decide) (all1 (sm _ (by omega) (by omega))) ((D5.new ht).mono (by omega)) (kk.trans (Kp.new ht))
    have n4 : ¬ r = 5 := fun e => n4 (decide_eq_true (by rw [e]))
    refine ⟨_, rfl, _, rfl, _, _, rfl, rfl, d, g, c, _, m - 1, rfl, D5, by omega, by omega, by omega, fun la H6 la0 la1 D6 k6 => ?_⟩
    refine ⟨_, _, rfl, rfl, ?_⟩
    refine ⟨by show 2 ≤ sizeLine; decide, fun q2 hq2 => ?_⟩
    have D7 := D6.new (o := .lst [.str "consent", .str "refuse"]) hq2
    have k7 : Kp d g H (upd H6 q2 (.lst [.str "consent", .str "refuse"])) := (kk.trans k6).trans (Kp.new hq2)
    have e7 : (upd H6 q2 (.lst [.str "consent", .str "refuse"])) q2 = some (.lst [.str "consent", .str "refuse"]) := upd_same
    generalize upd H6 q2 (.lst [.str "consent", .str "refuse"]) = H7 at D7 k7 e7 ⊢
    refine ⟨_, rfl, _, _, rfl, rfl, ?_⟩
    have hr67 : r = 6 ∨ r = 7 := by omega
    rcases hr67 with rfl | rfl
    · refine ⟨q2, _, 0, V.str "consent", rfl, rfl, SqL.of e7, rfl, ?_⟩
      refine ⟨_, rfl, _, rfl, _, rfl, _, _, rfl, rfl, d, g, c, _, 2 + la - 1, rfl, D7, by omega, by omega, by omega, fun sp H8 sp0 sp1 D8 k8 => ?_⟩
      refine ⟨_, _, rfl, rfl, by show 3 ≤ sizeLine; decide, fun t ht => ?_⟩
      exact out t _ _ _ "consent" _ _ upd_same ht D8 (.cons (.int _) (.cons (.int _) .nil)) (by decide +kernel) (fact2 _ (.inr ⟨by decide +kernel, rfl, by omega⟩) (by omega) (by omega) (by omega) (by omega)) (by show 2 ≤ 3; decide) (all2 (sm _ (by omega) (by omega)) (sm _ (by omega) (by omega))) ((D8.new ht).mono (by omega)) ((k7.trans k8).trans (Kp.new ht))
    · refine ⟨q2, _, 1, V.str "refuse", rfl, rfl, SqL.of e7, rfl, ?_⟩
      refine ⟨_, rfl, _, rfl, _, rfl, _, _, rfl, rfl, d, g, c, _, 2 + la - 1, rfl, D7, by omega, by omega, by omega, fun sp H8 sp0 sp1 D8 k8 => ?_⟩
      refine ⟨_, _, rfl, rfl, by show 3 ≤ sizeLine; decide, fun t ht => ?_⟩
      exact out t _ _ _ "refuse" _ _ upd_same ht D8 (.cons (.int _) (.cons (.int _) .nil)) (by decide +kernel) (fact2 _ (.inr ⟨by decide +kernel, rfl, by omega⟩) (by omega) (by omega) (by omega) (by omega)) (by show 2 ≤ 3; decide) (all2 (sm _ (by omega) (by omega)) (sm _ (by omega) (by omega))) ((D8.new ht).mono (by omega)) ((k7.trans k8).trans (Kp.new ht))
end
end Lw

set_option Elab.async false
set_option linter.all false
set_option maxRecDepth 100000
set_option maxHeartbeats 4000000
namespace Lw
open L2 hiding Ext
open PySem PySem.Spec PyProof.Rows Gn Gr Gk Go Gt Gf Gu Gp Gx
section
variable {P : Program} {w : World} {K : PySem.W.Frag} {mg : Str → Option Value} {base : Heap} {C fI pN fN : Addr} {mc : Value} {fdN : FuncData}
/-! ### _law_numbered -/
abbrev nLNumd : List Str := ["_law_word", "_law_strange", "_law_sign"]
def spLNumd : Sp := fun vs H Q _ => ∃ (x : Str), vs = [.str x] ∧ x.length ≤ 400 ∧ (∀ c ∈ TL.tl x, c < 128) ∧ ∀ H', Ext H H' → Q (cvV (nL x) x) H'
theorem scLNumd : FnScope nLNumd ["_law_word"] (defScope sLNumbered) := ⟨rfl, rfl, rfl, by decide +kernel, rfl, by decide +kernel, by decide +kernel⟩
theorem strange_all (l : List Nat) : (l.filter (fun c => !dig c)).isEmpty = l.all dig := by
  induction l with
  | nil => rfl
  | cons c r ih =>
    cases e : dig c
    · simp [e]
    · simpa [e] using ih
theorem empty_tl (x : Str) : decide (V.str x = V.str "") = (TL.tl x).isEmpty := by
  cases h : TL.tl x with
  | nil =>
    refine decide_eq_true (congrArg V.str (TL.ext_tl ?_))
    rw [h]
    decide +kernel
  | cons c r =>
    refine decide_eq_false fun e => ?_
    injection e with e
    rw [e] at h
    have : TL.tl "" = [] := by decide +kernel
    rw [this] at h
    cases h
theorem ok_lnumd {f : Addr} {fd : FuncData} (F : Fun K "_law_numbered" "_law_numbered" sLNumbered f fd) (T : Names mg) : FnOk P w K mg base CX0 1 f fd ["_law_word"] spLNumd := by
  refine F.ok scLNumd (fun vs H Q E h => ?_) (fun cdv A outer s H vs Q E hr h => ?_)
  · obtain ⟨x, rfl, _⟩ := h
    rfl
  · obtain ⟨x, rfl, hx, ha, k⟩ := h
    have hu := hu_of hr
    have nd := scLNumd.nd
    have el : (TL.tl x).length = x.length := len_cps x
    refine ⟨_, pss_cons (ps_setLc (i := 1) (own := [("_law_sign", 2)]) (g := gName 2) rfl nd rfl rfl (sw_true rfl rfl rfl (by decide +kernel)) (pi_str (pv 0)) (blkOk_by (N := nLNumd) (sc := defScope sLNumbered) (by decide +kernel))
(fun _ _ _ _ _ => pg_name (i := 2) nd rfl (.inl rfl)) (fun _ _ _ _ _ => pts_one (pt_cmpR op_notIn_sign (pv 2) pe_str rfl)) (fun _ _ _ _ _ => pv 2))
(pss_one (ps_ret (pe_ifExp (PW.pt (pw_or (pt_cmpR op_eq (pv 0) pe_str (nomark _)) (pw_or (pt_cmpR (op_neD hr.units) (pv 1) (pe_lst pa_nil) (nomark _)) (pw_or1 (pt_cmpR op_eq (pe_ix ix_str (pv 0) pe_int (fun _ _ => rfl)) pe_str (nomark _)))))) (pv 0) (pe_callTy call_int_str (by rfl) T.int (by decide +kernel) (pa_cons (pv 0) pa_nil))))), ?_⟩
    refine ⟨_, rfl, x, rfl, fun D hD => ?_⟩
    refine lc_it walk_str (fun i H' => H' D = some (.lst ((((x.cps.toList.take i).filter fun c => !dig c).map cand.oneS').map V.str)) ∧ Ext H H') ⟨upd_same, Ext.new hD⟩ (fun _ _ _ _ => trivial) ?_ ?_
    · rintro i y H1 H2 hi ⟨hd, he⟩ ⟨rfl, c, hc, rfl⟩
      have hc' := cps_at hc
      refine ⟨rfl, _, rfl, c, _, rfl, rfl, _, rfl, ?_⟩
      have ef := filter_take (fun c => !dig c) hc'
      show if (!decide (c ∈ digits.cps.toList)) = true then _ else _
      rw [dig_in]
      refine ite2 (fun e => ?_) (fun e => ?_)
      · have e : (!dig c) = true := e
        rw [if_pos e] at ef
        refine ⟨_, rfl, _, hd, ?_, ?_, fun a o e => ?_⟩
        · have h1 := List.length_filter_le (fun c => !dig c) (x.cps.toList.take i)
          have h2 := len_cps x
          rw [List.length_take] at h1
          rw [List.length_map, List.length_map]
          exact small1000 (by omega)
        · rw [upd_same, ef, List.map_append, List.map_append]
          rfl
        · rw [upd_ne (ne_of_none e hD)]
          exact he a o e
      · have e : (!dig c) = false := Bool.eq_false_iff.mpr e
        rw [if_neg (by rw [e]; exact Bool.false_ne_true), List.append_nil] at ef
        exact ⟨by rw [ef]; exact hd, he⟩
    · rintro H1 ⟨hd, he⟩
      rw [← cps_len, List.take_length] at hd
      refine ⟨_, rfl, rfl, _, rfl, ?_⟩
      show if decide (V.str x = V.str "") = true then _ else _
      rw [empty_tl]
      have hcps : x.cps.toList = TL.tl x := rfl
      rw [hcps] at hd
      unfold nL at k
      cases hx0 : TL.tl x with
      | nil =>
        rw [hx0] at k
        exact iteT ⟨_, rfl, k _ he⟩
      | cons c r =>
        refine iteF ?_
        rw [hx0] at hd ha
        refine ⟨_, rfl, Nat.zero_le _, fun p hp => ?_⟩
        refine ⟨_, _, .lst (SqL.of (new_same hp _ _ hd)) (dp_strs _), .lst (SqL.of upd_same) .nil, shaped_strs fun z hz => ?_, shaped_nil, ?_⟩
        · obtain ⟨c1, hc1, rfl⟩ := List.mem_map.mp hz
          exact (Asc.one (ha c1 (List.mem_filter.mp hc1).1)).ok
        · have ep : Ext H (upd H1 p (.lst [])) := he.trans (Ext.new hp)
          generalize upd H1 p (.lst []) = H2 at ep ⊢
          rw [eqv_nil, List.isEmpty_map, List.isEmpty_map, strange_all]
          have hc0 : atI x.cps.toList 0 = some c := by
            show atI (TL.tl x) ((0 : Nat) : Int) = _
            rw [hx0]
            exact atI_nat rfl
          refine ⟨_, rfl, ?_⟩
          cases hall : (c :: r).all dig with
          | false =>
            have : nzd (c :: r) = false := by rw [nzd_cons, hall, Bool.and_false]
            rw [hx0, this] at k
            exact iteT ⟨_, rfl, k _ ep⟩
          | true =>
            refine iteF ?_
            refine ⟨_, rfl, x, 0, c, rfl, rfl, by rw [sizeLine_eq]; omega, hc0, rfl, _, rfl, ?_⟩
            rw [one_zero]
            by_cases h0 : c = 48
            · rw [decide_eq_true h0]
              have : nzd (c :: r) = false := by rw [nzd_cons, decide_eq_true h0]; rfl
              rw [hx0, this] at k
              exact iteT ⟨_, rfl, k _ ep⟩
            · rw [decide_eq_false h0]
              have en : nzd (c :: r) = true := by rw [nzd_cons, decide_eq_false h0, hall]; rfl
              have ec : cvV (nzd (TL.tl x)) x = .int ((NumText.digitsVal (TL.tl x) : Nat) : Int) := by rw [hx0, en]; unfold cvV; rw [if_pos rfl, hx0]
              rw [ec] at k
              have dn := nzd_digits (L := TL.tl x) (by rw [hx0]; exact en)
              exact iteF ⟨_, rfl, x, _, rfl, PySem.intText_digits dn.1 dn.2 (by omega), by omega, k _ ep⟩
/-! ### _law_read -/
theorem cut_tail (v : V) (vs : List V) : cutV (v :: vs) (some 1) none = vs := by
  unfold cutV
  have e1 : HT.sIx (v :: vs).length 0 (some 1) = min 1 (v :: vs).length := HT.sIx_nat _ _ 1
  rw [e1, HT.sIx_none, show min 1 (v :: vs).length = 1 by simp]
  exact List.take_of_length_le (by simp)
abbrev nLRead : List Str := ["_law_names", "_law_line", "_law_parts", "_law_thing", "_law_word"]
def wLv : List Str → List V
  | [] => []
  | z :: r => .str z :: r.map fun x => cvV (nL x) x
def spLRead : Sp := fun vs H Q _ => ∃ (ln : Addr) (x : Str) (ws : List Str), vs = [.ref ln, .str x] ∧ H ln = some (.lst (ws.map V.str)) ∧ Asc 300 x ∧
  (if factB ws (wL (Txt.split x " ")) = true then ∀ H' t, Ext H H' → H' t = some (.tup (wLv (Txt.split x " "))) → Q (.ref t) H' else ∀ H', Ext H H' → Q .non H')
theorem scLRead : FnScope nLRead ["_law_names", "_law_line"] (defScope sLRead) := ⟨rfl, rfl, rfl, by decide +kernel, rfl, by decide +kernel, by decide +kernel⟩
theorem ok_lread {f f1 f2 : Addr} {fd fd1 fd2 : FuncData} (F : Fun K "_law_read" "_law_read" sLRead f fd) (T : Names mg)
    (GN : FnOk P w K mg base CX0 1 f1 fd1 ["_law_word"] spLNumd) (bN : Binds K fd1 ["_law_word"] []) (kN : PySem.W.keepIn K (.ref f1) = true) (mN : mg "_law_numbered" = some (.ref f1))
    (GI : FnOk P w K mg base CX0 2 f2 fd2 ["_law_names", "_law_thing"] spLFa) (bI : Binds K fd2 ["_law_names", "_law_thing"] []) (kI : PySem.W.keepIn K (.ref f2) = true) (mI : mg "_law_is_fact" = some (.ref f2)) :
    FnOk P w K mg base CX0 3 f fd ["_law_names", "_law_line"] spLRead := by
  refine F.ok scLRead (fun vs H Q E h => ?_) (fun cdv A outer s H vs Q E hr h => ?_)
  · obtain ⟨ln, x, ws, rfl, _⟩ := h
    rfl
  · obtain ⟨ln, x, ws, rfl, hn, hx, k⟩ := h
    have hu := hu_of hr
    have nd := scLRead.nd
    have hr1 : Room 1 (A.deeper (envOfC "_law_read" (defScope sLRead) s.heap.objs.size f cdv)) := hr.mono (by decide)
    have hxl := hx.1
    refine ⟨_, pss_cons (ps_set (i := 2) nd rfl (.inl rfl) (pe_split (pv 1) pe_str))
(pss_cons (ps_set (i := 3) nd rfl (.inl rfl) (pe_op op_catA (pe_tup (pa_cons (pe_ix ix_list (pv 2) pe_int (fun _ _ => rfl)) pa_nil)) (pe_callTy call_tuple_of rfl T.tuple (by decide +kernel) (pa_cons (pe_lc (own := [("_law_word", 4)]) (g := gName 4) (tt := tYes) rfl nd (pi_list (pe_slice sl_list (pv 2) (po_some pe_int) po_none)) (blkOk_by (N := nLRead) (sc := defScope sLRead) (by decide +kernel))
(fun _ _ _ _ _ => pg_name (i := 4) nd rfl (.inl rfl)) (fun _ _ _ _ _ => pts_nil) (fun _ _ _ _ _ => pe_call GN hr1 rfl mN kN bN .nil pass0 (pa_cons (pv 4) pa_nil))) pa_nil))))
(pss_one (ps_ret (pe_ifExp (pt_val (pe_call GI hr rfl mI kI bI .nil pass0 (pa_cons (pv 0) (pa_cons (pv 3) pa_nil)))) (pv 3) pe_non)))), ?_⟩
    refine ⟨_, rfl, ⟨_, rfl⟩, _, _, rfl, rfl, by decide +kernel, by rw [sizeLine_eq]; omega, fun p hp => ?_⟩
    have sp := sp_parts x
    generalize Txt.split x " " = xs at k sp ⊢
    have k1 : Ext H (upd H p (.lst (xs.map V.str))) := Ext.new hp
    have p1 : (upd H p (.lst (xs.map V.str))) p = some (.lst (xs.map V.str)) := upd_same
    generalize upd H p (.lst (xs.map V.str)) = H1 at k1 p1 ⊢
    have spl := sp.count
    cases xs with
    | nil => exact absurd rfl sp.ne
    | cons z r =>
    have kT : factB ws (.tuple (.str z :: r.map fun x => cvD (nL x) x)) = true → ∀ H' t, Ext H H' → H' t = some (.tup (wLv (z :: r))) → Q (.ref t) H' := fun hf => by
      rw [if_pos (show factB ws (wL (z :: r)) = true from hf)] at k
      exact k
    have kF : ¬ factB ws (.tuple (.str z :: r.map fun x => cvD (nL x) x)) = true → ∀ H', Ext H H' → Q .non H' := fun hf => by
      rw [if_neg (show ¬ factB ws (wL (z :: r)) = true from hf)] at k
      exact k
    have a0 : atI ((z :: r).map V.str) 0 = some (V.str z) := (show atI ((z :: r).map V.str) ((0 : Nat) : Int) = _ from atI_nat rfl)
    rw [List.length_cons] at spl
    refine ⟨_, rfl, _, _, _, _, rfl, rfl, SqL.of p1, a0, by show 1 ≤ sizeLine; decide, fun t1 ht1 => ?_⟩
    have k2 : Ext H1 (upd H1 t1 (.tup [V.str z])) := Ext.new ht1
    have t12 : (upd H1 t1 (.tup [V.str z])) t1 = some (.tup [V.str z]) := upd_same
    generalize upd H1 t1 (.tup [V.str z]) = H2 at k2 t12 ⊢
    refine ⟨_, rfl, 1, rfl, p, _, rfl, SqL.of (k2 _ _ p1), fun p2 hp2 => ?_⟩
    have ecut : cutV ((z :: r).map V.str) (some 1) none = r.map V.str := cut_tail (V.str z) (r.map V.str)
    rw [ecut]
    have k3 : Ext H2 (upd H2 p2 (.lst (r.map V.str))) := Ext.new hp2
    have p23 : (upd H2 p2 (.lst (r.map V.str))) p2 = some (.lst (r.map V.str)) := upd_same
    generalize upd H2 p2 (.lst (r.map V.str)) = H3 at k3 p23 ⊢
    refine ⟨p2, rfl, ⟨_, SqL.of p23⟩, fun D hD => ?_⟩
    refine lc_it walk_list (fun i H' => H' D = some (.lst ((r.take i).map fun y => cvV (nL y) y)) ∧ Ext H3 H') ⟨upd_same, Ext.new hD⟩ (fun i H' _ ⟨_, e⟩ => SqL.of (e _ _ p23)) ?_ ?_
    · rintro i y H4 H5 hi ⟨d4, k4⟩ ⟨rfl, hy⟩
      rw [List.getElem?_map] at hy
      obtain ⟨q, hq, rfl⟩ := Option.map_eq_some_iff.mp hy
      have hqm := List.mem_cons_of_mem z (List.mem_of_getElem? hq)
      have hql := sp.len hqm
      refine ⟨rfl, yes_of ?_⟩
      refine ⟨_, rfl, q, rfl, by omega, fun c hc => hx.2 c (sp.signs q hqm c hc), fun H6 k6 => ?_⟩
      refine ⟨_, k6 _ _ d4, ?_, ?_, fun b o e => ?_⟩
      · rw [List.length_map, List.length_take]
        exact small1000 (by omega)
      · rw [upd_same, List.take_add_one, hq, List.map_append]
        rfl
      · rw [upd_ne (ne_of_none e hD)]
        exact k6 _ _ (k4 _ _ e)
    · rintro H4 ⟨d4, k4⟩
      rw [List.length_map, List.take_length] at d4
      refine ⟨D, _, rfl, .inl ⟨SqL.of d4, fun t ht => ?_⟩⟩
      have e24 := k3.trans k4
      have k5 := Ext.new (o := .tup (r.map fun y => cvV (nL y) y)) ht
      have t5 : (upd H4 t (.tup (r.map fun y => cvV (nL y) y))) t = some (.tup (r.map fun y => cvV (nL y) y)) := upd_same
      generalize upd H4 t (.tup (r.map fun y => cvV (nL y) y)) = H5 at k5 t5 ⊢
      have e25 := e24.trans k5
      have k05 : Ext H H5 := (k1.trans k2).trans e25
      have q1 : H t1 = none := none_of k1 ht1
      have q2 : H5 t1 = some (.tup [V.str z]) := e25 _ _ t12
      refine ⟨t1, t, _, _, rfl, rfl, SqT.of q2, SqT.of t5, by rw [List.length_map, sizeLine_eq]; show 1 + r.length ≤ _; omega, fun h => absurd h (by simp), fun _ h0 => ?A, fun _ _ q hq => ?B⟩
      case' A =>
        have r0 : r = [] := List.map_eq_nil_iff.mp h0
        subst r0
        have hq0 := q1
        have hq6 : H5 t1 = some (.tup (wLv [z])) := q2
        have k06 := k05
        generalize t1 = q at hq0 hq6 ⊢
        generalize H5 = H6 at hq6 k06 ⊢
      case' B =>
        have hq0 : H q = none := none_of k05 hq
        have hq6 : (upd H5 q (.tup ([V.str z] ++ r.map fun y => cvV (nL y) y))) q = some (.tup (wLv (z :: r))) := upd_same
        have k06 : Ext H (upd H5 q (.tup ([V.str z] ++ r.map fun y => cvV (nL y) y))) := k05.trans (Ext.new hq)
        generalize upd H5 q (.tup ([V.str z] ++ r.map fun y => cvV (nL y) y)) = H6 at hq6 k06 ⊢
      all_goals
        have nq : q ≠ ln := (ne_of_none hn hq0).symm
        refine ⟨_, rfl, _, rfl, ln, ln, ln, .ref q, _, ws, rfl, k06 _ _ hn, .tup hq6 nq nq (.cons (.str z) (cv_all nL _)), fun H7 k7 => ⟨_, rfl, ?_⟩⟩
        refine ite2 (fun hf => ?_) (fun hf => ?_)
        · exact ⟨_, rfl, kT hf H7 q (k06.trans k7) (k7 _ _ hq6)⟩
        · exact kF hf H7 (k06.trans k7)
end
end Lw

set_option Elab.async false
set_option linter.all false
set_option maxRecDepth 100000
set_option maxHeartbeats 4000000
namespace Lw
open L2 hiding Ext
open PySem PySem.Spec PyProof.Rows Gn Gr Gk Go Gt Gf Gu Gp Gx
theorem signs_ok : ∀ c ∈ ("abcdefghijklmnopqrstuvwxyz0123456789  00+-_.,AZ\n" : Str).cps.toList, c < 128 := by decide +kernel
section
variable {P : Program} {w : World} {K : PySem.W.Frag} {mg : Str → Option Value} {base : Heap} {C fI pN fN : Addr} {mc : Value} {fdN : FuncData}
/-! ### _law_changed -/
abbrev nLCh : List Str := ["_law_state", "_law_line", "_law_at", "_law_sign"]
def spLCh (ns : List Int) : Sp := fun vs H Q _ => ∃ (d g c : Addr) (b n : Nat) (x : Str), vs = [.ref d, .str x] ∧ Dw ns d g c b H ∧ b ≤ 800000000 ∧ Asc n x ∧ n ≤ 120 ∧
  ∀ (y : Str) (H' : Hp), Asc (2 * n + 1) y → Dw ns d g c (b + 3) H' → Kp d g H H' → Q (.str y) H'
theorem scLCh : FnScope nLCh ["_law_state", "_law_line"] (defScope sLChanged) := ⟨rfl, rfl, rfl, by decide +kernel, rfl, by decide +kernel, by decide +kernel⟩
theorem ok_lch {f fT fP : Addr} {fd fdT fdP : FuncData} (ns : List Int) (F : Fun K "_law_changed" "_law_changed" sLChanged f fd) (T : Names mg) (R : Draw P w K mg base ns fT fP fdT fdP) : FnOk P w K mg base CX0 4 f fd ["_law_state", "_law_line"] (spLCh ns) := by
  refine F.ok scLCh (fun vs H Q E h => ?_) (fun cdv A outer s H vs Q E hr h => ?_)
  · obtain ⟨d, g, c, b, n, x, rfl, _⟩ := h
    rfl
  · obtain ⟨d, g, c, b, n, x, rfl, D, hb, hx, hn, k⟩ := h
    have hu := hu_of hr
    have nd := scLCh.nd
    have hr3 : Room 3 (A.deeper (envOfC "_law_changed" (defScope sLChanged) s.heap.objs.size f cdv)) := hr
    have hr2 : Room 2 (A.deeper (envOfC "_law_changed" (defScope sLChanged) s.heap.objs.size f cdv)) := hr.mono (by decide)
    have hxl := hx.1
    refine ⟨_, pss_cons (ps_set (i := 2) nd rfl (.inl rfl) (pe_call R.GT hr2 rfl R.mT R.kT R.bT .nil pass0 (pa_cons (pv 0) (pa_cons (pe_op op_add (pe_callB call_len_str rfl T.len PySem.boot_len (pa_cons (pv 1) pa_nil)) pe_int) pa_nil))))
(pss_cons (ps_set (i := 3) nd rfl (.inl rfl) (pe_call R.GP hr3 rfl R.mP R.kP R.bP .nil pass0 (pa_cons (pv 0) (pa_cons pe_str pa_nil))))
(pss_one (ps_ret (pe_call R.GP hr3 rfl R.mP R.kP R.bP .nil pass0 (pa_cons (pv 0) (pa_cons (pe_lst (pa_cons (pe_op op_add_str (pe_op op_add_str (pe_slice sl_str (pv 1) po_none (po_some (pv 2))) (pv 3)) (pe_slice sl_str (pv 1) (po_some (pv 2)) po_none)) (pa_cons (pe_op op_add_str (pe_slice sl_str (pv 1) po_none (po_some (pv 2))) (pe_slice sl_str (pv 1) (po_some (pe_op op_add (pv 2) pe_int)) po_none)) (pa_cons (pe_op op_add_str (pe_op op_add_str (pe_slice sl_str (pv 1) po_none (po_some (pv 2))) (pv 3)) (pe_slice sl_str (pv 1) (po_some (pe_op op_add (pv 2) pe_int)) po_none)) pa_nil)))) pa_nil)))))), ?_⟩
    refine ⟨_, rfl, _, rfl, x, rfl, by rw [sizeLine_eq]; omega, _, _, rfl, rfl, d, g, c, _, _, rfl, D, by omega, by omega, by omega, fun at_ H1 a0 a1 D1 k1 => ?_⟩
    refine ⟨_, rfl, d, g, c, _, D1, by omega, .inr ⟨_, rfl, by decide +kernel, by decide +kernel, fun ch H2 hc D2 k2 => ?_⟩⟩
    have ac : Asc 1 (⟨#[ch]⟩ : Str) := Asc.one (signs_ok ch hc)
    have s1 := hx.cut none (some at_)
    have s2 := hx.cut (some at_) none
    have s3 := hx.cut (some (at_ + 1)) none
    have r1 := (s1.app ac).app s2
    have r2 := s1.app s3
    have r3 := (s1.app ac).app s3
    have z1 := s1.1
    have z2 := s2.1
    have z3 := s3.1
    have z4 := (s1.app ac).1
    have one : (⟨#[ch]⟩ : Str).length = 1 := rfl
    have k12 := k1.trans k2
    refine ⟨_, rfl, _, rfl, _, rfl, at_, rfl, x, rfl, by rw [sizeLine_eq]; omega, _, rfl, _, _, rfl, rfl, by rw [sizeLine_eq]; omega, _, rfl, _, rfl, _, rfl, x, rfl, by rw [sizeLine_eq]; omega, _, _, rfl, rfl, by rw [sizeLine_eq]; omega, ?_⟩
    refine ⟨_, rfl, _, rfl, at_, rfl, x, rfl, by rw [sizeLine_eq]; omega, _, rfl, _, rfl, _, _, rfl, rfl, _, rfl, x, rfl, by rw [sizeLine_eq]; omega, _, _, rfl, rfl, by rw [sizeLine_eq]; omega, ?_⟩
    refine ⟨_, rfl, _, rfl, at_, rfl, x, rfl, by rw [sizeLine_eq]; omega, _, rfl, _, _, rfl, rfl, by rw [sizeLine_eq]; omega, _, rfl, _, rfl, _, _, rfl, rfl, _, rfl, x, rfl, by rw [sizeLine_eq]; omega, _, _, rfl, rfl, by rw [sizeLine_eq]; omega, by show 3 ≤ sizeLine; decide, fun q hq => ?_⟩
    refine ⟨d, g, c, _, D2.new hq, by omega, .inl ⟨q, _, rfl, upd_same, D2.nd hq, D2.ng hq, by show 0 < 3; decide, by show 3 ≤ 1000000; decide, fun y H3 hy D3 k3 => ?_⟩⟩
    have kk := k12.trans ((Kp.new hq).trans k3)
    simp only [List.mem_cons, List.not_mem_nil, or_false] at hy
    rcases hy with rfl | rfl | rfl
    · exact k _ _ (r1.mono (by omega)) (D3.mono (by omega)) kk
    · exact k _ _ (r2.mono (by omega)) (D3.mono (by omega)) kk
    · exact k _ _ (r3.mono (by omega)) (D3.mono (by omega)) kk
/-! ### _law_told -/
abbrev nLTold : List Str := ["_law_woods", "_law_line", "_law_found", "_law_caught", "e"]
def Tol (ws : List Str) (x : Str) (H : Hp) (Q : VK) : Prop :=
  if factB ws (wP (Txt.split x " ")) = true then ∀ H' t l, Ext H H' → H' t = some (.tup ((Txt.split x " ").map fun y => cvV (nP y) y)) → H' l = some (.lst [.ref t]) → Q (.ref l) H' else ∀ H', Ext H H' → Q (.int 0) H'
def spLTold (C : Addr) : Sp := fun vs H Q _ => ∃ (a : Addr) (v : V) (rs : List FRow), vs = [.ref a, v] ∧ FoAt C H a rs ∧
  ((∃ x : Str, v = .str x ∧ x.length ≤ 200 ∧ Tol (fNames rs) x H Q) ∨ (∃ T, TyT H v T ∧ kitB T "str" = some false ∧ ∀ H', Ext H H' → Q (.int 0) H'))
theorem scLTold : FnScope nLTold ["_law_woods", "_law_line"] (defScope sLTold) := ⟨rfl, rfl, rfl, by decide +kernel, rfl, by decide +kernel, by decide +kernel⟩
theorem ok_ltold {f fP CT CP fTI : Addr} {fd fdP : FuncData} (F : Fun K "_law_told" "_law_told" sLTold f fd) (T : Names mg) (Y : XT K mg CT CP fTI)
    (GP : FnOk P w K mg base (L2.CX P w) 5 fP fdP ["text", "forest"] (spParseF C CT)) (bP : Binds K fdP ["text", "forest"] []) (kP : PySem.W.keepIn K (.ref fP) = true) (mP : mg "parse_fact" = some (.ref fP)) :
    FnOk P w K mg base CX0 6 f fd ["_law_woods", "_law_line"] (spLTold C) := by
  refine F.ok scLTold (fun vs H Q E h => ?_) (fun cdv A outer s H vs Q E hr h => ?_)
  · obtain ⟨a, v, rs, rfl, _⟩ := h
    rfl
  · obtain ⟨a, v, rs, rfl, hF, h⟩ := h
    have hu := hu_of hr
    have nd := scLTold.nd
    refine ⟨_, pss_cons (ps_asg (pe_tup (pa_cons pe_non (pa_cons pe_non pa_nil))) (by exact (pg_tup rfl (pgs_cons (pg_name (i := 2) nd rfl (.inl rfl)) (pgs_cons (pg_name (i := 3) nd rfl (.inl rfl)) pgs_nil)))))
      (pss_cons (ps_try_keep (c := .ref CP) (i := 4) (j := 3) rfl rfl nd rfl rfl rfl rfl ⟨rfl, by decide, .inl Y.nm⟩ rfl (by decide) (by decide) rfl fun W' pn xe tk _ => pss_one (ps_set (i := 2) nd rfl (.inl rfl) (pe_callS GP hr rfl mP kP bP (fun σ => passAt tk σ) (pa_cons (pv 1) (pa_cons (pv 0) pa_nil)))))
      (pss_cons (ps_if (pt_cmpR op_isN (pv 3) pe_non (nomark _)) (pss_one (ps_ret (pe_lst (pa_cons (pv 2) pa_nil)))) pss_nil)
      (pss_one (ps_ret (pe_ifExp (PW.pt (pw_and (pt_val (pe_callB call_isX rfl T.isi (by decide +kernel) (pa_cons (pv 3) (pa_cons (pe_glob (v := .ref CT) rfl Y.gT rfl) pa_nil)))) (pw_and1 (pt_val (pe_callB call_isX rfl T.isi (by decide +kernel) (pa_cons (pv 3) (pa_cons (pe_bltn (v := .ty "ValueError") rfl Y.nv (by decide +kernel) rfl) pa_nil))))))) (pe_xk (pv 3)) pe_str))))), ?_⟩
    refine ⟨by show 2 ≤ sizeLine; decide, fun t ht => ?_⟩
    have kt : Ext H (upd H t (.tup [.non, .non])) := Ext.new ht
    refine ⟨t, _, rfl, SqT.of upd_same, rfl, _, _, rfl, _, _, rfl, rfl, ?_⟩
    generalize upd H t (.tup [.non, .non]) = H1 at kt ⊢
    refine ⟨_, rfl, _, rfl, a, v, rs, rfl, hF.ext kt, ?_⟩
    rcases h with ⟨x, rfl, hx, k⟩ | ⟨U, h1, h2, k⟩
    case' inl =>
      refine .inl ⟨x, rfl, hx, ?_⟩
      unfold Got
      unfold Tol at k
      by_cases hf : factB (fNames rs) (wP (Txt.split x " ")) = true
      · rw [if_pos hf] at k ⊢
        intro H2 t2 k2 t20 t2e
        refine ⟨_, rfl, rfl, _, rfl, iteS rfl ?_⟩
        refine ⟨_, rfl, by show 1 ≤ sizeLine; decide, fun l hl => ?_⟩
        exact k _ t2 l ((kt.trans k2).trans (Ext.new hl)) (new_same hl _ _ t2e) upd_same
      rw [if_neg hf] at k ⊢
    case' inr =>
      refine .inr ⟨U, h1.ext kt, h2, ?_⟩
    all_goals
      intro H2 d k2 d0 d2
      refine ⟨Y.eT, fun b hb => ?_⟩
      have nda : d ≠ b := ne_of_none d2 hb
      have d3 : (upd H2 b (ExK (.ref CT) (some d) b)) d = some (.xd [("line", .int 0)]) := by rw [upd_ne nda]; exact d2
      have a3 : (upd H2 b (ExK (.ref CT) (some d) b)) b = some (ExK (.ref CT) (some d) b) := upd_same
      have k3 : Ext H (upd H2 b (ExK (.ref CT) (some d) b)) := (kt.trans k2).trans (Ext.new hb)
      show tSeq _ _ _ _ (upd H2 b (ExK (.ref CT) (some d) b))
      generalize upd H2 b (ExK (.ref CT) (some d) b) = H3 at d3 a3 k3 ⊢
      refine ⟨_, rfl, rfl, _, rfl, iteN (by intro z; cases z) ?_⟩
      refine ⟨_, rfl, b, CT, some d, _, _, true, rfl, a3, ⟨_, d3⟩, Y.cT, .own CT, Y.sT, true, rfl, iteT ?_⟩
      refine ⟨_, rfl, b, CT, some d, _, _, true, rfl, a3, ⟨_, d3⟩, Y.cT, .ty _, Y.vT, true, rfl, iteT ?_⟩
      exact ⟨_, rfl, b, CT, d, _, .int 0, rfl, a3, d3, Y.fT, Y.nT, rfl, k _ k3⟩
end
end Lw

set_option Elab.async false
set_option linter.all false
set_option maxRecDepth 100000
set_option maxHeartbeats 8000000
namespace Lw
open L2 hiding Ext
open PySem PySem.Spec PyProof.Rows Gn Gr Gk Go Gt Gf Gu Ge Gp Gx
theorem passF {X : Cx} : Passes (L2.CX X.prog X.w) X E0 := fun _ _ _ _ _ _ _ h => by
  obtain ⟨_, _, _, _, _, _, _, _, _, _, _, _, h⟩ := h
  exact h.elim
theorem FoAt.kp {C a d g c : Addr} {ns : List Int} {b : Nat} {H H' : Hp} {rs : List FRow} (h : FoAt C H a rs) (G : Good rs) (D : Dw ns d g c b H) (k : Kp d g H H') : FoAt C H' a rs := by
  obtain ⟨⟨gs, l, t, hd, hg, _, _⟩, _⟩ := D
  obtain ⟨dx, q, h1, h2⟩ := h
  refine ⟨dx, q, k _ _ (ne_of h1 hd (by intro z; cases z)) (ne_of h1 hg (by intro z; cases z)) h1, k _ _ (fun e => ?_) (ne_of h2 hg (by intro z; cases z)) h2⟩
  rw [e, hd] at h2
  injection h2 with h2
  injection h2 with h2
  cases rs with
  | nil => have := G.1; simp at this
  | cons r rs =>
    have h3 : (kG, V.ref g) = ((Sum.inr r.1 : Key), parV r.2) := (List.cons.inj h2).1
    have h4 : V.ref g = parV r.2 := (Prod.mk.inj h3).2
    cases e2 : r.2 with
    | none => rw [e2] at h4; cases h4
    | some m => rw [e2] at h4; cases h4
def gSw : List Value → List Value → List Value
  | [], [x, y] => [y, x]
  | _, _ => []
def gSwV : List V → List V → List V
  | [], [x, y] => [y, x]
  | _, _ => []
theorem kb_swap {K : PySem.W.Frag} {fd : FuncData} {y z : Str} (b : ∀ (s : Shared) (u v : Value), BindsTo s fd ⟨[], [(y, u), (z, v)]⟩ [(z, v), (y, u)]) : KBinds K fd [z, y] [y, z] gSw gSwV := by
  refine ⟨fun s us ws _ hl => ?_, fun r q => ?_⟩
  · match us, ws, hl with
    | [], [u, v], _ => exact b s u v
    | [], [], hl => cases hl
    | [], [_], hl => cases hl
    | [], _ :: _ :: _ :: _, hl => cases hl
    | _ :: _, _, hl => cases hl
  · cases r with
    | nil =>
      cases q with
      | nil => exact .nil
      | cons q1 q2 =>
        cases q2 with
        | nil => exact .nil
        | cons q2 q3 =>
          cases q3 with
          | nil => exact .cons q2 (.cons q1 .nil)
          | cons _ _ => exact .nil
    | cons _ _ => exact .nil
def gR1 : List Value → List Value → List Value
  | [], [a] => [a]
  | _, _ => []
def gR1V : List V → List V → List V
  | [], [a] => [a]
  | _, _ => []
theorem kb_one {K : PySem.W.Frag} {fd : FuncData} {y : Str} (b : ∀ (s : Shared) (u : Value), BindsTo s fd ⟨[], [(y, u)]⟩ [(y, u)]) : KBinds K fd [y] [y] gR1 gR1V := by
  refine ⟨fun s us ws _ hl => ?_, fun r q => ?_⟩
  · match us, ws, hl with
    | [], [u], _ => exact b s u
    | [], [], hl => cases hl
    | [], _ :: _ :: _, hl => cases hl
    | _ :: _, _, hl => cases hl
  · cases r with
    | nil =>
      cases q with
      | nil => exact .nil
      | cons q1 q2 =>
        cases q2 with
        | nil => exact .cons q1 .nil
        | cons _ _ => exact .nil
    | cons _ _ => exact .nil
theorem good_names {rs : List FRow} (G : Good rs) : fNames rs ≠ [] ∧ (fNames rs).length ≤ 8 ∧ (∀ x ∈ fNames rs, nameOk x = true) ∧ (fNames rs).Nodup := by
  have l : (fNames rs).length = rs.length := by unfold fNames; rw [List.length_map]
  refine ⟨fun e => ?_, by rw [l]; exact G.2.1, fun x hx => ?_, (good_nodup G.2.2).1⟩
  · rw [e] at l
    have := G.1
    simp at l
    omega
  · obtain ⟨r, hr, rfl⟩ := List.mem_map.mp hx
    exact (good_mem G.2.2 hr).1
theorem RowsAt.get {H : Hp} {vs : List V} {rs : List FRow} (h : RowsAt H vs rs) {i : Nat} {x : V} (hx : vs[i]? = some x) : ∃ (r : FRow) (p : Addr), rs[i]? = some r ∧ x = .ref p ∧ H p = some (.tup [.str r.1, parV r.2]) := by
  have hi : i < rs.length := by rw [← h.1]; exact (List.getElem?_eq_some_iff.mp hx).1
  obtain ⟨p, a, b⟩ := h.2 i _ (List.getElem?_eq_getElem hi)
  rw [hx] at a
  cases a
  exact ⟨_, p, List.getElem?_eq_getElem hi, rfl, b⟩
instance ascDec (n : Nat) (x : Str) : Decidable (Asc n x) := by
  unfold Asc
  infer_instance
/-! ### what a fact's text holds -/
def Sml (d : PyData) : Prop := d.showable = true ∧ d.depth ≤ 60 ∧ d.shown.length ≤ sizeLine
theorem part_ok {ws : List Str} (hw : ∀ x ∈ ws, nameOk x = true) {p : Str} {y : PyData} (h : partB ws p y = true) : Ok 1 y := by
  have num : ∀ m : Int, m ≤ 1000000000 → isN m y = true → Ok 1 y := fun m hm h => by
    cases y with
    | int i =>
      have := of_decide_eq_true h
      exact Gk.ok_int (by have : (10:Nat) ^ 20 = 100000000000000000000 := (by decide); omega)
    | _ => cases h
  unfold partB at h
  split at h
  · cases y with
    | str z => exact ok_str (name_asc19 (hw z (of_decide_eq_true h)))
    | _ => cases h
  split at h
  · exact num _ (by decide) h
  split at h
  · exact num _ (by decide) h
  · exact num _ (by decide) h
theorem zip_ok {ws : List Str} (hw : ∀ x ∈ ws, nameOk x = true) : ∀ (ps : List Str) (r : List PyData), r.length = ps.length → (List.zipWith (partB ws) ps r).all id = true → ∀ y ∈ r, Ok 1 y
  | [], [], _, _, y, hy => by cases hy
  | [], _ :: _, h, _, _, _ => by cases h
  | _ :: _, [], h, _, _, _ => by cases h
  | p :: ps, a :: r, hl, h, y, hy => by
    rw [List.zipWith_cons_cons, List.all_cons, Bool.and_eq_true] at h
    rcases List.mem_cons.mp hy with rfl | hy
    · exact part_ok hw h.1
    · exact zip_ok hw ps r (by simpa using hl) h.2 y hy
theorem kind_ok1 {z : Str} {ps : List Str} (h : partsOf z = some ps) : Ok 1 (.str z) := by
  refine ok_str ?_
  have : ∀ k : Str, Asc 19 k → z = k → Asc 19 z := fun k hk e => by rw [e]; exact hk
  unfold partsOf at h
  split at h
  · rename_i e; exact this _ (by decide +kernel) e
  split at h
  · rename_i e; exact this _ (by decide +kernel) e
  split at h
  · rename_i e; exact this _ (by decide +kernel) e
  split at h
  · rename_i e; exact this _ (by decide +kernel) e
  split at h
  · rename_i e; exact this _ (by decide +kernel) e
  split at h
  · rename_i e; exact this _ (by decide +kernel) e
  split at h
  · rename_i e; exact this _ (by decide +kernel) e
  · cases h
theorem ok5 {ds : List PyData} (h : ∀ y ∈ ds, Ok 1 y) (hl : ds.length ≤ 4) : Ok 5 (.tuple ds) := by
  obtain ⟨b1, b2, b3, b4⟩ := ok_all h
  have t2 := tupleText_len_le (PyData.shownAll ds)
  have e1 : 200 * 4 ^ 1 = 800 := (by decide)
  have e5 : 200 * 4 ^ 5 = 204800 := (by decide)
  rw [e1] at b4
  refine ⟨by simp only [PyData.showable, b1], by simp only [PyData.depth]; omega, ?_⟩
  simp only [PyData.shown]
  rw [e5]
  omega
theorem fact_ok {ws : List Str} (hw : ∀ x ∈ ws, nameOk x = true) {x : PyData} (h : factB ws x = true) : Ok 5 x := by
  match x, h with
  | .tuple (.str k :: r), h =>
    have h : factR ws k r = true := h
    obtain ⟨ps, e1, e2⟩ := Fx.len h
    obtain ⟨l3, _⟩ := parts_len e1
    rw [factR_some e1, Bool.and_eq_true, Bool.and_eq_true] at h
    refine ok5 (fun y hy => ?_) (by rw [List.length_cons]; omega)
    rcases List.mem_cons.mp hy with rfl | hy
    · exact kind_ok1 e1
    · exact zip_ok hw ps r e2 h.2.1 y hy
theorem sml_list {xs : List PyData} (h : ∀ x ∈ xs, Ok 5 x) (hl : xs.length ≤ 2) : Sml (.list xs) := by
  obtain ⟨h1, h2, h3⟩ := ok_list h hl
  refine ⟨h1, by omega, ?_⟩
  rw [sizeLine_eq]
  have e6 : 200 * 4 ^ (5 + 1) = 819200 := (by decide)
  omega
theorem parsed_dr {H : Hp} {t : Addr} {xs : List Str} {f : Str → Bool} (h : H t = some (.tup (xs.map fun y => cvV (f y) y))) : Dr H (.ref t) (.tuple (xs.map fun y => cvD (f y) y)) := .tup h (DkAll.dr (d := t) (g := t) (cv_all f xs))
theorem read_dr {H : Hp} {t : Addr} {xs : List Str} (h : H t = some (.tup (wLv xs))) : Dr H (.ref t) (wL xs) := by
  cases xs with
  | nil => exact .tup h .nil
  | cons z r => exact .tup h (.cons (.str z) (DkAll.dr (d := t) (g := t) (cv_all nL r)))
/-- what parse_fact refuses -/
def OddV (ws : List Str) (H : Hp) (v : V) : Prop := (∃ x : Str, v = .str x ∧ x.length ≤ 200 ∧ factB ws (wP (Txt.split x " ")) = false) ∨ ∃ T, TyT H v T ∧ kitB T "str" = some false
theorem odd_told {ws : List Str} {H : Hp} {v : V} {Q : VK} (h : OddV ws H v) (k : ∀ H', Ext H H' → Q (.int 0) H') : (∃ x : Str, v = .str x ∧ x.length ≤ 200 ∧ Tol ws x H Q) ∨ (∃ T, TyT H v T ∧ kitB T "str" = some false ∧ ∀ H', Ext H H' → Q (.int 0) H') := by
  rcases h with ⟨x, e, hl, hf⟩ | ⟨T, h1, h2⟩
  · refine .inl ⟨x, e, hl, ?_⟩
    unfold Tol
    rw [hf, if_neg Bool.false_ne_true]
    exact k
  · exact .inr ⟨T, h1, h2, k⟩
theorem got_yes {C CT : Addr} {ws : List Str} {x : Str} {H : Hp} {Q : VK} {E : XK} (h : factB ws (wP (Txt.split x " ")) = true) (k : ∀ H' t, Ext H H' → H t = none → H' t = some (.tup ((Txt.split x " ").map fun y => cvV (nP y) y)) → Q (.ref t) H') : Got C CT ws x H Q E := by
  unfold Got
  rw [if_pos h]
  exact k
abbrev nLaw : List Str := ["_law_script", "_law_state", "_law_turn", "_law_rows", "_law_woods", "_law_names", "_law_thing", "_law_line", "_law_change", "_law_spoilt", "_law_due", "_law_odd", "_law_pair", "_law_part"]
section
variable {P : Program} {w : World} {K : PySem.W.Frag} {mg : Str → Option Value} {base : Heap} {C fI pN fN : Addr} {mc : Value} {fdN : FuncData}
theorem scLaw : FnScope nLaw ["_law_script"] (defScope sLaw) := ⟨rfl, rfl, rfl, by decide +kernel, rfl, by decide +kernel, by decide +kernel⟩
theorem ok_law {CT fB fT fP fF fLf fLc fLr fLt fFt fPa f : Addr} {fdB fdT fdP fdI fdF fdLf fdLc fdLr fdLt fdFt fdPa : FuncData} {ns : List Int} {a : Addr} {A : Around} {s : Shared} {H : Hp} {cdv : Value} (hl : ns.length ≤ 63) (B : Bed K mg base A) (hr : Room 6 (A.deeper (envOfC "law" (defScope sLaw) s.heap.objs.size f cdv))) (hS : SqL K H a (ns.map V.int))
    (R : Draw P w K mg base ns fT fP fdT fdP) (T : Names mg) (Z : FC K mg C fI mc)
    (GI : FnOk P w K mg base CX0 4 fI fdI ["self", "rows"] (spInit C)) (bI : Binds K fdI ["self", "rows"] [])
    (GB : FnOk P w K mg base CX0 1 fB fdB ["_law_script"] (spBegun K ns)) (bB : Binds K fdB ["_law_script"] []) (kB : PySem.W.keepIn K (.ref fB) = true) (mB : mg "_law_begun" = some (.ref fB))
    (GF : FnOk P w K mg base CX0 5 fF fdF ["_law_state", "_law_most"] (spForest ns)) (bF : Binds K fdF ["_law_state", "_law_most"] []) (kF : PySem.W.keepIn K (.ref fF) = true) (mF : mg "_law_forest" = some (.ref fF))
    (GLf : FnOk P w K mg base CX0 4 fLf fdLf ["_law_state", "_law_names", "_law_places", "_law_marks"] (spLFact ns)) (bLf : Binds K fdLf ["_law_state", "_law_names", "_law_places", "_law_marks"] []) (kLf : PySem.W.keepIn K (.ref fLf) = true) (mLf : mg "_law_fact" = some (.ref fLf))
    (GLc : FnOk P w K mg base CX0 4 fLc fdLc ["_law_state", "_law_line"] (spLCh ns)) (bLc : Binds K fdLc ["_law_state", "_law_line"] []) (kLc : PySem.W.keepIn K (.ref fLc) = true) (mLc : mg "_law_changed" = some (.ref fLc))
    (GLr : FnOk P w K mg base CX0 3 fLr fdLr ["_law_names", "_law_line"] spLRead) (bLr : Binds K fdLr ["_law_names", "_law_line"] []) (kLr : PySem.W.keepIn K (.ref fLr) = true) (mLr : mg "_law_read" = some (.ref fLr))
    (GLt : FnOk P w K mg base CX0 6 fLt fdLt ["_law_woods", "_law_line"] (spLTold C)) (bLt : Binds K fdLt ["_law_woods", "_law_line"] []) (kLt : PySem.W.keepIn K (.ref fLt) = true) (mLt : mg "_law_told" = some (.ref fLt))
    (GFt : FnOk P w K mg base CX0 1 fFt fdFt ["fact"] spFText) (bFt : Binds K fdFt ["fact"] []) (kbFt : KBinds K fdFt ["fact"] ["fact"] gR1 gR1V) (kFt : PySem.W.keepIn K (.ref fFt) = true) (mFt : mg "fact_text" = some (.ref fFt))
    (GPa : FnOk P w K mg base (L2.CX P w) 5 fPa fdPa ["text", "forest"] (spParseF C CT)) (bPa : Binds K fdPa ["text", "forest"] []) (kbPa : KBinds K fdPa ["text", "forest"] ["forest", "text"] gSw gSwV) (kPa : PySem.W.keepIn K (.ref fPa) = true) (mPa : mg "parse_fact" = some (.ref fPa)) :
    ∃ t, PSs (cxOf CX0 P w K mg base nLaw "law" (defScope sLaw) f cdv A [] s H E0).nox (defBody sLaw) t ∧ t { nx := fun _ _ => False, rt := fun v _ => v = .bl true } (L2.start nLaw [.ref a]) H := by
  have nd := scLaw.nd
  have hu := hu_of hr
  have hgd : (A.deeper (envOfC "law" (defScope sLaw) s.heap.objs.size f cdv)).guards = some [] := B.gd
  have hr5 : Room 5 (A.deeper (envOfC "law" (defScope sLaw) s.heap.objs.size f cdv)) := hr.mono (by decide)
  have hr4 : Room 4 (A.deeper (envOfC "law" (defScope sLaw) s.heap.objs.size f cdv)) := hr.mono (by decide)
  have hr3 : Room 3 (A.deeper (envOfC "law" (defScope sLaw) s.heap.objs.size f cdv)) := hr.mono (by decide)
  have hr2 : Room 2 (A.deeper (envOfC "law" (defScope sLaw) s.heap.objs.size f cdv)) := hr.mono (by decide)
  have hr1 : Room 1 (A.deeper (envOfC "law" (defScope sLaw) s.heap.objs.size f cdv)) := hr.mono (by decide)
  refine ⟨_, pss_cons (ps_set (i := 1) nd rfl (.inl rfl) (pe_call GB hr1 rfl mB kB bB .nil pass0 (pa_cons (pv 0) pa_nil)))
(pss_cons (ps_for PassesOwn.never rfl (pi_range1 rfl T.range (pa_cons pe_int pa_nil)) (pg_name (i := 2) nd rfl (.inl rfl))
(pss_cons (ps_set (i := 3) nd rfl (.inl rfl) (pe_call GF hr5 rfl mF kF bF .nil pass0 (pa_cons (pv 1) (pa_cons pe_int pa_nil))))
(pss_cons (ps_par (i := 4) (j := 5) (by rfl) nd rfl rfl (by decide) rfl rfl (pa_cons (pe_make Z.make GI hr5 rfl Z.g bI .nil pass0 (pa_cons (pv 3) pa_nil)) (pa_cons (pe_lc (own := [("_law_pair", 12)]) (g := gName 12) (tt := tYes) rfl nd (pi_list (pv 3)) (blkOk_by (N := nLaw) (sc := defScope sLaw) (by decide +kernel))
(fun _ _ _ _ _ => pg_name (i := 12) nd rfl (.inl rfl)) (fun _ _ _ _ _ => pts_nil) (fun _ _ _ _ _ => pe_ix (r := rIxT K) ix_tup (pv 12) pe_int (fun _ _ => rfl))) pa_nil)) (by rfl))
(pss_cons (ps_set (i := 6) nd rfl (.inl rfl) (pe_call GLf hr4 rfl mLf kLf bLf .nil pass0 (pa_cons (pv 1) (pa_cons (pv 5) (pa_cons pe_int (pa_cons pe_int pa_nil))))))
(pss_cons (ps_set (i := 7) nd rfl (.inl rfl) (pe_join pe_str (pe_lc (own := [("_law_part", 13)]) (g := gName 13) (tt := tYes) rfl nd (pi_tup (pv 6)) (blkOk_by (N := nLaw) (sc := defScope sLaw) (by decide +kernel))
(fun _ _ _ _ _ => pg_name (i := 13) nd rfl (.inl rfl)) (fun _ _ _ _ _ => pts_nil) (fun _ _ _ _ _ => pe_callTy call_strX rfl T.str (by decide +kernel) (pa_cons (pv 13) pa_nil)))))
(pss_cons (ps_if (PW.pt (pw_or (pt_cmpR op_ne (pe_call GFt hr1 rfl mFt kFt bFt .nil pass0 (pa_cons (pv 6) pa_nil)) (pv 7) (nomark _)) (pw_or1 (pt_cmpR op_ne (pe_kw GFt hr1 rfl mFt kFt kbFt pass0 (pk_cons (pv 6) pk_nil)) (pv 7) (nomark _))))) (pss_one (ps_ret pe_bl)) pss_nil)
(pss_cons (ps_if (pt_cmpR op_ne (pe_callB (call_repr hgd hr.units B.sys) rfl T.repr (by decide +kernel) (pa_cons (pe_lst (pa_cons (pe_call GPa hr5 rfl mPa kPa bPa .nil passF (pa_cons (pv 7) (pa_cons (pv 4) pa_nil))) (pa_cons (pe_kw GPa hr5 rfl mPa kPa kbPa passF (pk_cons (pv 4) (pk_cons (pv 7) pk_nil))) pa_nil))) pa_nil)) (pe_callB (call_repr hgd hr.units B.sys) rfl T.repr (by decide +kernel) (pa_cons (pe_lst (pa_cons (pv 6) (pa_cons (pv 6) pa_nil))) pa_nil)) (nomark _)) (pss_one (ps_ret pe_bl)) pss_nil)
(pss_cons (ps_for PassesOwn.never rfl (pi_range1 rfl T.range (pa_cons pe_int pa_nil)) (pg_name (i := 8) nd rfl (.inl rfl))
(pss_cons (ps_set (i := 9) nd rfl (.inl rfl) (pe_call GLc hr4 rfl mLc kLc bLc .nil pass0 (pa_cons (pv 1) (pa_cons (pv 7) pa_nil))))
(pss_cons (ps_if (pt_cmpR op_eq (pe_call R.GT hr2 rfl R.mT R.kT R.bT .nil pass0 (pa_cons (pv 1) (pa_cons pe_int pa_nil))) pe_int (nomark _)) (pss_one (ps_set (i := 9) nd rfl (.inl rfl) (pe_call GLc hr4 rfl mLc kLc bLc .nil pass0 (pa_cons (pv 1) (pa_cons (pv 9) pa_nil))))) pss_nil)
(pss_cons (ps_set (i := 10) nd rfl (.inl rfl) (pe_call GLr hr3 rfl mLr kLr bLr .nil pass0 (pa_cons (pv 5) (pa_cons (pv 9) pa_nil))))
(pss_one (ps_if (pt_cmpR op_ne (pe_callB (call_repr hgd hr.units B.sys) rfl T.repr (by decide +kernel) (pa_cons (pe_call GLt hr rfl mLt kLt bLt .nil pass0 (pa_cons (pv 4) (pa_cons (pv 9) pa_nil))) pa_nil)) (pe_callB (call_repr hgd hr.units B.sys) rfl T.repr (by decide +kernel) (pa_cons (pe_ifExp (pt_cmpR op_isN (pv 10) pe_non (nomark _)) pe_int (pe_lst (pa_cons (pv 10) pa_nil))) pa_nil)) (nomark _)) (pss_one (ps_ret pe_bl)) pss_nil))))))
(pss_cons (ps_set (i := 11) nd rfl (.inl rfl) (pe_lst (pa_cons pe_non (pa_cons pe_int (pa_cons pe_bl (pa_cons (pv 6) (pa_cons (pe_lst (pa_cons (pv 7) pa_nil)) (pa_cons pe_dnewK (pa_cons pe_str (pa_cons pe_str (pa_cons (pe_op op_add_str (pv 7) pe_str) (pa_cons (pe_op op_add_str pe_str (pv 7)) (pa_cons (pe_op op_add_str (pv 7) pe_str) (pa_cons (pe_ix ix_list (pv 5) pe_int (fun _ _ => rfl)) pa_nil))))))))))))))
(pss_cons (ps_set (i := 11) nd rfl (.inl rfl) (pe_call R.GP hr3 rfl R.mP R.kP R.bP .nil pass0 (pa_cons (pv 1) (pa_cons (pv 11) pa_nil))))
(pss_one (ps_if (pt_cmpR op_ne (pe_callB (call_repr hgd hr.units B.sys) rfl T.repr (by decide +kernel) (pa_cons (pe_call GLt hr rfl mLt kLt bLt .nil pass0 (pa_cons (pv 4) (pa_cons (pv 11) pa_nil))) pa_nil)) pe_str (nomark _)) (pss_one (ps_ret pe_bl)) pss_nil))))))))))))
(pss_one (ps_ret pe_bl))), ?_⟩
  refine ⟨_, rfl, a, rfl, hS, hl, fun d g c H1 D1 x1 fd fg fc => ?_⟩
  refine ⟨8, rfl, by decide, by decide, for_range (lo := 0) (n := 8) (fun i σ H' => ∃ (v2 v3 v4 v5 v6 v7 v8 v9 v10 v11 : Option V), σ = [some (.ref a), some (.ref d), v2, v3, v4, v5, v6, v7, v8, v9, v10, v11, none, none] ∧ Dw ns d g c (i * 1000) H') ⟨none, none, none, none, none, none, none, none, none, none, rfl, D1⟩ ?_ ?_⟩
  · rintro i σ H2 hi ⟨v2, v3, v4, v5, v6, v7, v8, v9, v10, v11, rfl, D2⟩
    refine ⟨_, rfl, d, g, c, _, 8, rfl, D2, by omega, by decide, by decide, fun lr rx rs H3 lr0 nrd nrg hr3' R3 G D3 k3 => ?_⟩
    have R4 := R3
    have D4 := D3
    have r4 := hr3'
    have k34 : Kp d g H3 H3 := Kp.refl
    generalize H3 = H4 at R4 D4 r4 k34 k3 R3 D3 hr3' ⊢
    -- the forest, its names
    refine ⟨_, rfl, fun y dx hy hdx ne => ?_⟩
    have kx : Ext H4 (upd (upd H4 dx (.own y)) y (.ins C dx [])) := fun b o hb => by
      rw [upd_ne (ne_of_none hb hy), upd_ne (ne_of_none hb hdx)]
      exact hb
    refine ⟨y, lr, dx, rx, rs, rfl, upd_same, kx _ _ r4, R4.ext kx, G, fun H5 q k5 i5 q5 => ⟨rfl, ?_⟩⟩
    have k45 : Ext H4 H5 := fun b o hb => k5 _ _ (ne_of_none hb hy) (kx _ _ hb)
    have f5 : FoAt C H5 y rs := ⟨dx, q, i5, q5⟩
    obtain ⟨nm0, nm8, nmo, nmn⟩ := good_names G
    refine ⟨_, rfl, lr, rfl, ⟨_, SqL.of (k45 _ _ r4)⟩, fun ln hln => ?_⟩
    have D5 := D4.keep k45
    have nnd := D5.nd hln
    have nng := D5.ng hln
    refine lc_it walk_list (fun i H' => H' ln = some (.lst (((fNames rs).take i).map V.str)) ∧ Ext H5 H') ⟨upd_same, Ext.new hln⟩ (fun i H' _ ⟨_, e⟩ => SqL.of (e _ _ (k45 _ _ r4))) ?_ ?_
    · rintro i' z H6 H6' hi' ⟨d6, k6⟩ ⟨rfl, hz⟩
      obtain ⟨r, p, hr1', rfl, hp⟩ := R4.get hz
      have hrn : (fNames rs)[i']? = some r.1 := by unfold fNames; rw [List.getElem?_map, hr1']; rfl
      refine ⟨rfl, yes_of ?_⟩
      refine ⟨_, rfl, p, _, _, _, rfl, rfl, SqT.of (k6 _ _ (k45 _ _ hp)), (show atI [V.str r.1, parV r.2] ((0 : Nat) : Int) = some (V.str r.1) from atI_nat rfl), _, d6, ?_, ?_, fun x o e => ?_⟩
      · rw [List.length_map, List.length_take]
        exact small1000 (by omega)
      · rw [upd_same, List.take_add_one, hrn, List.map_append]
        rfl
      · rw [upd_ne (ne_of_none e hln)]
        exact k6 _ _ e
    rintro H6 ⟨d6, k6⟩
    have e6 : (fNames rs).take rx.length = fNames rs := List.take_of_length_le (by rw [R4.1]; unfold fNames; rw [List.length_map]; exact Nat.le_refl _)
    rw [e6] at d6
    refine ⟨_, _, rfl, ?_⟩
    have k46 := k45.trans k6
    have f6 := f5.ext k6
    have D6 : Dw ns d g c (i * 1000 + 400) H6 := (D5.keep k6).mono (by omega)
    dsimp only [List.set]
    have hn6 : Nm H6 ln (fNames rs) := ⟨d6, nm0, nm8, nmo⟩
    have fws := nmo
    refine ⟨_, rfl, _, rfl, d, g, c, ln, _, 20, 999, fNames rs, rfl, D6, by omega, nnd, nng, hn6, by decide, by decide, by decide, by decide, fun p x H7 dk fx D7 k7 => ?_⟩
    obtain ⟨z, r, rfl, hf, hz, hrl, hwr⟩ := fx
    have hw := all_wd hz hwr
    have hyl : (PyData.str z :: r).length ≤ 4 := by rw [List.length_cons]; omega
    have okx := fact_ok fws (x := .tuple (.str z :: r)) hf
    have f7 := f6.kp G D6 k7
    have n7 : H7 ln = some (.lst ((fNames rs).map V.str)) := k7 _ _ nnd nng d6
    have dk0 := dk
    obtain ⟨xs, hp, np1, np2, hall⟩ : ∃ xs, H7 p = some (.tup xs) ∧ p ≠ d ∧ p ≠ g ∧ DkAll d g H7 xs (.str z :: r) := by
      cases dk with
      | tup h1 h2 h3 h4 => exact ⟨_, h1, h2, h3, h4⟩
    have lnx := hall.len
    refine ⟨⟨_, rfl⟩, _, rfl, p, rfl, ⟨_, SqT.of hp⟩, fun D hD => ?_⟩
    refine lc_it walk_tup (fun i H' => H' D = some (.lst ((((PyData.str z :: r).take i).map txt).map V.str)) ∧ Ext H7 H') ⟨upd_same, Ext.new hD⟩ (fun i H' _ ⟨_, e⟩ => SqT.of (e _ _ hp)) ?_ ?_
    · rintro i x H8 H9 hi ⟨d1, k1⟩ ⟨rfl, hx⟩
      obtain ⟨y1, hy1, dky⟩ := hall.get hx
      refine ⟨rfl, yes_of ?_⟩
      refine ⟨_, rfl, ?_⟩
      dsimp only [tNil]
      refine str_wd (dky.kp (Kp.of k1)) (hw y1 (List.mem_of_getElem? hy1)) ⟨_, d1, ?_, ?_, fun b o e => ?_⟩
      · rw [List.length_map, List.length_map, List.length_take]
        exact small1000 (by omega)
      · rw [upd_same, List.take_add_one, hy1, List.map_append, List.map_append]
        rfl
      · rw [upd_ne (ne_of_none e hD)]
        exact k1 _ _ e
    rintro H8 ⟨d8, k8⟩
    rw [List.take_of_length_le (by omega)] at d8
    have lp := (line_pt hw hyl).wt
    have sp1 : (" " : Str).length = 1 := by decide +kernel
    have la := line_asc hw hyl
    have la1 := la.1
    have hLb := line_back (by simp) hw
    have hLf : factB (fNames rs) (wP (Txt.split (lineD (.str z :: r)) " ")) = true := by rw [hLb]; exact hf
    refine ⟨_, _, _, rfl, rfl, .inl (SqL.of d8), by rw [sp1, Nat.mul_one]; exact Nat.le_trans lp (by decide), ?_⟩
    rw [show Txt.join " " ((PyData.str z :: r).map txt) = lineD (.str z :: r) from rfl]
    dsimp only [List.set]
    have pd : ∀ {H' : Hp} {t : Addr}, H' t = some (.tup ((Txt.split (lineD (.str z :: r)) " ").map fun y => cvV (nP y) y)) → Dr H' (.ref t) (.tuple (.str z :: r)) := fun h => by rw [← hLb]; exact parsed_dr h
    obtain ⟨s1, s2, s3⟩ := sml_list (xs := [.tuple (.str z :: r), .tuple (.str z :: r)]) (fun x hx => by
      simp only [List.mem_cons, List.not_mem_nil, or_false] at hx
      rcases hx with rfl | rfl <;> exact okx) (Nat.le_refl _)
    have z1 : PyData.showable (.int 0) = true := by decide +kernel
    have z2 : PyData.depth (.int 0) ≤ 60 := by decide +kernel
    have z3 : (PyData.shown (.int 0)).length ≤ sizeLine := by rw [sizeLine_eq]; decide +kernel
    have k78 : Kp d g H7 H8 := Kp.of k8
    -- fact_text
    refine ⟨_, rfl, d, g, _, _, rfl, dk0.kp k78, hw, hyl, fun H9 k9 => ⟨_, rfl, rfl, _, rfl, iteNS rfl ?_⟩⟩
    have k79 := k78.trans (Kp.of k9)
    refine ⟨_, rfl, d, g, _, _, rfl, dk0.kp k79, hw, hyl, fun H10 k10 => ⟨_, rfl, rfl, _, rfl, iteNS rfl ?_⟩⟩
    have k710 := k79.trans (Kp.of k10)
    have D10 : Dw ns d g c (i * 1000 + 420) H10 := ((D7.keep k8).keep (k9.trans k10)).mono (by omega)
    -- parse_fact
    refine ⟨_, rfl, _, rfl, y, _, rs, rfl, f7.kp G D7 k710, .inl ⟨_, rfl, by omega, got_yes hLf fun H11 t1 k11 _ t1e => ?_⟩⟩
    have k711 := k710.trans (Kp.of k11)
    refine ⟨_, rfl, _, rfl, y, _, rs, rfl, f7.kp G D7 k711, .inl ⟨_, rfl, by omega, got_yes hLf fun H12 t2 k12 _ t2e => ?_⟩⟩
    refine ⟨by show 2 ≤ sizeLine; decide, fun tl htl => ?_⟩
    have e1 := k12.trans (Ext.new (o := .lst [.ref t1, .ref t2]) htl)
    refine ⟨_, _, rfl, Dr.lst upd_same (.cons (pd (e1 _ _ t1e)) (.cons (pd (new_same htl _ _ t2e)) .nil)), s1, s2, s3, ?_⟩
    generalize upd H12 tl (.lst [.ref t1, .ref t2]) = H13 at e1 ⊢
    have k713 := k711.trans (Kp.of e1)
    refine ⟨_, rfl, _, rfl, by show 2 ≤ sizeLine; decide, fun t5 ht5 => ?_⟩
    have e2 := Ext.new (o := .lst [.ref p, .ref p]) ht5
    have dr2 := (dk0.kp (k713.trans (Kp.of e2))).dr
    refine ⟨_, _, rfl, Dr.lst upd_same (.cons dr2 (.cons dr2 .nil)), s1, s2, s3, rfl, _, rfl, iteNS rfl ?_⟩
    have D14 : Dw ns d g c (i * 1000 + 420) (upd H13 t5 (.lst [.ref p, .ref p])) := (D10.keep (k11.trans e1)).keep e2
    have k14 := k713.trans (Kp.of e2)
    generalize upd H13 t5 (.lst [.ref p, .ref p]) = H14 at D14 k14 ⊢
    -- spoilt ones
    refine ⟨6, rfl, by decide, by decide, for_range (lo := 0) (n := 6) (fun j σ H' => ∃ (v8 v9 v10 : Option V), σ = [some (.ref a), some (.ref d), some (.int (0 + (i : Int))), some (.ref lr), some (.ref y), some (.ref ln), some (.ref p), some (.str (lineD (.str z :: r))), v8, v9, v10, v11, none, none] ∧ Dw ns d g c (i * 1000 + 420 + j * 10) H' ∧ Kp d g H7 H') ⟨_, _, _, rfl, D14, k14⟩ ?_ ?_⟩
    · rintro j σ Hj hj ⟨v8, v9, v10, rfl, Dj, kj⟩
      refine ⟨_, rfl, _, rfl, d, g, c, _, 44, _, rfl, Dj, by omega, la, by decide, fun sa Hk as1 Dk_ kk => ?_⟩
      refine ⟨_, rfl, d, g, c, _, 3, rfl, Dk_, by omega, by decide, by decide, fun u Hm u0 u1 Dm km => ?_⟩
      have kjm := (kj.trans kk).trans km
      refine ⟨rfl, _, rfl, ?_⟩
      refine ite2 (fun _ => ?A) (fun _ => ?B)
      case' A =>
        refine ⟨_, rfl, _, rfl, d, g, c, _, 89, sa, rfl, Dm, by omega, as1, by decide, fun sp Hn asp Dn kn => ?_⟩
        have as0 : Asc 179 sp := asp
        have Dn : Dw ns d g c (i * 1000 + 420 + (j + 1) * 10) Hn := Dn.mono (by omega)
        have kjn := kjm.trans kn
      case' B =>
        have as0 : Asc 179 sa := as1.mono (by decide)
        have Dn : Dw ns d g c (i * 1000 + 420 + (j + 1) * 10) Hm := Dm.mono (by omega)
        have kjn := kjm
        generalize Hm = Hn at Dn kjn ⊢
        generalize sa = sp at as0 ⊢
      all_goals
        have al := as0.1
        have fo := f7.kp G D7 kjn
        obtain ⟨c1, c2⟩ := fact_cv fws (Txt.split sp " ")
        refine ⟨_, rfl, _, rfl, ln, sp, fNames rs, rfl, kjn _ _ nnd nng n7, as0.mono (by decide), ?_⟩
        by_cases hfc : factB (fNames rs) (wL (Txt.split sp " ")) = true
        · rw [if_pos hfc]
          intro Ho td ko tde
          have eP := c2 hfc
          refine ⟨_, rfl, _, rfl, y, .str sp, rs, rfl, fo.ext ko, .inl ⟨_, rfl, by omega, ?_⟩⟩
          unfold Tol
          rw [if_pos (c1.trans hfc)]
          intro Hq t1 l kq t1e le
          obtain ⟨w1, w2, w3⟩ := sml_list (xs := [wL (Txt.split sp " ")]) (fun x hx => by
            rw [List.mem_singleton.mp hx]
            exact fact_ok fws hfc) (by show 1 ≤ 2; decide)
          have dp : Dr Hq (.ref t1) (wL (Txt.split sp " ")) := by rw [← eP]; exact parsed_dr t1e
          refine ⟨_, _, rfl, Dr.lst le (.cons dp .nil), w1, w2, w3, ?_⟩
          refine ⟨_, rfl, rfl, _, rfl, iteN (by intro z; cases z) ?_⟩
          refine ⟨_, rfl, by show 1 ≤ sizeLine; decide, fun l2 hl2 => ?_⟩
          refine ⟨_, _, rfl, Dr.lst upd_same (.cons (read_dr (new_same hl2 _ _ (kq _ _ tde))) .nil), w1, w2, w3, rfl, _, rfl, iteNS rfl ?_⟩
          have ee := (ko.trans kq).trans (Ext.new (o := .lst [.ref td]) hl2)
          exact ⟨_, _, _, rfl, Dn.keep ee, kjn.trans (Kp.of ee)⟩
        · rw [if_neg hfc]
          intro Ho ko
          refine ⟨_, rfl, _, rfl, y, .str sp, rs, rfl, fo.ext ko, odd_told (.inl ⟨sp, rfl, by omega, by rw [c1]; exact Bool.eq_false_iff.mpr hfc⟩) fun Hq kq => ?_⟩
          refine ⟨_, _, rfl, .int 0, z1, z2, z3, ?_⟩
          refine ⟨_, rfl, rfl, _, rfl, iteS rfl ?_⟩
          refine ⟨_, _, rfl, .int 0, z1, z2, z3, rfl, _, rfl, iteNS rfl ?_⟩
          have ee := ko.trans kq
          exact ⟨_, _, _, rfl, Dn.keep ee, kjn.trans (Kp.of ee)⟩
    · rintro σ H15 ⟨v8, v9, v10, rfl, D15, k15⟩
      have n15 := k15 _ _ nnd nng n7
      obtain ⟨n0, nr, hn0⟩ : ∃ n0 nr, fNames rs = n0 :: nr := List.exists_cons_of_ne_nil nm0
      have a0 : atI ((fNames rs).map V.str) 0 = some (V.str n0) := by
        rw [hn0]
        exact (show atI ((n0 :: nr).map V.str) ((0 : Nat) : Int) = _ from atI_nat rfl)
      have on0 := low_name (fws n0 (by rw [hn0]; exact List.mem_cons_self))
      have nl1 : ("\n" : Str).length = 1 := by decide +kernel
      have D15 : Dw ns d g c (i * 1000 + 480) H15 := D15
      refine ⟨_, rfl, _, rfl, by show 1 ≤ sizeLine; decide, fun q5 hq5 => ?_⟩
      have D16 := D15.new (o := .lst [.str (lineD (.str z :: r))]) hq5
      have k16 := k15.trans (Kp.new (o := .lst [.str (lineD (.str z :: r))]) hq5)
      have e16 : (upd H15 q5 (.lst [.str (lineD (.str z :: r))])) q5 = some (.lst [.str (lineD (.str z :: r))]) := upd_same
      have n5 := D15.nd hq5
      have g5 := D15.ng hq5
      generalize upd H15 q5 (.lst [.str (lineD (.str z :: r))]) = H16 at D16 k16 e16 ⊢
      intro q6 hq6
      have D17 := D16.new (o := .dK []) hq6
      have e17 := new_same (o := .dK []) hq6 _ _ e16
      have k17 := k16.trans (Kp.new (o := .dK []) hq6)
      have f17 : (upd H16 q6 (.dK [])) q6 = some (.dK []) := upd_same
      have n6 := D16.nd hq6
      have g6 := D16.ng hq6
      generalize upd H16 q6 (.dK []) = H17 at D17 k17 e17 f17 ⊢
      refine ⟨_, rfl, _, _, rfl, rfl, by rw [sizeLine_eq, sp1]; omega, _, rfl, _, _, rfl, rfl, by rw [sizeLine_eq, sp1]; omega, _, rfl, _, _, rfl, rfl, by rw [sizeLine_eq, nl1]; omega, _, rfl, ln, _, 0, _, rfl, rfl, SqL.of (k17 _ _ nnd nng n7), a0, by show 12 ≤ sizeLine; decide, fun q hq => ?_⟩
      refine ⟨_, rfl, _, rfl, d, g, c, _, D17.new hq, by omega, .inl ⟨q, _, rfl, upd_same, D17.nd hq, D17.ng hq, by show 0 < 12; decide, by show 12 ≤ 1000000; decide, fun v H18 hv D18 k18 => ?_⟩⟩
      have kq := (Kp.new (d := d) (g := g) hq).trans k18
      have kv := k17.trans kq
      have odd : OddV (fNames rs) H18 v := by
        simp only [List.mem_cons, List.not_mem_nil, or_false] at hv
        rcases hv with rfl | rfl | rfl | rfl | rfl | rfl | rfl | rfl | rfl | rfl | rfl | rfl
        · exact .inr ⟨"NoneType", .non, by decide +kernel⟩
        · exact .inr ⟨"int", .int _, by decide +kernel⟩
        · exact .inr ⟨"bool", .bl _, by decide +kernel⟩
        · exact .inr ⟨"tuple", .tup (kv _ _ np1 np2 hp), by decide +kernel⟩
        · exact .inr ⟨"list", .lst (kq _ _ n5 g5 e17), by decide +kernel⟩
        · exact .inr ⟨"dict", .dct (kq _ _ n6 g6 f17), by decide +kernel⟩
        · exact .inl ⟨_, rfl, by decide +kernel, no_empty⟩
        · exact .inl ⟨_, rfl, by decide +kernel, no_blank⟩
        · exact .inl ⟨_, rfl, by rw [strlen, sp1]; omega, no_behind hf hz hwr⟩
        · exact .inl ⟨_, rfl, by rw [strlen, sp1]; omega, no_ahead hz hwr⟩
        · exact .inl ⟨_, rfl, by rw [strlen, nl1]; omega, no_feed fws hf hz hwr⟩
        · exact .inl ⟨_, rfl, by have := on0.1; omega, no_name on0⟩
      refine ⟨_, rfl, _, rfl, y, v, rs, rfl, f7.kp G D7 kv, odd_told odd fun H19 k19 => ?_⟩
      refine ⟨_, _, rfl, .int 0, z1, z2, z3, rfl, _, rfl, iteNS (congrArg V.str (by decide +kernel)) ?_⟩
      exact ⟨_, _, _, _, _, _, _, _, _, _, rfl, (D18.keep k19).mono (by omega)⟩
  · rintro σ H2 ⟨v2, v3, v4, v5, v6, v7, v8, v9, v10, v11, rfl, D2⟩
    rfl
end
end Lw

set_option Elab.async false
set_option linter.all false
set_option maxRecDepth 100000
set_option maxHeartbeats 8000000
namespace Lw
open L2 hiding Ext
open PySem PySem.Spec PyProof.Rows Gn Gr Gk Go Gt Gf Gu Ge
theorem kit_self {K : PySem.W.Frag} {C : Addr} : PySem.W.kitOne K (.ref C) (.ref C) = some true := by
  unfold PySem.W.kitOne
  rw [if_pos (by simp)]
theorem parts_mk {K : PySem.W.Frag} {w : World} {mg : Str → Option Value} {dp da : Addr} {nD nA : Nat} {hk0 : Int} {tk_0 : Tok} {ta0 : Addr} {nt0 : Nat} {hk1 : Int} {tk_1 : Tok} {ta1 : Addr} {nt1 : Nat} {hk2 : Int} {tk_2 : Tok} {ta2 : Addr} {nt2 : Nat} {hk3 : Int} {tk_3 : Tok} {ta3 : Addr} {nt3 : Nat} {hk4 : Int} {tk_4 : Tok} {ta4 : Addr} {nt4 : Nat} {hk5 : Int} {tk_5 : Tok} {ta5 : Addr} {nt5 : Nat} {hk6 : Int} {tk_6 : Tok} {ta6 : Addr} {nt6 : Nat} {us0 : Tok} {us1 : Tok} {us2 : Tok} {us3 : Tok} {us4 : Tok} {us5 : Tok} {us6 : Tok} {us7 : Tok} {us8 : Tok} {us9 : Tok} {us10 : Tok} {us11 : Tok} {us12 : Tok} {us13 : Tok} {us14 : Tok} {us15 : Tok} {us16 : Tok} {us17 : Tok}
    (pm : mg "PARTS" = some (.ref dp)) (am : mg "ANSWERS" = some (.ref da))
    (lpa : K.lookup dp = some ⟨.type "dict", none, .dict #[⟨hk0, .str "spender" tk_0, .ref ta0⟩, ⟨hk1, .str "request" tk_1, .ref ta1⟩, ⟨hk2, .str "deposit" tk_2, .ref ta2⟩, ⟨hk3, .str "release" tk_3, .ref ta3⟩, ⟨hk4, .str "consent" tk_4, .ref ta4⟩, ⟨hk5, .str "refuse" tk_5, .ref ta5⟩, ⟨hk6, .str "withdrawn" tk_6, .ref ta6⟩] nD, #[]⟩) (low : (dp == sysModules) = false) (hkl : PySem.W.KeysLit w.params (#[⟨hk0, .str "spender" tk_0, .ref ta0⟩, ⟨hk1, .str "request" tk_1, .ref ta1⟩, ⟨hk2, .str "deposit" tk_2, .ref ta2⟩, ⟨hk3, .str "release" tk_3, .ref ta3⟩, ⟨hk4, .str "consent" tk_4, .ref ta4⟩, ⟨hk5, .str "refuse" tk_5, .ref ta5⟩, ⟨hk6, .str "withdrawn" tk_6, .ref ta6⟩] : Array DictEntry).toList)
    (lt0 : K.lookup ta0 = some ⟨.type "tuple", none, .seq #[.str "place" us0, .str "account" us1, .str "amount" us2] nt0, #[]⟩)
    (lt1 : K.lookup ta1 = some ⟨.type "tuple", none, .seq #[.str "place" us3, .str "account" us4, .str "amount" us5] nt1, #[]⟩)
    (lt2 : K.lookup ta2 = some ⟨.type "tuple", none, .seq #[.str "mark" us6, .str "account" us7, .str "amount" us8] nt2, #[]⟩)
    (lt3 : K.lookup ta3 = some ⟨.type "tuple", none, .seq #[.str "place" us9, .str "amount" us10] nt3, #[]⟩)
    (lt4 : K.lookup ta4 = some ⟨.type "tuple", none, .seq #[.str "place" us11, .str "place" us12] nt4, #[]⟩)
    (lt5 : K.lookup ta5 = some ⟨.type "tuple", none, .seq #[.str "place" us13, .str "place" us14] nt5, #[]⟩)
    (lt6 : K.lookup ta6 = some ⟨.type "tuple", none, .seq #[.str "place" us15] nt6, #[]⟩)
    (lan : K.lookup da = some ⟨.type "tuple", none, .seq #[.str "consent" us16, .str "refuse" us17] nA, #[]⟩) : Parts K w mg dp da #[⟨hk0, .str "spender" tk_0, .ref ta0⟩, ⟨hk1, .str "request" tk_1, .ref ta1⟩, ⟨hk2, .str "deposit" tk_2, .ref ta2⟩, ⟨hk3, .str "release" tk_3, .ref ta3⟩, ⟨hk4, .str "consent" tk_4, .ref ta4⟩, ⟨hk5, .str "refuse" tk_5, .ref ta5⟩, ⟨hk6, .str "withdrawn" tk_6, .ref ta6⟩] nD := by
  have sq : ∀ {a : Addr} {its : Array Value} {n : Nat} {xs : List V}, K.lookup a = some ⟨.type "tuple", none, .seq its n, #[]⟩ → its.size ≤ 1000 → Vals xs its.toList → ∀ H : Hp, SqT K H a xs := fun hl hz hv H => .inr ⟨_, _, _, hl, rfl, rfl, by rw [sizeLine_eq]; omega, hv⟩
  have v1 : ∀ {x : Str} {t : Tok}, RelV (.str x) (.str x t) := ⟨_, rfl⟩
  have n1 : ∀ (x z : Str) (t : Tok), x ≠ z → Value.isStr (.str x t) z = false := fun x z t h => by
    show (x == z) = false
    exact beq_eq_false_iff_ne.mpr h
  have n2 : ∀ (z : Str) (t : Tok), Value.isStr (.str z t) z = true := fun z t => by
    show (z == z) = true
    exact beq_self_eq_true z
  refine ⟨pm, am, ⟨lpa, hkl, low⟩, hkl, fun z hz => ?_, fun z ps hz => ?_, sq lan (by show 2 ≤ 1000; decide) (.cons v1 (.cons v1 .nil))⟩
  · unfold partsOf at hz
    have a0 : ("spender" : Str) ≠ z := fun e => by subst e; cases hz
    have a1 : ("request" : Str) ≠ z := fun e => by subst e; cases hz
    have a2 : ("deposit" : Str) ≠ z := fun e => by subst e; cases hz
    have a3 : ("release" : Str) ≠ z := fun e => by subst e; cases hz
    have a4 : ("consent" : Str) ≠ z := fun e => by subst e; cases hz
    have a5 : ("refuse" : Str) ≠ z := fun e => by subst e; cases hz
    have a6 : ("withdrawn" : Str) ≠ z := fun e => by subst e; cases hz
    unfold PySem.W.nsIn
    rw [lpa]
    simp only [List.find?_cons, List.find?_nil, n1 _ _ _ a0, n1 _ _ _ a1, n1 _ _ _ a2, n1 _ _ _ a3, n1 _ _ _ a4, n1 _ _ _ a5, n1 _ _ _ a6]
    rfl
  · have step : ∀ (a : Addr), (PySem.W.nsIn K dp z = some (some (.ref a))) → True := fun _ _ => trivial
    unfold partsOf at hz
    split at hz
    · rename_i e; cases hz; subst e
      refine ⟨ta0, ?_, sq lt0 (by show 3 ≤ 1000; decide) (.cons v1 (.cons v1 (.cons v1 .nil)))⟩
      unfold PySem.W.nsIn
      rw [lpa]
      simp only [List.find?_cons, n2]
    split at hz
    · rename_i e; cases hz; subst e
      refine ⟨ta1, ?_, sq lt1 (by show 3 ≤ 1000; decide) (.cons v1 (.cons v1 (.cons v1 .nil)))⟩
      unfold PySem.W.nsIn
      rw [lpa]
      simp only [List.find?_cons, n2, n1 "spender" "request" _ (by decide +kernel)]
    split at hz
    · rename_i e; cases hz; subst e
      refine ⟨ta2, ?_, sq lt2 (by show 3 ≤ 1000; decide) (.cons v1 (.cons v1 (.cons v1 .nil)))⟩
      unfold PySem.W.nsIn
      rw [lpa]
      simp only [List.find?_cons, n2, n1 "spender" "deposit" _ (by decide +kernel), n1 "request" "deposit" _ (by decide +kernel)]
    split at hz
    · rename_i e; cases hz; subst e
      refine ⟨ta3, ?_, sq lt3 (by show 2 ≤ 1000; decide) (.cons v1 (.cons v1 .nil))⟩
      unfold PySem.W.nsIn
      rw [lpa]
      simp only [List.find?_cons, n2, n1 "spender" "release" _ (by decide +kernel), n1 "request" "release" _ (by decide +kernel), n1 "deposit" "release" _ (by decide +kernel)]
    split at hz
    · rename_i e; cases hz; subst e
      refine ⟨ta4, ?_, sq lt4 (by show 2 ≤ 1000; decide) (.cons v1 (.cons v1 .nil))⟩
      unfold PySem.W.nsIn
      rw [lpa]
      simp only [List.find?_cons, n2, n1 "spender" "consent" _ (by decide +kernel), n1 "request" "consent" _ (by decide +kernel), n1 "deposit" "consent" _ (by decide +kernel), n1 "release" "consent" _ (by decide +kernel)]
    split at hz
    · rename_i e; cases hz; subst e
      refine ⟨ta5, ?_, sq lt5 (by show 2 ≤ 1000; decide) (.cons v1 (.cons v1 .nil))⟩
      unfold PySem.W.nsIn
      rw [lpa]
      simp only [List.find?_cons, n2, n1 "spender" "refuse" _ (by decide +kernel), n1 "request" "refuse" _ (by decide +kernel), n1 "deposit" "refuse" _ (by decide +kernel), n1 "release" "refuse" _ (by decide +kernel), n1 "consent" "refuse" _ (by decide +kernel)]
    split at hz
    · rename_i e; cases hz; subst e
      refine ⟨ta6, ?_, sq lt6 (by show 1 ≤ 1000; decide) (.cons v1 .nil)⟩
      unfold PySem.W.nsIn
      rw [lpa]
      simp only [List.find?_cons, n2, n1 "spender" "withdrawn" _ (by decide +kernel), n1 "request" "withdrawn" _ (by decide +kernel), n1 "deposit" "withdrawn" _ (by decide +kernel), n1 "release" "withdrawn" _ (by decide +kernel), n1 "consent" "withdrawn" _ (by decide +kernel), n1 "refuse" "withdrawn" _ (by decide +kernel)]
    · cases hz
/-- what the top has left, def by def -/
theorem all_mk {P : Program} {w : World} {K : PySem.W.Frag} {h : Heap} {mg : Str → Option Value} {fa : Addr} (X : K.In h) (G : h.Ns mainGlobals mg) (hfa : mg "law" = some (.ref fa))
    {fq0 : Addr} {odq0 anq0 : Option Addr} {slq0 : Array (Option Value)} {ocq0 kVq0 dcq0 pmq0 cdq0 ctq0 : Value}
    (aq0 : PySem.W.nsIn K mainGlobals "_law_begun" = some (some (.ref fq0))) (lq0 : K.lookup fq0 = some ⟨ocq0, odq0, .func (PySem.W.fnOf "_law_begun" "_law_begun" (defArgs sBegun) (defBody sBegun) (defScope sBegun) .none kVq0 dcq0 pmq0 anq0 cdq0 ctq0), slq0⟩) (cq0 : PySem.W.codeIn K cdq0 "_law_begun" = true) (kq0 : PySem.W.keepIn K (.ref fq0) = true)
    {fq1 : Addr} {odq1 anq1 : Option Addr} {slq1 : Array (Option Value)} {ocq1 kVq1 dcq1 pmq1 cdq1 ctq1 : Value}
    (aq1 : PySem.W.nsIn K mainGlobals "_law_mixed" = some (some (.ref fq1))) (lq1 : K.lookup fq1 = some ⟨ocq1, odq1, .func (PySem.W.fnOf "_law_mixed" "_law_mixed" (defArgs sMixed) (defBody sMixed) (defScope sMixed) .none kVq1 dcq1 pmq1 anq1 cdq1 ctq1), slq1⟩) (cq1 : PySem.W.codeIn K cdq1 "_law_mixed" = true) (kq1 : PySem.W.keepIn K (.ref fq1) = true)
    {fq2 : Addr} {odq2 anq2 : Option Addr} {slq2 : Array (Option Value)} {ocq2 kVq2 dcq2 pmq2 cdq2 ctq2 : Value}
    (aq2 : PySem.W.nsIn K mainGlobals "_law_take" = some (some (.ref fq2))) (lq2 : K.lookup fq2 = some ⟨ocq2, odq2, .func (PySem.W.fnOf "_law_take" "_law_take" (defArgs sTake) (defBody sTake) (defScope sTake) .none kVq2 dcq2 pmq2 anq2 cdq2 ctq2), slq2⟩) (cq2 : PySem.W.codeIn K cdq2 "_law_take" = true) (kq2 : PySem.W.keepIn K (.ref fq2) = true)
    {fq3 : Addr} {odq3 anq3 : Option Addr} {slq3 : Array (Option Value)} {ocq3 kVq3 dcq3 pmq3 cdq3 ctq3 : Value}
    (aq3 : PySem.W.nsIn K mainGlobals "_law_pick" = some (some (.ref fq3))) (lq3 : K.lookup fq3 = some ⟨ocq3, odq3, .func (PySem.W.fnOf "_law_pick" "_law_pick" (defArgs sPick) (defBody sPick) (defScope sPick) .none kVq3 dcq3 pmq3 anq3 cdq3 ctq3), slq3⟩) (cq3 : PySem.W.codeIn K cdq3 "_law_pick" = true) (kq3 : PySem.W.keepIn K (.ref fq3) = true)
    {fq4 : Addr} {odq4 anq4 : Option Addr} {slq4 : Array (Option Value)} {ocq4 kVq4 dcq4 pmq4 cdq4 ctq4 : Value}
    (aq4 : PySem.W.nsIn K mainGlobals "_law_words" = some (some (.ref fq4))) (lq4 : K.lookup fq4 = some ⟨ocq4, odq4, .func (PySem.W.fnOf "_law_words" "_law_words" (defArgs sWords) (defBody sWords) (defScope sWords) .none kVq4 dcq4 pmq4 anq4 cdq4 ctq4), slq4⟩) (cq4 : PySem.W.codeIn K cdq4 "_law_words" = true) (kq4 : PySem.W.keepIn K (.ref fq4) = true)
    {fq5 : Addr} {odq5 anq5 : Option Addr} {slq5 : Array (Option Value)} {ocq5 kVq5 dcq5 pmq5 cdq5 ctq5 : Value}
    (aq5 : PySem.W.nsIn K mainGlobals "_law_forest" = some (some (.ref fq5))) (lq5 : K.lookup fq5 = some ⟨ocq5, odq5, .func (PySem.W.fnOf "_law_forest" "_law_forest" (defArgs sForest) (defBody sForest) (defScope sForest) .none kVq5 dcq5 pmq5 anq5 cdq5 ctq5), slq5⟩) (cq5 : PySem.W.codeIn K cdq5 "_law_forest" = true) (kq5 : PySem.W.keepIn K (.ref fq5) = true)
    {fq6 : Addr} {odq6 anq6 : Option Addr} {slq6 : Array (Option Value)} {ocq6 kVq6 dcq6 pmq6 cdq6 ctq6 : Value}
    (aq6 : PySem.W.nsIn K mainGlobals "is_int" = some (some (.ref fq6))) (lq6 : K.lookup fq6 = some ⟨ocq6, odq6, .func (PySem.W.fnOf "is_int" "is_int" (defArgs sInt) (defBody sInt) (defScope sInt) .none kVq6 dcq6 pmq6 anq6 cdq6 ctq6), slq6⟩) (cq6 : PySem.W.codeIn K cdq6 "is_int" = true) (kq6 : PySem.W.keepIn K (.ref fq6) = true)
    {fq7 : Addr} {odq7 anq7 : Option Addr} {slq7 : Array (Option Value)} {ocq7 kVq7 dcq7 pmq7 cdq7 ctq7 : Value}
    (aq7 : PySem.W.nsIn K mainGlobals "is_name" = some (some (.ref fq7))) (lq7 : K.lookup fq7 = some ⟨ocq7, odq7, .func (PySem.W.fnOf "is_name" "is_name" (defArgs sName) (defBody sName) (defScope sName) .none kVq7 dcq7 pmq7 anq7 cdq7 ctq7), slq7⟩) (cq7 : PySem.W.codeIn K cdq7 "is_name" = true) (kq7 : PySem.W.keepIn K (.ref fq7) = true)
    {fq8 : Addr} {odq8 anq8 : Option Addr} {slq8 : Array (Option Value)} {ocq8 kVq8 dcq8 pmq8 cdq8 ctq8 : Value}
    (aq8 : PySem.W.nsIn K mainGlobals "is_amount" = some (some (.ref fq8))) (lq8 : K.lookup fq8 = some ⟨ocq8, odq8, .func (PySem.W.fnOf "is_amount" "is_amount" (defArgs sAmount) (defBody sAmount) (defScope sAmount) .none kVq8 dcq8 pmq8 anq8 cdq8 ctq8), slq8⟩) (cq8 : PySem.W.codeIn K cdq8 "is_amount" = true) (kq8 : PySem.W.keepIn K (.ref fq8) = true)
    {fq9 : Addr} {odq9 anq9 : Option Addr} {slq9 : Array (Option Value)} {ocq9 kVq9 dcq9 pmq9 cdq9 ctq9 : Value}
    (aq9 : PySem.W.nsIn K mainGlobals "is_row" = some (some (.ref fq9))) (lq9 : K.lookup fq9 = some ⟨ocq9, odq9, .func (PySem.W.fnOf "is_row" "is_row" (defArgs sRow) (defBody sRow) (defScope sRow) .none kVq9 dcq9 pmq9 anq9 cdq9 ctq9), slq9⟩) (cq9 : PySem.W.codeIn K cdq9 "is_row" = true) (kq9 : PySem.W.keepIn K (.ref fq9) = true)
    {fq10 : Addr} {odq10 anq10 : Option Addr} {slq10 : Array (Option Value)} {ocq10 kVq10 dcq10 pmq10 cdq10 ctq10 : Value}
    (aq10 : PySem.W.nsIn K mainGlobals "first_wrong" = some (some (.ref fq10))) (lq10 : K.lookup fq10 = some ⟨ocq10, odq10, .func (PySem.W.fnOf "first_wrong" "first_wrong" (defArgs sWrong) (defBody sWrong) (defScope sWrong) .none kVq10 dcq10 pmq10 anq10 cdq10 ctq10), slq10⟩) (cq10 : PySem.W.codeIn K cdq10 "first_wrong" = true) (kq10 : PySem.W.keepIn K (.ref fq10) = true)
    {fq11 : Addr} {odq11 anq11 : Option Addr} {slq11 : Array (Option Value)} {ocq11 kVq11 dcq11 pmq11 cdq11 ctq11 : Value}
    (aq11 : PySem.W.nsIn K mainGlobals "law" = some (some (.ref fq11))) (lq11 : K.lookup fq11 = some ⟨ocq11, odq11, .func (PySem.W.fnOf "law" "law" (defArgs sLaw) (defBody sLaw) (defScope sLaw) .none kVq11 dcq11 pmq11 anq11 cdq11 ctq11), slq11⟩) (cq11 : PySem.W.codeIn K cdq11 "law" = true) (kq11 : PySem.W.keepIn K (.ref fq11) = true)
    {fq12 : Addr} {odq12 anq12 : Option Addr} {slq12 : Array (Option Value)} {ocq12 kVq12 dcq12 pmq12 cdq12 ctq12 : Value}
    (aq12 : PySem.W.nsIn K mainGlobals "is_place" = some (some (.ref fq12))) (lq12 : K.lookup fq12 = some ⟨ocq12, odq12, .func (PySem.W.fnOf "is_place" "is_place" (defArgs sIsPlace) (defBody sIsPlace) (defScope sIsPlace) .none kVq12 dcq12 pmq12 anq12 cdq12 ctq12), slq12⟩) (cq12 : PySem.W.codeIn K cdq12 "is_place" = true) (kq12 : PySem.W.keepIn K (.ref fq12) = true)
    {fq13 : Addr} {odq13 anq13 : Option Addr} {slq13 : Array (Option Value)} {ocq13 kVq13 dcq13 pmq13 cdq13 ctq13 : Value}
    (aq13 : PySem.W.nsIn K mainGlobals "is_part" = some (some (.ref fq13))) (lq13 : K.lookup fq13 = some ⟨ocq13, odq13, .func (PySem.W.fnOf "is_part" "is_part" (defArgs sIsPart) (defBody sIsPart) (defScope sIsPart) .none kVq13 dcq13 pmq13 anq13 cdq13 ctq13), slq13⟩) (cq13 : PySem.W.codeIn K cdq13 "is_part" = true) (kq13 : PySem.W.keepIn K (.ref fq13) = true)
    {fq14 : Addr} {odq14 anq14 : Option Addr} {slq14 : Array (Option Value)} {ocq14 kVq14 dcq14 pmq14 cdq14 ctq14 : Value}
    (aq14 : PySem.W.nsIn K mainGlobals "is_fact" = some (some (.ref fq14))) (lq14 : K.lookup fq14 = some ⟨ocq14, odq14, .func (PySem.W.fnOf "is_fact" "is_fact" (defArgs sIsFact) (defBody sIsFact) (defScope sIsFact) .none kVq14 dcq14 pmq14 anq14 cdq14 ctq14), slq14⟩) (cq14 : PySem.W.codeIn K cdq14 "is_fact" = true) (kq14 : PySem.W.keepIn K (.ref fq14) = true)
    {fq15 : Addr} {odq15 anq15 : Option Addr} {slq15 : Array (Option Value)} {ocq15 kVq15 dcq15 pmq15 cdq15 ctq15 : Value}
    (aq15 : PySem.W.nsIn K mainGlobals "fact_text" = some (some (.ref fq15))) (lq15 : K.lookup fq15 = some ⟨ocq15, odq15, .func (PySem.W.fnOf "fact_text" "fact_text" (defArgs sFactText) (defBody sFactText) (defScope sFactText) .none kVq15 dcq15 pmq15 anq15 cdq15 ctq15), slq15⟩) (cq15 : PySem.W.codeIn K cdq15 "fact_text" = true) (kq15 : PySem.W.keepIn K (.ref fq15) = true)
    {fq16 : Addr} {odq16 anq16 : Option Addr} {slq16 : Array (Option Value)} {ocq16 kVq16 dcq16 pmq16 cdq16 ctq16 : Value}
    (aq16 : PySem.W.nsIn K mainGlobals "is_number" = some (some (.ref fq16))) (lq16 : K.lookup fq16 = some ⟨ocq16, odq16, .func (PySem.W.fnOf "is_number" "is_number" (defArgs sIsNumber) (defBody sIsNumber) (defScope sIsNumber) .none kVq16 dcq16 pmq16 anq16 cdq16 ctq16), slq16⟩) (cq16 : PySem.W.codeIn K cdq16 "is_number" = true) (kq16 : PySem.W.keepIn K (.ref fq16) = true)
    {fq17 : Addr} {odq17 anq17 : Option Addr} {slq17 : Array (Option Value)} {ocq17 kVq17 dcq17 pmq17 cdq17 ctq17 : Value}
    (aq17 : PySem.W.nsIn K mainGlobals "parse_fact" = some (some (.ref fq17))) (lq17 : K.lookup fq17 = some ⟨ocq17, odq17, .func (PySem.W.fnOf "parse_fact" "parse_fact" (defArgs sParseFact) (defBody sParseFact) (defScope sParseFact) .none kVq17 dcq17 pmq17 anq17 cdq17 ctq17), slq17⟩) (cq17 : PySem.W.codeIn K cdq17 "parse_fact" = true) (kq17 : PySem.W.keepIn K (.ref fq17) = true)
    {fq18 : Addr} {odq18 anq18 : Option Addr} {slq18 : Array (Option Value)} {ocq18 kVq18 dcq18 pmq18 cdq18 ctq18 : Value}
    (aq18 : PySem.W.nsIn K mainGlobals "_law_fact" = some (some (.ref fq18))) (lq18 : K.lookup fq18 = some ⟨ocq18, odq18, .func (PySem.W.fnOf "_law_fact" "_law_fact" (defArgs sLFact) (defBody sLFact) (defScope sLFact) .none kVq18 dcq18 pmq18 anq18 cdq18 ctq18), slq18⟩) (cq18 : PySem.W.codeIn K cdq18 "_law_fact" = true) (kq18 : PySem.W.keepIn K (.ref fq18) = true)
    {fq19 : Addr} {odq19 anq19 : Option Addr} {slq19 : Array (Option Value)} {ocq19 kVq19 dcq19 pmq19 cdq19 ctq19 : Value}
    (aq19 : PySem.W.nsIn K mainGlobals "_law_is_number" = some (some (.ref fq19))) (lq19 : K.lookup fq19 = some ⟨ocq19, odq19, .func (PySem.W.fnOf "_law_is_number" "_law_is_number" (defArgs sLIsNumber) (defBody sLIsNumber) (defScope sLIsNumber) .none kVq19 dcq19 pmq19 anq19 cdq19 ctq19), slq19⟩) (cq19 : PySem.W.codeIn K cdq19 "_law_is_number" = true) (kq19 : PySem.W.keepIn K (.ref fq19) = true)
    {fq20 : Addr} {odq20 anq20 : Option Addr} {slq20 : Array (Option Value)} {ocq20 kVq20 dcq20 pmq20 cdq20 ctq20 : Value}
    (aq20 : PySem.W.nsIn K mainGlobals "_law_is_fact" = some (some (.ref fq20))) (lq20 : K.lookup fq20 = some ⟨ocq20, odq20, .func (PySem.W.fnOf "_law_is_fact" "_law_is_fact" (defArgs sLIsFact) (defBody sLIsFact) (defScope sLIsFact) .none kVq20 dcq20 pmq20 anq20 cdq20 ctq20), slq20⟩) (cq20 : PySem.W.codeIn K cdq20 "_law_is_fact" = true) (kq20 : PySem.W.keepIn K (.ref fq20) = true)
    {fq21 : Addr} {odq21 anq21 : Option Addr} {slq21 : Array (Option Value)} {ocq21 kVq21 dcq21 pmq21 cdq21 ctq21 : Value}
    (aq21 : PySem.W.nsIn K mainGlobals "_law_numbered" = some (some (.ref fq21))) (lq21 : K.lookup fq21 = some ⟨ocq21, odq21, .func (PySem.W.fnOf "_law_numbered" "_law_numbered" (defArgs sLNumbered) (defBody sLNumbered) (defScope sLNumbered) .none kVq21 dcq21 pmq21 anq21 cdq21 ctq21), slq21⟩) (cq21 : PySem.W.codeIn K cdq21 "_law_numbered" = true) (kq21 : PySem.W.keepIn K (.ref fq21) = true)
    {fq22 : Addr} {odq22 anq22 : Option Addr} {slq22 : Array (Option Value)} {ocq22 kVq22 dcq22 pmq22 cdq22 ctq22 : Value}
    (aq22 : PySem.W.nsIn K mainGlobals "_law_read" = some (some (.ref fq22))) (lq22 : K.lookup fq22 = some ⟨ocq22, odq22, .func (PySem.W.fnOf "_law_read" "_law_read" (defArgs sLRead) (defBody sLRead) (defScope sLRead) .none kVq22 dcq22 pmq22 anq22 cdq22 ctq22), slq22⟩) (cq22 : PySem.W.codeIn K cdq22 "_law_read" = true) (kq22 : PySem.W.keepIn K (.ref fq22) = true)
    {fq23 : Addr} {odq23 anq23 : Option Addr} {slq23 : Array (Option Value)} {ocq23 kVq23 dcq23 pmq23 cdq23 ctq23 : Value}
    (aq23 : PySem.W.nsIn K mainGlobals "_law_changed" = some (some (.ref fq23))) (lq23 : K.lookup fq23 = some ⟨ocq23, odq23, .func (PySem.W.fnOf "_law_changed" "_law_changed" (defArgs sLChanged) (defBody sLChanged) (defScope sLChanged) .none kVq23 dcq23 pmq23 anq23 cdq23 ctq23), slq23⟩) (cq23 : PySem.W.codeIn K cdq23 "_law_changed" = true) (kq23 : PySem.W.keepIn K (.ref fq23) = true)
    {fq24 : Addr} {odq24 anq24 : Option Addr} {slq24 : Array (Option Value)} {ocq24 kVq24 dcq24 pmq24 cdq24 ctq24 : Value}
    (aq24 : PySem.W.nsIn K mainGlobals "_law_told" = some (some (.ref fq24))) (lq24 : K.lookup fq24 = some ⟨ocq24, odq24, .func (PySem.W.fnOf "_law_told" "_law_told" (defArgs sLTold) (defBody sLTold) (defScope sLTold) .none kVq24 dcq24 pmq24 anq24 cdq24 ctq24), slq24⟩) (cq24 : PySem.W.codeIn K cdq24 "_law_told" = true) (kq24 : PySem.W.keepIn K (.ref fq24) = true)
    {C : Addr} (aC : PySem.W.nsIn K mainGlobals "Forest" = some (some (.ref C)))
    {fI : Addr} {odI anI : Option Addr} {slI : Array (Option Value)} {ocI kVI dcI pmI cdI ctI : Value}
    (aI : PySem.W.findIn K (.ref C) "__init__" = some (some (.ref fI))) (iI : PySem.W.isFn K (.ref fI) = true)
    (lI : K.lookup fI = some ⟨ocI, odI, .func (PySem.W.fnOf "__init__" "Forest.__init__" (defArgs sInit) (defBody sInit) (defScope sInit) .none kVI dcI pmI anI cdI ctI), slI⟩) (cI : PySem.W.codeIn K cdI "Forest.__init__" = true) (kI : PySem.W.keepIn K (.ref fI) = true)
    {fS : Addr} {odS anS : Option Addr} {slS : Array (Option Value)} {ocS kVS dcS pmS cdS ctS : Value}
    {pS : Addr} {rrS : List Value} (aS : PySem.W.findIn K (.ref C) "names" = some (some (.ref pS))) (gS : PySem.W.specialIn K (.ref pS) "__get__" = some (some (.builtin "property.__get__"))) (tS : PySem.W.takesIn K (.ref pS) = some true) (rS : PySem.W.recIn K pS "property" = some (.ref fS :: rrS))
    (lS : K.lookup fS = some ⟨ocS, odS, .func (PySem.W.fnOf "names" "Forest.names" (defArgs sNames) (defBody sNames) (defScope sNames) .none kVS dcS pmS anS cdS ctS), slS⟩) (cS : PySem.W.codeIn K cdS "Forest.names" = true) (kS : PySem.W.keepIn K (.ref fS) = true)
    {tM : Tok}
    (pg : PySem.W.plainGet K C Str.empty = true)
    (hd : PySem.W.hasDictIn K C = true)
    (po : PySem.W.plainOver K C = true)
    (sa : PySem.W.findIn K (.ref C) "__setattr__" = some (some (.builtin "object.__setattr__")))
    (mk : PySem.W.makesIn K C = true)
    (kc : PySem.W.keepIn K (.ref C) = true)
    (nP : PySem.W.findIn K (.ref C) "_parents" = some none)
    (rd : PySem.W.readsIn K C (.type "type") = true)
    (ga : PySem.W.specialIn K (.ref C) "__getattribute__" = some (some (.builtin "type.__getattribute__")))
    (mo : PySem.W.findCls K (.ref C) (.type "type") "MOST" = some (.val (.int 8 tM)))
    (ha : PySem.W.findIn K (.ref C) "__class__" = some (some (.builtin "object.__class__")))
    (hn : PySem.W.specialIn K (.builtin "object.__class__") "__get__" = some (some (.builtin "getset_descriptor.__get__")))
    (ht : PySem.W.takesIn K (.builtin "object.__class__") = some true)
    (hm : PySem.W.mroIn K C (.type "object") = some true)
    {tk0 : Tok} (kg0 : PySem.W.nsIn K mainGlobals "LETTERS" = some (some (.str letters tk0)))
    {tk1 : Tok} (kg1 : PySem.W.nsIn K mainGlobals "LONGEST" = some (some (.int 8 tk1)))
    {tk2 : Tok} (kg2 : PySem.W.nsIn K mainGlobals "LARGEST" = some (some (.int 1000000000 tk2)))
    {tk3 : Tok} (kg3 : PySem.W.nsIn K mainGlobals "LAST_PLACE" = some (some (.int 20 tk3)))
    {tk4 : Tok} (kg4 : PySem.W.nsIn K mainGlobals "LAST_MARK" = some (some (.int 999 tk4)))
    {tk5 : Tok} (kg5 : PySem.W.nsIn K mainGlobals "MOST_DIGITS" = some (some (.int 10 tk5)))
    {tk6 : Tok} (kg6 : PySem.W.nsIn K mainGlobals "DIGITS" = some (some (.str digits tk6)))
    (z0 : PySem.W.nsIn K mainGlobals "isinstance" = some none)
    (z1 : PySem.W.nsIn K mainGlobals "str" = some none)
    (z2 : PySem.W.nsIn K mainGlobals "int" = some none)
    (z3 : PySem.W.nsIn K mainGlobals "bool" = some none)
    (z4 : PySem.W.nsIn K mainGlobals "list" = some none)
    (z5 : PySem.W.nsIn K mainGlobals "tuple" = some none)
    (z6 : PySem.W.nsIn K mainGlobals "dict" = some none)
    (z7 : PySem.W.nsIn K mainGlobals "len" = some none)
    (z8 : PySem.W.nsIn K mainGlobals "all" = some none)
    (z9 : PySem.W.nsIn K mainGlobals "enumerate" = some none)
    (z10 : PySem.W.nsIn K mainGlobals "range" = some none)
    (z11 : PySem.W.nsIn K mainGlobals "min" = some none)
    (z12 : PySem.W.nsIn K mainGlobals "zip" = some none)
    (z13 : PySem.W.nsIn K mainGlobals "repr" = some none)
    (z14 : PySem.W.nsIn K mainGlobals "ValueError" = some none)
    {dp da : Addr} {nD nA : Nat} {hk0 : Int} {tk_0 : Tok} {ta0 : Addr} {nt0 : Nat} {hk1 : Int} {tk_1 : Tok} {ta1 : Addr} {nt1 : Nat} {hk2 : Int} {tk_2 : Tok} {ta2 : Addr} {nt2 : Nat} {hk3 : Int} {tk_3 : Tok} {ta3 : Addr} {nt3 : Nat} {hk4 : Int} {tk_4 : Tok} {ta4 : Addr} {nt4 : Nat} {hk5 : Int} {tk_5 : Tok} {ta5 : Addr} {nt5 : Nat} {hk6 : Int} {tk_6 : Tok} {ta6 : Addr} {nt6 : Nat} {us0 : Tok} {us1 : Tok} {us2 : Tok} {us3 : Tok} {us4 : Tok} {us5 : Tok} {us6 : Tok} {us7 : Tok} {us8 : Tok} {us9 : Tok} {us10 : Tok} {us11 : Tok} {us12 : Tok} {us13 : Tok} {us14 : Tok} {us15 : Tok} {us16 : Tok} {us17 : Tok}
    {nm q : Str} {N : Addr} {bs bmT : List Value} {sn : List Str} {sub : List Value} {ab : Bool} {col : Option Bool} {dd : Option Addr} {k0 k1 k2 k3 k5 : Option Value} {CT CP : Addr} {fTI : Addr} {odTI anTI : Option Addr} {slTI : Array (Option Value)} {ocTI kVTI dcTI pmTI cdTI ctTI : Value}
    (gpa : PySem.W.nsIn K mainGlobals "PARTS" = some (some (.ref dp))) (gan : PySem.W.nsIn K mainGlobals "ANSWERS" = some (some (.ref da)))
    (lpa : K.lookup dp = some ⟨.type "dict", none, .dict #[⟨hk0, .str "spender" tk_0, .ref ta0⟩, ⟨hk1, .str "request" tk_1, .ref ta1⟩, ⟨hk2, .str "deposit" tk_2, .ref ta2⟩, ⟨hk3, .str "release" tk_3, .ref ta3⟩, ⟨hk4, .str "consent" tk_4, .ref ta4⟩, ⟨hk5, .str "refuse" tk_5, .ref ta5⟩, ⟨hk6, .str "withdrawn" tk_6, .ref ta6⟩] nD, #[]⟩) (low : (dp == sysModules) = false) (hkl : PySem.W.KeysLit w.params (#[⟨hk0, .str "spender" tk_0, .ref ta0⟩, ⟨hk1, .str "request" tk_1, .ref ta1⟩, ⟨hk2, .str "deposit" tk_2, .ref ta2⟩, ⟨hk3, .str "release" tk_3, .ref ta3⟩, ⟨hk4, .str "consent" tk_4, .ref ta4⟩, ⟨hk5, .str "refuse" tk_5, .ref ta5⟩, ⟨hk6, .str "withdrawn" tk_6, .ref ta6⟩] : Array DictEntry).toList)
    (lt0 : K.lookup ta0 = some ⟨.type "tuple", none, .seq #[.str "place" us0, .str "account" us1, .str "amount" us2] nt0, #[]⟩)
    (lt1 : K.lookup ta1 = some ⟨.type "tuple", none, .seq #[.str "place" us3, .str "account" us4, .str "amount" us5] nt1, #[]⟩)
    (lt2 : K.lookup ta2 = some ⟨.type "tuple", none, .seq #[.str "mark" us6, .str "account" us7, .str "amount" us8] nt2, #[]⟩)
    (lt3 : K.lookup ta3 = some ⟨.type "tuple", none, .seq #[.str "place" us9, .str "amount" us10] nt3, #[]⟩)
    (lt4 : K.lookup ta4 = some ⟨.type "tuple", none, .seq #[.str "place" us11, .str "place" us12] nt4, #[]⟩)
    (lt5 : K.lookup ta5 = some ⟨.type "tuple", none, .seq #[.str "place" us13, .str "place" us14] nt5, #[]⟩)
    (lt6 : K.lookup ta6 = some ⟨.type "tuple", none, .seq #[.str "place" us15] nt6, #[]⟩)
    (lan : K.lookup da = some ⟨.type "tuple", none, .seq #[.str "consent" us16, .str "refuse" us17] nA, #[]⟩)
    (CT_a : PySem.W.nsIn K mainGlobals "InvalidText" = some (some (.ref CT)))
    (CP_a : PySem.W.nsIn K mainGlobals "PurseError" = some (some (.ref CP)))
    (gT0 : PySem.W.findIn K (.ref CT) "__getattribute__" = some (some (.builtin "BaseException.__getattribute__")))
    (hT0 : PySem.W.findIn K (.ref CT) "__getattr__" = some none)
    (sT : PySem.W.subIn K (.ref CT) (.type "BaseException") = some true)
    (dT : PySem.W.hasDictIn K CT = true)
    (xT : PySem.W.findIn K (.ref CT) "__class__" = some (some (.builtin "object.__class__")))
    (yT : PySem.W.mroIn K CT (.type "object") = some true)
    (qT : PySem.W.keepIn K (.ref CT) = true)
    (uT : PySem.W.typeIn K (.ref CT) = some (.type "type"))
    (sP : PySem.W.subIn K (.ref CP) (.type "BaseException") = some true)
    (dP : PySem.W.hasDictIn K CP = true)
    (uP : PySem.W.typeIn K (.ref CP) = some (.type "type"))
    (sTP : PySem.W.subIn K (.ref CT) (.ref CP) = some true)
    (sVT : PySem.W.subIn K (.ref CT) (.type "ValueError") = some true)
    (lCT : K.lookup CT = some (excClassObj nm q CT N bs bmT true sn sub ab col dd k0 k1 k2 k3 k5 "ValueError.__new__"))
    (rbT : PySem.HandSPX.refsVE bmT = true)
    (saT : PySem.W.findIn K (.ref CT) "__setattr__" = some (some (.builtin "object.__setattr__")))
    (nT_ : PySem.W.findIn K (.ref CT) "line" = some none)
    (aTI : PySem.W.findIn K (.ref CT) "__init__" = some (some (.ref fTI)))
    (tTI : PySem.W.typeIn K (.ref fTI) = some (.type "function"))
    (lTI : K.lookup fTI = some ⟨ocTI, odTI, .func (PySem.W.fnOf "__init__" "InvalidText.__init__" (defArgs sTI) (defBody sTI) (defScope sTI) .none kVTI dcTI pmTI anTI cdTI ctTI), slTI⟩)
    (cTI : PySem.W.codeIn K cdTI "InvalidText.__init__" = true)
    (kTI : PySem.W.keepIn K (.ref fTI) = true)
    : ∃ fd : FuncData, Fun K "law" "law" sLaw fa fd ∧ (∀ (s : Shared) (u : Value), BindsTo s fd ⟨[u], []⟩ [("_law_script", u)]) ∧
      ∀ (base : Heap) (A : Around) (s : Shared) (H : Hp) (cdv : Value) (a : Addr) (ns : List Int), ns.length ≤ 63 → Bed K mg base A → Room 6 (A.deeper (envOfC "law" (defScope sLaw) s.heap.objs.size fa cdv)) → SqL K H a (ns.map V.int) →
        ∃ t, PSs (cxOf CX0 P w K mg base nLaw "law" (defScope sLaw) fa cdv A [] s H E0).nox (defBody sLaw) t ∧ t { nx := fun _ _ => False, rt := fun v _ => v = .bl true } (L2.start nLaw [.ref a]) H := by
  have e := hfa.symm.trans (PySem.W.mg_of X G aq11)
  cases e
  have Fq0 := fun_mk (st := sBegun) lq0 cq0 kq0
  have mq0 := PySem.W.mg_of X G aq0
  have bq0 := Fq0.binds (ps := ["_law_script"]) fun _ _ _ _ _ _ us hl => match us, hl with | [_], _ => rfl
  have Fq1 := fun_mk (st := sMixed) lq1 cq1 kq1
  have mq1 := PySem.W.mg_of X G aq1
  have bq1 := Fq1.binds (ps := ["_law_state"]) fun _ _ _ _ _ _ us hl => match us, hl with | [_], _ => rfl
  have Fq2 := fun_mk (st := sTake) lq2 cq2 kq2
  have mq2 := PySem.W.mg_of X G aq2
  have bq2 := Fq2.binds (ps := ["_law_state", "_law_size"]) fun _ _ _ _ _ _ us hl => match us, hl with | [_, _], _ => rfl
  have Fq3 := fun_mk (st := sPick) lq3 cq3 kq3
  have mq3 := PySem.W.mg_of X G aq3
  have bq3 := Fq3.binds (ps := ["_law_state", "_law_some"]) fun _ _ _ _ _ _ us hl => match us, hl with | [_, _], _ => rfl
  have Fq4 := fun_mk (st := sWords) lq4 cq4 kq4
  have mq4 := PySem.W.mg_of X G aq4
  have bq4 := Fq4.binds (ps := ["_law_state", "_law_size"]) fun _ _ _ _ _ _ us hl => match us, hl with | [_, _], _ => rfl
  have Fq5 := fun_mk (st := sForest) lq5 cq5 kq5
  have mq5 := PySem.W.mg_of X G aq5
  have bq5 := Fq5.binds (ps := ["_law_state", "_law_most"]) fun _ _ _ _ _ _ us hl => match us, hl with | [_, _], _ => rfl
  have Fq6 := fun_mk (st := sInt) lq6 cq6 kq6
  have mq6 := PySem.W.mg_of X G aq6
  have bq6 := Fq6.binds (ps := ["value"]) fun _ _ _ _ _ _ us hl => match us, hl with | [_], _ => rfl
  have Fq7 := fun_mk (st := sName) lq7 cq7 kq7
  have mq7 := PySem.W.mg_of X G aq7
  have bq7 := Fq7.binds (ps := ["value"]) fun _ _ _ _ _ _ us hl => match us, hl with | [_], _ => rfl
  have Fq8 := fun_mk (st := sAmount) lq8 cq8 kq8
  have mq8 := PySem.W.mg_of X G aq8
  have bq8 := Fq8.binds (ps := ["value"]) fun _ _ _ _ _ _ us hl => match us, hl with | [_], _ => rfl
  have Fq9 := fun_mk (st := sRow) lq9 cq9 kq9
  have mq9 := PySem.W.mg_of X G aq9
  have bq9 := Fq9.binds (ps := ["value", "earlier"]) fun _ _ _ _ _ _ us hl => match us, hl with | [_, _], _ => rfl
  have Fq10 := fun_mk (st := sWrong) lq10 cq10 kq10
  have mq10 := PySem.W.mg_of X G aq10
  have bq10 := Fq10.binds (ps := ["rows"]) fun _ _ _ _ _ _ us hl => match us, hl with | [_], _ => rfl
  have Fq11 := fun_mk (st := sLaw) lq11 cq11 kq11
  have mq11 := PySem.W.mg_of X G aq11
  have bq11 := Fq11.binds (ps := ["_law_script"]) fun _ _ _ _ _ _ us hl => match us, hl with | [_], _ => rfl
  have Fq12 := fun_mk (st := sIsPlace) lq12 cq12 kq12
  have mq12 := PySem.W.mg_of X G aq12
  have bq12 := Fq12.binds (ps := ["value"]) fun _ _ _ _ _ _ us hl => match us, hl with | [_], _ => rfl
  have Fq13 := fun_mk (st := sIsPart) lq13 cq13 kq13
  have mq13 := PySem.W.mg_of X G aq13
  have bq13 := Fq13.binds (ps := ["part", "value", "forest"]) fun _ _ _ _ _ _ us hl => match us, hl with | [_, _, _], _ => rfl
  have Fq14 := fun_mk (st := sIsFact) lq14 cq14 kq14
  have mq14 := PySem.W.mg_of X G aq14
  have bq14 := Fq14.binds (ps := ["value", "forest"]) fun _ _ _ _ _ _ us hl => match us, hl with | [_, _], _ => rfl
  have Fq15 := fun_mk (st := sFactText) lq15 cq15 kq15
  have mq15 := PySem.W.mg_of X G aq15
  have bq15 := Fq15.binds (ps := ["fact"]) fun _ _ _ _ _ _ us hl => match us, hl with | [_], _ => rfl
  have Fq16 := fun_mk (st := sIsNumber) lq16 cq16 kq16
  have mq16 := PySem.W.mg_of X G aq16
  have bq16 := Fq16.binds (ps := ["word", "most"]) fun _ _ _ _ _ _ us hl => match us, hl with | [_, _], _ => rfl
  have Fq17 := fun_mk (st := sParseFact) lq17 cq17 kq17
  have mq17 := PySem.W.mg_of X G aq17
  have bq17 := Fq17.binds (ps := ["text", "forest"]) fun _ _ _ _ _ _ us hl => match us, hl with | [_, _], _ => rfl
  have Fq18 := fun_mk (st := sLFact) lq18 cq18 kq18
  have mq18 := PySem.W.mg_of X G aq18
  have bq18 := Fq18.binds (ps := ["_law_state", "_law_names", "_law_places", "_law_marks"]) fun _ _ _ _ _ _ us hl => match us, hl with | [_, _, _, _], _ => rfl
  have Fq19 := fun_mk (st := sLIsNumber) lq19 cq19 kq19
  have mq19 := PySem.W.mg_of X G aq19
  have bq19 := Fq19.binds (ps := ["_law_thing", "_law_most"]) fun _ _ _ _ _ _ us hl => match us, hl with | [_, _], _ => rfl
  have Fq20 := fun_mk (st := sLIsFact) lq20 cq20 kq20
  have mq20 := PySem.W.mg_of X G aq20
  have bq20 := Fq20.binds (ps := ["_law_names", "_law_thing"]) fun _ _ _ _ _ _ us hl => match us, hl with | [_, _], _ => rfl
  have Fq21 := fun_mk (st := sLNumbered) lq21 cq21 kq21
  have mq21 := PySem.W.mg_of X G aq21
  have bq21 := Fq21.binds (ps := ["_law_word"]) fun _ _ _ _ _ _ us hl => match us, hl with | [_], _ => rfl
  have Fq22 := fun_mk (st := sLRead) lq22 cq22 kq22
  have mq22 := PySem.W.mg_of X G aq22
  have bq22 := Fq22.binds (ps := ["_law_names", "_law_line"]) fun _ _ _ _ _ _ us hl => match us, hl with | [_, _], _ => rfl
  have Fq23 := fun_mk (st := sLChanged) lq23 cq23 kq23
  have mq23 := PySem.W.mg_of X G aq23
  have bq23 := Fq23.binds (ps := ["_law_state", "_law_line"]) fun _ _ _ _ _ _ us hl => match us, hl with | [_, _], _ => rfl
  have Fq24 := fun_mk (st := sLTold) lq24 cq24 kq24
  have mq24 := PySem.W.mg_of X G aq24
  have bq24 := Fq24.binds (ps := ["_law_woods", "_law_line"]) fun _ _ _ _ _ _ us hl => match us, hl with | [_, _], _ => rfl
  have FI := fun_mk (st := sInit) lI cI kI
  have bI := FI.binds (ps := ["self", "rows"]) fun _ _ _ _ _ _ us hl => match us, hl with | [_, _], _ => rfl
  have FS := fun_mk (st := sNames) lS cS kS
  have bS := FS.binds (ps := ["self"]) fun _ _ _ _ _ _ us hl => match us, hl with | [_], _ => rfl
  have Z0 : FC K mg C fI (.type "type") := ⟨⟨pg, hd, po, sa⟩, ⟨mk, aI, iI, kc⟩, nP, ⟨rd, ga⟩, ⟨_, mo, ⟨_, rfl⟩⟩, ha, hn, ht, hm, kit_self, PySem.W.mg_of X G aC⟩
  have T : Names mg := ⟨(PySem.W.mg_none_of X G z0), (PySem.W.mg_none_of X G z1), (PySem.W.mg_none_of X G z2), (PySem.W.mg_none_of X G z3), (PySem.W.mg_none_of X G z4), (PySem.W.mg_none_of X G z5), (PySem.W.mg_none_of X G z6), (PySem.W.mg_none_of X G z7), (PySem.W.mg_none_of X G z8), (PySem.W.mg_none_of X G z9), (PySem.W.mg_none_of X G z10), (PySem.W.mg_none_of X G z11), (PySem.W.mg_none_of X G z12), (PySem.W.mg_none_of X G z13), ⟨_, PySem.W.mg_of X G kg0⟩, ⟨_, PySem.W.mg_of X G kg1⟩, ⟨_, PySem.W.mg_of X G kg2⟩⟩
  refine ⟨_, Fq11, fun s v => .of_eq rfl, fun base A s H cdv a ns hl B hr hS => ?_⟩
  have GM : FnOk P w K mg base CX0 1 _ _ ["_law_state"] (spMixed ns) := ok_mixed ns Fq1
  have GT : FnOk P w K mg base CX0 2 _ _ ["_law_state", "_law_size"] (spTake ns) := ok_take ns Fq2 GM bq1 kq1 mq1
  have GP : FnOk P w K mg base CX0 3 _ _ ["_law_state", "_law_some"] (spPick K ns) := ok_pick ns Fq3 GT bq2 kq2 mq2 T.len
  have R : Draw P w K mg base ns fq2 fq3 _ _ := ⟨GT, bq2, kq2, mq2, GP, bq3, kq3, mq3, T.len, T.range⟩
  have GW := ok_words (P := P) (w := w) (base := base) ns Fq4 R
  have GF := ok_forest (P := P) (w := w) (base := base) ns Fq5 R GW bq4 kq4 mq4
  have GN : FnOk P w K mg base CX0 1 _ _ ["value"] spName := ok_name Fq7 T
  have GO := ok_row (P := P) (w := w) (base := base) Fq9 T GN bq7 kq7 mq7
  have GX := ok_wrong (P := P) (w := w) (base := base) Fq10 T GO bq9 kq9 mq9
  have GI := ok_init (P := P) (w := w) (base := base) FI T Z0 GX bq10 kq10 mq10
  have GS := ok_names (P := P) (w := w) (base := base) FS T Z0
  have hS' : PropOf K C "names" pS fS := ⟨aS, gS, tS, ⟨_, rS⟩⟩
  have Z : Fo3 P w K mg base C fI pS fS (.type "type") _ := ⟨Z0, hS', GS, bS⟩
  have PT : Parts K w mg dp da _ _ := parts_mk (PySem.W.mg_of X G gpa) (PySem.W.mg_of X G gan) lpa low hkl lt0 lt1 lt2 lt3 lt4 lt5 lt6 lan
  have GJ := ok_int (P := P) (w := w) (base := base) Fq6 T
  have GQ := ok_amount (P := P) (w := w) (base := base) Fq8 T GJ bq6 kq6 mq6
  have FTI := fun_mk (st := sTI) lTI cTI kTI
  have bTI := FTI.binds (ps := ["self", "line"]) fun _ _ _ _ _ _ us hl => match us, hl with | [_, _], _ => rfl
  have kvT : PySem.W.kitOne K (.ref CT) (.type "ValueError") = some true := by
    show (if ((Value.ref CT) == (Value.type "ValueError")) = true then some true else (if PySem.W.kitMeta "ValueError" = true then PySem.W.subIn K (.ref CT) (.type "ValueError") else none)) = some true
    rw [if_neg (show ¬ ((Value.ref CT) == (Value.type "ValueError")) = true from Bool.false_ne_true), if_pos (by decide +kernel)]
    exact sVT
  have Y : XT K mg CT CP fTI := ⟨⟨⟨_, _, _, _, _, _, _, _, _, _, _, _, _, _, _, lCT, rbT⟩, saT, sT, uT, qT⟩, PySem.W.mg_of X G CT_a, aTI, tTI, nT_, ⟨gT0, hT0, sT, dT, xT, hn, ht, yT⟩, ⟨gT0, hT0, sT, dT⟩, PySem.W.mg_of X G CP_a, PySem.W.exm_ref sP dP uP sTP, kit_self, kvT, (PySem.W.mg_none_of X G z14)⟩
  have GTI := ok_ti (P := P) (w := w) (base := base) FTI Y
  have GPl := ok_place (P := P) (w := w) (base := base) Fq12 T ⟨_, PySem.W.mg_of X G kg3⟩ GJ bq6 kq6 mq6
  have GPa := ok_part (P := P) (w := w) (base := base) Fq13 T Z ⟨_, PySem.W.mg_of X G kg4⟩ GJ bq6 kq6 mq6 GQ bq8 kq8 mq8 GPl bq12 kq12 mq12
  have GIf := ok_isFact (P := P) (w := w) (base := base) Fq14 T PT GPa bq13 kq13 mq13
  have GFt := ok_ftext (P := P) (w := w) (base := base) Fq15 T
  have GIn := ok_isNumb (P := P) (w := w) (base := base) Fq16 T ⟨_, PySem.W.mg_of X G kg6⟩
  have GPf := ok_parseF (P := P) (w := w) (base := base) Fq17 T Y ⟨_, PySem.W.mg_of X G kg5⟩ GIn bq16 kq16 mq16 GIf bq14 kq14 mq14 GTI bTI
  have GLf := ok_lfact (P := P) (w := w) (base := base) ns Fq18 R
  have GNu := ok_lnum (P := P) (w := w) (base := base) Fq19 T
  have GLi := ok_lfa (P := P) (w := w) (base := base) Fq20 T GNu bq19 kq19 mq19
  have GNd := ok_lnumd (P := P) (w := w) (base := base) Fq21 T
  have GLr := ok_lread (P := P) (w := w) (base := base) Fq22 T GNd bq21 kq21 mq21 GLi bq20 kq20 mq20
  have GCh := ok_lch (P := P) (w := w) (base := base) ns Fq23 T R
  have GTd := ok_ltold (P := P) (w := w) (base := base) Fq24 T Y GPf bq17 kq17 mq17
  exact ok_law (CT := CT) hl B hr hS R T Z0 GI bI (ok_begun ns Fq0 T.list) bq0 kq0 mq0 GF bq5 kq5 mq5 GLf bq18 kq18 mq18 GCh bq23 kq23 mq23 GLr bq22 kq22 mq22 GTd bq24 kq24 mq24 GFt bq15 (kb_one fun s u1 => .of_eq rfl) kq15 mq15 GPf bq17 (kb_swap fun s u1 u2 => .of_eq rfl) kq17 mq17
end Lw
open PySem PySem.W PyProof.Rows
set_option maxRecDepth 100000 in
set_option maxHeartbeats 0 in
theorem PySem.Challenge.cw_hearpurse_k22_texts_of_facts_holds : PySem.Challenge.rw_hearpurse_k22_texts_of_facts.Holds := by
  w_on; o_law; k_head; (case hw => w_witness2)
  k_fill
  refine Ge.walk_law (l := PySem.Challenge.rw_hearpurse_k22_texts_of_facts) (n := 63) (k := 6) (x := "_law_script") (st := Lw.sLaw) (N := Lw.nLaw) rfl (by decide) rfl ⟨rfl, by decide, by decide⟩ (by decide +kernel) Lw.scLaw (fun w h Y => PySem.W.kIn_of Y) ?F
  case F =>
    intro w mg fa h KX G hmg
    refine' Lw.all_mk KX G hmg ?aq0 ?lq0 ?cq0 ?kq0 ?aq1 ?lq1 ?cq1 ?kq1 ?aq2 ?lq2 ?cq2 ?kq2 ?aq3 ?lq3 ?cq3 ?kq3 ?aq4 ?lq4 ?cq4 ?kq4 ?aq5 ?lq5 ?cq5 ?kq5 ?aq6 ?lq6 ?cq6 ?kq6 ?aq7 ?lq7 ?cq7 ?kq7 ?aq8 ?lq8 ?cq8 ?kq8 ?aq9 ?lq9 ?cq9 ?kq9 ?aq10 ?lq10 ?cq10 ?kq10 ?aq11 ?lq11 ?cq11 ?kq11 ?aq12 ?lq12 ?cq12 ?kq12 ?aq13 ?lq13 ?cq13 ?kq13 ?aq14 ?lq14 ?cq14 ?kq14 ?aq15 ?lq15 ?cq15 ?kq15 ?aq16 ?lq16 ?cq16 ?kq16 ?aq17 ?lq17 ?cq17 ?kq17 ?aq18 ?lq18 ?cq18 ?kq18 ?aq19 ?lq19 ?cq19 ?kq19 ?aq20 ?lq20 ?cq20 ?kq20 ?aq21 ?lq21 ?cq21 ?kq21 ?aq22 ?lq22 ?cq22 ?kq22 ?aq23 ?lq23 ?cq23 ?kq23 ?aq24 ?lq24 ?cq24 ?kq24 ?aC ?aI ?iI ?lI ?cI ?kI ?aS ?gS ?tS ?rS ?lS ?cS ?kS ?pg ?hd ?po ?sa ?mk ?kc ?nP ?rd ?ga ?mo ?ha ?hn ?ht ?hm ?kg0 ?kg1 ?kg2 ?kg3 ?kg4 ?kg5 ?kg6 ?z0 ?z1 ?z2 ?z3 ?z4 ?z5 ?z6 ?z7 ?z8 ?z9 ?z10 ?z11 ?z12 ?z13 ?z14 ?gpa ?gan ?lpa ?low ?hkl ?lt0 ?lt1 ?lt2 ?lt3 ?lt4 ?lt5 ?lt6 ?lan ?CT_a ?CP_a ?gT0 ?hT0 ?sT ?dT ?xT ?yT ?qT ?uT ?sP ?dP ?uP ?sTP ?sVT ?lCT ?rbT ?saT ?nT_ ?aTI ?tTI ?lTI ?cTI ?kTI
    (case aq0 => k_is)
    (case lq0 => k_is)
    (case cq0 => k_is)
    (case kq0 => k_is)
    (case aq1 => k_is)
    (case lq1 => k_is)
    (case cq1 => k_is)
    (case kq1 => k_is)
    (case aq2 => k_is)
    (case lq2 => k_is)
    (case cq2 => k_is)
    (case kq2 => k_is)
    (case aq3 => k_is)
    (case lq3 => k_is)
    (case cq3 => k_is)
    (case kq3 => k_is)
    (case aq4 => k_is)
    (case lq4 => k_is)
    (case cq4 => k_is)
    (case kq4 => k_is)
    (case aq5 => k_is)
    (case lq5 => k_is)
    (case cq5 => k_is)
    (case kq5 => k_is)
    (case aq6 => k_is)
    (case lq6 => k_is)
    (case cq6 => k_is)
    (case kq6 => k_is)
    (case aq7 => k_is)
    (case lq7 => k_is)
    (case cq7 => k_is)
    (case kq7 => k_is)
    (case aq8 => k_is)
    (case lq8 => k_is)
    (case cq8 => k_is)
    (case kq8 => k_is)
    (case aq9 => k_is)
    (case lq9 => k_is)
    (case cq9 => k_is)
    (case kq9 => k_is)
    (case aq10 => k_is)
    (case lq10 => k_is)
    (case cq10 => k_is)
    (case kq10 => k_is)
    (case aq11 => k_is)
    (case lq11 => k_is)
    (case cq11 => k_is)
    (case kq11 => k_is)
    (case aq12 => k_is)
    (case lq12 => k_is)
    (case cq12 => k_is)
    (case kq12 => k_is)
    (case aq13 => k_is)
    (case lq13 => k_is)
    (case cq13 => k_is)
    (case kq13 => k_is)
    (case aq14 => k_is)
    (case lq14 => k_is)
    (case cq14 => k_is)
    (case kq14 => k_is)
    (case aq15 => k_is)
    (case lq15 => k_is)
    (case cq15 => k_is)
    (case kq15 => k_is)
    (case aq16 => k_is)
    (case lq16 => k_is)
    (case cq16 => k_is)
    (case kq16 => k_is)
    (case aq17 => k_is)
    (case lq17 => k_is)
    (case cq17 => k_is)
    (case kq17 => k_is)
    (case aq18 => k_is)
    (case lq18 => k_is)
    (case cq18 => k_is)
    (case kq18 => k_is)
    (case aq19 => k_is)
    (case lq19 => k_is)
    (case cq19 => k_is)
    (case kq19 => k_is)
    (case aq20 => k_is)
    (case lq20 => k_is)
    (case cq20 => k_is)
    (case kq20 => k_is)
    (case aq21 => k_is)
    (case lq21 => k_is)
    (case cq21 => k_is)
    (case kq21 => k_is)
    (case aq22 => k_is)
    (case lq22 => k_is)
    (case cq22 => k_is)
    (case kq22 => k_is)
    (case aq23 => k_is)
    (case lq23 => k_is)
    (case cq23 => k_is)
    (case kq23 => k_is)
    (case aq24 => k_is)
    (case lq24 => k_is)
    (case cq24 => k_is)
    (case kq24 => k_is)
    (case aC => k_is)
    (case aI => k_is)
    (case iI => k_is)
    (case lI => k_is)
    (case cI => k_is)
    (case kI => k_is)
    (case aS => k_is)
    (case gS => k_is)
    (case tS => k_is)
    (case rS => k_is)
    (case lS => k_is)
    (case cS => k_is)
    (case kS => k_is)
    (case pg => k_is)
    (case hd => k_is)
    (case po => k_is)
    (case sa => k_is)
    (case mk => k_is)
    (case kc => k_is)
    (case nP => k_is)
    (case rd => k_is)
    (case ga => k_is)
    (case mo => k_is)
    (case ha => k_is)
    (case hn => k_is)
    (case ht => k_is)
    (case hm => k_is)
    (case kg0 => k_is)
    (case kg1 => k_is)
    (case kg2 => k_is)
    (case kg3 => k_is)
    (case kg4 => k_is)
    (case kg5 => k_is)
    (case kg6 => k_is)
    (case z0 => k_is)
    (case z1 => k_is)
    (case z2 => k_is)
    (case z3 => k_is)
    (case z4 => k_is)
    (case z5 => k_is)
    (case z6 => k_is)
    (case z7 => k_is)
    (case z8 => k_is)
    (case z9 => k_is)
    (case z10 => k_is)
    (case z11 => k_is)
    (case z12 => k_is)
    (case z13 => k_is)
    (case z14 => k_is)
    (case gpa => k_is)
    (case gan => k_is)
    (case lpa => k_is)
    (case low => first | k_is | rfl | decide)
    (case hkl => exact ⟨⟨_, _, rfl, rfl⟩, ⟨_, _, rfl, rfl⟩, ⟨_, _, rfl, rfl⟩, ⟨_, _, rfl, rfl⟩, ⟨_, _, rfl, rfl⟩, ⟨_, _, rfl, rfl⟩, ⟨_, _, rfl, rfl⟩, trivial⟩)
    (case lt0 => k_is)
    (case lt1 => k_is)
    (case lt2 => k_is)
    (case lt3 => k_is)
    (case lt4 => k_is)
    (case lt5 => k_is)
    (case lt6 => k_is)
    (case lan => k_is)
    (case CT_a => k_is)
    (case CP_a => k_is)
    (case gT0 => k_is)
    (case hT0 => k_is)
    (case sT => k_is)
    (case dT => k_is)
    (case xT => k_is)
    (case yT => k_is)
    (case qT => k_is)
    (case uT => k_is)
    (case sP => k_is)
    (case dP => k_is)
    (case uP => k_is)
    (case sTP => k_is)
    (case sVT => k_is)
    (case lCT => k_is)
    (case rbT => with_unfolding_all rfl)
    (case saT => k_is)
    (case nT_ => k_is)
    (case aTI => k_is)
    (case tTI => k_is)
    (case lTI => k_is)
    (case cTI => k_is)
    (case kTI => k_is)

import PyProof.Rows.All
import Wide.All
import OpenK.AllK
import Wide.FinOn
import HandS.Base
import HandS.Call
import HandS.List
import HandS.Comp
import HandS.Ends
import HandS.Dict
import HandS.Iter
import HandS.Words
import HandS.Wide
import PyProof.ReprRoads
import HandS.ForMost
import HandS.IsInst
import HandS.Walk
import PyProof.ReprLen
import PyProof.StrLawsRepr
import HandS.ClsMeth
import HandS.Property
import HandS.OwnEq
import HandS.DictComp
import HandS.Conv
import HandS.FStr
import PyProof.InstNe
import HandS.Text
import KE.KDictList
import HandS.Flow
import HandS.Deep
import KE.DataFind
import HandS.Zip
import KE.GoesNew
import KE.KDictZip
import KE.KItemsList
import HandS.ListItems
import PySem.Challenge.RW_hearpurse_k10_whole_rank_alone_decides
set_option Elab.async false
set_option linter.all false
set_option maxRecDepth 100000
set_option maxHeartbeats 4000000
namespace Gn
open PySem PySem.Spec PyProof.Rows L2

/-! ## heaps -/
theorem new_same {H : Hp} {p : Addr} {o : HO} (h : H p = none) : ∀ b u, H b = some u → upd H p o b = some u := by
  intro b u e
  rw [upd_ne (ne_of_none e h)]
  exact e
/-- the heap less two objects: those of the draws -/
def Rs (d g : Addr) (H : Hp) : Hp := fun a => if a = d ∨ a = g then none else H a
section
variable {d g a p : Addr} {H H' H2 : Hp} {o u : HO}
theorem rs_of (h : Rs d g H a = some o) : H a = some o ∧ a ≠ d ∧ a ≠ g := by
  unfold Rs at h
  by_cases c : a = d ∨ a = g
  · rw [if_pos c] at h; cases h
  · rw [if_neg c] at h
    exact ⟨h, fun e => c (.inl e), fun e => c (.inr e)⟩
theorem rs_to (h : H a = some o) (h1 : a ≠ d) (h2 : a ≠ g) : Rs d g H a = some o := by
  unfold Rs
  rw [if_neg (fun c => c.elim h1 h2)]
  exact h
/-- all that is no draw's stands -/
def Kp (d g : Addr) (H H' : Hp) : Prop := ∀ a o, a ≠ d → a ≠ g → H a = some o → H' a = some o
theorem Kp.refl : Kp d g H H := fun _ _ _ _ e => e
theorem Kp.trans (h : Kp d g H H') (k : Kp d g H' H2) : Kp d g H H2 := fun a o n1 n2 e => k a o n1 n2 (h a o n1 n2 e)
theorem Kp.new (hp : H p = none) : Kp d g H (upd H p o) := fun a u _ _ e => new_same hp a u e
theorem Kp.of (h : ∀ a o, H a = some o → H' a = some o) : Kp d g H H' := fun a o _ _ e => h a o e
theorem Kp.at_d : Kp d g H (upd H d o) := fun a u n1 _ e => by rw [upd_ne n1]; exact e
theorem Kp.at_g : Kp d g H (upd H g o) := fun a u _ n2 e => by rw [upd_ne n2]; exact e
end

/-! ## the draws' state -/
def kG : Key := Sum.inr ("great" : Str)
def kC : Key := Sum.inr ("cells" : Str)
def kL : Key := Sum.inr ("left" : Str)
def kT : Key := Sum.inr ("turn" : Str)
def dk (g c : Addr) (l t : Int) : List (Key × V) := [(kG, .ref g), (kC, .ref c), (kL, .int l), (kT, .int t)]
section
variable {g c : Addr} {l t z : Int} {H : Hp} {d : Addr}
theorem nGC : ¬ kG = kC := by decide +kernel
theorem nGL : ¬ kG = kL := by decide +kernel
theorem nGT : ¬ kG = kT := by decide +kernel
theorem nCL : ¬ kC = kL := by decide +kernel
theorem nCT : ¬ kC = kT := by decide +kernel
theorem nLT : ¬ kL = kT := by decide +kernel
theorem dk_g : valV (dk g c l t) kG = some (.ref g) := valV_pos rfl
theorem dk_c : valV (dk g c l t) kC = some (.ref c) := (valV_neg nGC).trans (valV_pos rfl)
theorem dk_l : valV (dk g c l t) kL = some (.int l) := (valV_neg nGL).trans ((valV_neg nCL).trans (valV_pos rfl))
theorem dk_t : valV (dk g c l t) kT = some (.int t) := (valV_neg nGT).trans ((valV_neg nCT).trans ((valV_neg nLT).trans (valV_pos rfl)))
theorem get_g (h : H d = some (.dK (dk g c l t))) : DGet H d (.str "great") (some (.ref g)) := by
  rw [← dk_g (g := g) (c := c) (l := l) (t := t)]
  exact DGet.k (k := kG) h
theorem get_c (h : H d = some (.dK (dk g c l t))) : DGet H d (.str "cells") (some (.ref c)) := by
  rw [← dk_c (g := g) (c := c) (l := l) (t := t)]
  exact DGet.k (k := kC) h
theorem get_l (h : H d = some (.dK (dk g c l t))) : DGet H d (.str "left") (some (.int l)) := by
  rw [← dk_l (g := g) (c := c) (l := l) (t := t)]
  exact DGet.k (k := kL) h
theorem get_t (h : H d = some (.dK (dk g c l t))) : DGet H d (.str "turn") (some (.int t)) := by
  rw [← dk_t (g := g) (c := c) (l := l) (t := t)]
  exact DGet.k (k := kT) h
theorem put_dk_l : putK (dk g c l t) kL (.int z) = dk g c z t := by
  unfold putK dk
  simp [nGL, nCL, Ne.symm nLT, (show ¬ kT = kL from fun e => nLT e.symm)]
theorem put_dk_t : putK (dk g c l t) kT (.int z) = dk g c l z := by
  unfold putK dk
  simp [nGT, nCT, nLT]
theorem put_l (h : H d = some (.dK (dk g c l t))) : DPut H d (.str "left") (.int z) (upd H d (.dK (dk g c z t))) := by
  rw [← put_dk_l (l := l)]
  exact DPut.k (k := kL) h (by show 4 < sizeLine; decide)
theorem put_t (h : H d = some (.dK (dk g c l t))) : DPut H d (.str "turn") (.int z) (upd H d (.dK (dk g c l z))) := by
  rw [← put_dk_t (t := t)]
  exact DPut.k (k := kT) h (by show 4 < sizeLine; decide)
theorem merge_dk : mergeK [] (dk g c l t) = dk g c l t := by
  have e1 : putK [] kG (.ref g) = [(kG, V.ref g)] := rfl
  have e2 : putK [(kG, V.ref g)] kC (.ref c) = [(kG, V.ref g), (kC, V.ref c)] := by unfold putK; simp [nGC]
  have e3 : putK [(kG, V.ref g), (kC, V.ref c)] kL (.int l) = [(kG, V.ref g), (kC, V.ref c), (kL, V.int l)] := by unfold putK; simp [nGL, nCL]
  have e4 : putK [(kG, V.ref g), (kC, V.ref c), (kL, V.int l)] kT (.int t) = [(kG, V.ref g), (kC, V.ref c), (kL, V.int l), (kT, V.int t)] := by unfold putK; simp [nGT, nCT, nLT]
  unfold mergeK dk
  simp only [List.foldl_cons, List.foldl_nil, e1, e2, e3, e4]
end
/-- the draws' dict at d, its lists at g and c; at most b turns were mixed -/
structure Dw (ns : List Int) (d g c : Addr) (b : Nat) (H : Hp) : Prop where
  st : ∃ (gs : List Int) (l t : Int), H d = some (.dK (dk g c l t)) ∧ H g = some (.lst (gs.map V.int)) ∧ 0 ≤ t ∧ t ≤ b
  cl : H c = some (.lst (ns.map V.int))
  ncd : c ≠ d
  ncg : c ≠ g
section
variable {ns : List Int} {d g c p : Addr} {b b' : Nat} {H H' : Hp} {o : HO}
theorem Dw.mono (h : Dw ns d g c b H) (k : b ≤ b') : Dw ns d g c b' H := by
  obtain ⟨⟨gs, l, t, h1, h2, h3, h4⟩, h5, h6, h7⟩ := h
  exact ⟨⟨gs, l, t, h1, h2, h3, by omega⟩, h5, h6, h7⟩
/-- what is new leaves them -/
theorem Dw.keep (h : Dw ns d g c b H) (k : ∀ a o, H a = some o → H' a = some o) : Dw ns d g c b H' := by
  obtain ⟨⟨gs, l, t, h1, h2, h3, h4⟩, h5, h6, h7⟩ := h
  exact ⟨⟨gs, l, t, k _ _ h1, k _ _ h2, h3, h4⟩, k _ _ h5, h6, h7⟩
theorem Dw.new (h : Dw ns d g c b H) (hp : H p = none) : Dw ns d g c b (upd H p o) := h.keep fun a u e => new_same hp a u e
theorem Dw.nd (h : Dw ns d g c b H) (hp : H p = none) : p ≠ d := by
  obtain ⟨⟨gs, l, t, h1, h2, h3, h4⟩, h5, h6, h7⟩ := h
  exact fun e => ne_of_none h1 hp e.symm
theorem Dw.ng (h : Dw ns d g c b H) (hp : H p = none) : p ≠ g := by
  obtain ⟨⟨gs, l, t, h1, h2, h3, h4⟩, h5, h6, h7⟩ := h
  exact fun e => ne_of_none h2 hp e.symm
theorem Dw.some (h : Dw ns d g c b H) : (∃ o, H d = some o) ∧ ∃ o, H g = some o := by
  obtain ⟨⟨gs, l, t, h1, h2, h3, h4⟩, h5, h6, h7⟩ := h
  exact ⟨⟨_, h1⟩, ⟨_, h2⟩⟩
/-- what is new behind a draw was new ahead of it -/
theorem Dw.free (h : Dw ns d g c b H) (h' : Dw ns d g c b' H') (k : Kp d g H H') (hp : H' p = none) : H p = none := by
  cases e : H p with
  | none => rfl
  | some u =>
    have q := k p u (h'.nd hp) (h'.ng hp) e
    rw [hp] at q
    cases q
theorem Dw.put (h : Dw ns d g c b H) (hp : H p = Option.some u) (n1 : p ≠ d) (n2 : p ≠ g) (n3 : p ≠ c) : Dw ns d g c b (upd H p o) := by
  obtain ⟨⟨gs, l, t, h1, h2, h3, h4⟩, h5, h6, h7⟩ := h
  exact ⟨⟨gs, l, t, by rw [upd_ne n1.symm]; exact h1, by rw [upd_ne n2.symm]; exact h2, h3, h4⟩, by rw [upd_ne n3.symm]; exact h5, h6, h7⟩
end
/-! ## small words of arithmetic -/
theorem fmod_lo {a b : Int} (h : 0 < b) : 0 ≤ a.fmod b := by rw [Int.fmod_eq_emod_of_nonneg a (by omega)]; exact Int.emod_nonneg a (by omega)
theorem fmod_hi {a b : Int} (h : 0 < b) : a.fmod b < b := by rw [Int.fmod_eq_emod_of_nonneg a (by omega)]; exact Int.emod_lt_of_pos a h
theorem at_int {xs : List V} {r : Int} (h0 : 0 ≤ r) (h1 : r < (xs.length : Int)) : ∃ v, atI xs r = some v ∧ v ∈ xs := by
  have k : r.toNat < xs.length := by omega
  have e : r = ((r.toNat : Nat) : Int) := by omega
  have q : atI xs ((r.toNat : Nat) : Int) = some xs[r.toNat] := atI_nat (List.getElem?_eq_getElem k)
  rw [← e] at q
  exact ⟨_, q, List.getElem_mem k⟩
/-! ## lists of flat data, by == -/
section
variable {K : PySem.W.Frag} {H : Hp}
theorem dp_ints : ∀ ns : List Int, DpAll K H (ns.map V.int) (ns.map PyData.int)
  | [] => .nil
  | n :: r => .cons (.int n) (dp_ints r)
theorem dp_bools : ∀ ns : List Bool, DpAll K H (ns.map V.bl) (ns.map PyData.bool)
  | [] => .nil
  | n :: r => .cons (.bl n) (dp_bools r)
theorem dp_strs : ∀ ns : List Str, DpAll K H (ns.map V.str) (ns.map PyData.str)
  | [] => .nil
  | n :: r => .cons (.str n) (dp_strs r)
/-- no list, tuple or dict -/
def flatD : PyData → Bool
  | .none => true
  | .bool _ => true
  | .int _ => true
  | .str x => PyData.strOk x
  | _ => false
theorem lay_flat {x : PyData} (h : flatD x = true) : x.canLay0 = true ∧ x.depth ≤ 1 := by
  cases x with
  | none => constructor <;> simp [PyData.canLay0, PyData.depth]
  | bool _ => constructor <;> simp [PyData.canLay0, PyData.depth]
  | int _ => constructor <;> simp [PyData.canLay0, PyData.depth]
  | str x =>
    have h' : PyData.strOk x = true := h
    constructor <;> simp [PyData.canLay0, PyData.depth, h']
  | list _ => cases h
  | tuple _ => cases h
  | dict _ => cases h
theorem lay_flats : ∀ {ds : List PyData}, (∀ x ∈ ds, flatD x = true) → PyData.canLayAll0 ds = true ∧ PyData.depthAll ds ≤ 1
  | [], _ => by constructor <;> simp [PyData.canLayAll0, PyData.depthAll]
  | x :: r, h => by
    obtain ⟨a1, a2⟩ := lay_flat (h x (List.mem_cons_self ..))
    obtain ⟨b1, b2⟩ := lay_flats (ds := r) fun y hy => h y (List.mem_cons_of_mem _ hy)
    constructor
    · simp [PyData.canLayAll0, a1, b1]
    · simp only [PyData.depthAll]
      omega
theorem shaped_flats {ds : List PyData} (h : ∀ x ∈ ds, flatD x = true) : SeqAt.shaped (.list ds) = true := by
  obtain ⟨b1, b2⟩ := lay_flats h
  have e : PyData.depth (.list ds) = PyData.depthAll ds + 1 := by simp only [PyData.depth]
  unfold SeqAt.shaped
  rw [e]
  simp only [PyData.canLay0, b1, Bool.true_and, decide_eq_true_eq]
  omega
theorem shaped_ints (ns : List Int) : SeqAt.shaped (.list (ns.map PyData.int)) = true := shaped_flats fun x hx => by
  obtain ⟨n, _, rfl⟩ := List.mem_map.mp hx
  rfl
theorem shaped_bools (ns : List Bool) : SeqAt.shaped (.list (ns.map PyData.bool)) = true := shaped_flats fun x hx => by
  obtain ⟨n, _, rfl⟩ := List.mem_map.mp hx
  rfl
theorem shaped_strs {ns : List Str} (h : ∀ x ∈ ns, PyData.strOk x = true) : SeqAt.shaped (.list (ns.map PyData.str)) = true := shaped_flats fun x hx => by
  obtain ⟨n, hn, rfl⟩ := List.mem_map.mp hx
  exact h n hn
theorem shaped_nil : SeqAt.shaped (.list []) = true := shaped_flats fun x hx => by cases hx
theorem eqv_nil {ds : List PyData} : PyData.eqv (.list ds) (.list []) = ds.isEmpty := by
  cases ds <;> simp [PyData.eqv, PyData.eqvAll]
theorem eqv_bools : ∀ xs ys : List Bool, PyData.eqvAll (xs.map PyData.bool) (ys.map PyData.bool) = decide (xs = ys)
  | [], [] => by simp [PyData.eqvAll]
  | [], _ :: _ => by simp [PyData.eqvAll]
  | _ :: _, [] => by simp [PyData.eqvAll]
  | x :: xs, y :: ys => by
    simp only [List.map_cons, PyData.eqvAll, PyData.eqv, eqv_bools xs ys]
    by_cases h : x = y <;> by_cases k : xs = ys <;> simp [h, k]
end
end Gn

set_option Elab.async false
set_option linter.all false
set_option maxRecDepth 100000
set_option maxHeartbeats 4000000
namespace Lw
open PySem PySem.Spec PyProof.Rows L2 Gn
def top (i : Nat) : Stmt := PySem.Challenge.pw_hearpurse_k10_whole_rank_alone_decides.main.body.getD i (.Pass ⟨0, 0, 0, 0⟩)
abbrev sWall : Stmt := top 0
abbrev sInt : Stmt := top 11
abbrev sName : Stmt := top 12
abbrev sAmount : Stmt := top 13
abbrev sIsClaim : Stmt := top 17
abbrev sCheckClaims : Stmt := top 18
abbrev sCheckBalances : Stmt := top 19
abbrev sTotalsOf : Stmt := top 20
abbrev sGrants : Stmt := top 21
abbrev sTotals : Stmt := top 22
abbrev sEntitlements : Stmt := top 23
abbrev sRow : Stmt := top 25
abbrev sWrong : Stmt := top 26
abbrev sBegun : Stmt := top 29
abbrev sMixed : Stmt := top 30
abbrev sTake : Stmt := top 31
abbrev sPick : Stmt := top 32
abbrev sLOrder : Stmt := top 33
abbrev sWords : Stmt := top 34
abbrev sForest : Stmt := top 35
abbrev sLClaims : Stmt := top 36
abbrev sLBalances : Stmt := top 37
abbrev sLSortedRows : Stmt := top 38
abbrev sLRenamed : Stmt := top 39
abbrev sLSplitRight : Stmt := top 40
abbrev sLMovedRight : Stmt := top 41
abbrev sLaw : Stmt := top 42
def cBody : Stmt → List Stmt
  | .ClassDef (body := b) .. => b
  | _ => []
def meth (i : Nat) : Stmt := (cBody (top 27)).getD i (.Pass ⟨0, 0, 0, 0⟩)
abbrev sInit : Stmt := meth 1
abbrev sEq : Stmt := meth 2
abbrev sNames : Stmt := meth 3
abbrev sText : Stmt := meth 4
abbrev sAnc : Stmt := meth 5
abbrev sSub : Stmt := meth 6
abbrev sParse : Stmt := meth 7
section
variable {P : Program} {w : World} {K : PySem.W.Frag} {mg : Str → Option Value} {base : Heap}
/-! ### _law_mixed -/
def spMixed (ns : List Int) : Sp := fun vs H Q _ => ∃ (d g c : Addr) (b : Nat), vs = [.ref d] ∧ Dw ns d g c b H ∧ b ≤ 1000000000 ∧
  ∀ (r : Int) (H' : Hp), Dw ns d g c (b + 1) H' → Kp d g H H' → Q (.int r) H'
theorem scMixed : FnScope ["_law_state", "_law_found", "_law_prime", "_law_blend", "_law_cell"] ["_law_state"] (defScope sMixed) := ⟨rfl, rfl, rfl, by decide +kernel, rfl, by decide +kernel, by decide +kernel⟩
def primes : List Int := [2147483629, 2147483587, 2147483579, 2147483563, 2147483549, 2147483543]
theorem prime_of {p : Int} (h : p ∈ primes) : 2000000000 < p ∧ p < 2147483648 := by
  unfold primes at h
  simp only [List.mem_cons, List.not_mem_nil, or_false] at h
  omega
theorem ok_mixed {f : Addr} {fd : FuncData} (ns : List Int) (F : Fun K "_law_mixed" "_law_mixed" sMixed f fd) : FnOk P w K mg base CX0 1 f fd ["_law_state"] (spMixed ns) := by
  refine F.ok scMixed (fun vs H Q E h => ?_) (fun cdv A outer s H vs Q E hr h => ?_)
  · obtain ⟨d, g, c, b, rfl, _⟩ := h
    rfl
  · obtain ⟨d, g, c, b, rfl, D, hb, k⟩ := h
    have hu := hu_of hr
    have nd := scMixed.nd
    refine ⟨_, pss_cons (ps_dput hu (pv 0) pe_str (pe_op op_add (pe_dget hu (pv 0) pe_str (fun _ _ => rfl)) pe_int) rfl)
      (pss_cons (ps_set (i := 1) nd rfl (.inl rfl) pe_int)
      (pss_cons (ps_for PassesOwn.never rfl (pi_list (pe_lst (pa_cons pe_int (pa_cons pe_int (pa_cons pe_int (pa_cons pe_int (pa_cons pe_int (pa_cons pe_int pa_nil)))))))) (pg_name (i := 2) nd rfl (.inl rfl))
        (pss_cons (ps_set (i := 3) nd rfl (.inl rfl) (pe_op op_add (pe_op op_mul pe_int (pe_dget hu (pv 0) pe_str (fun _ _ => rfl))) (pe_op op_fdivN (pv 2) pe_int)))
        (pss_cons (ps_for PassesOwn.never rfl (pi_list (pe_dget hu (pv 0) pe_str (fun _ _ => rfl))) (pg_name (i := 4) nd rfl (.inl rfl))
          (pss_one (ps_set (i := 3) nd rfl (.inl rfl) (pe_op op_modN (pe_op op_add (pe_op op_mul (pv 3) pe_int) (pv 4)) (pv 2)))))
        (pss_one (ps_set (i := 1) nd rfl (.inl rfl) (pe_op op_add (pe_op op_mul (pv 1) pe_int) (pe_op op_modN (pe_op op_pow (pv 3) pe_int) (pv 2))))))))
      (pss_one (ps_ret (pv 1))))), ?_⟩
    obtain ⟨⟨gs, l, t, hd, hg, t0, tb⟩, hc, ncd, ncg⟩ := id D
    have ndg : g ≠ d := ne_of hg hd (by intro z; cases z)
    refine ⟨_, rfl, d, _, rfl, get_t hd, t, 1, rfl, rfl, _, rfl, d, _, rfl, put_t hd, ?_⟩
    generalize hH1 : upd H d (.dK (dk g c l (t + 1))) = H1
    have hd1 : H1 d = some (.dK (dk g c l (t + 1))) := by rw [← hH1, upd_same]
    have hg1 : H1 g = some (.lst (gs.map V.int)) := by rw [← hH1, upd_ne ndg]; exact hg
    have hc1 : H1 c = some (.lst (ns.map V.int)) := by rw [← hH1, upd_ne ncd]; exact hc
    have k1 : Kp d g H H1 := by rw [← hH1]; exact Kp.at_d
    refine ⟨by show 6 ≤ sizeLine; decide, fun p hp => ?_⟩
    have hd2 := new_same (o := .lst (primes.map V.int)) hp _ _ hd1
    have hg2 := new_same (o := .lst (primes.map V.int)) hp _ _ hg1
    have hc2 := new_same (o := .lst (primes.map V.int)) hp _ _ hc1
    refine ⟨p, rfl, ⟨_, SqL.of upd_same⟩, for_list (K := K) (a := p) (xs := primes.map V.int) (fun i σ H' => H' = upd H1 p (.lst (primes.map V.int)) ∧ ∃ (f : Int) (v2 v3 v4 : Option V), σ = [some (.ref d), some (.int f), v2, v3, v4])
      ⟨rfl, 0, none, none, none, rfl⟩ (fun i σ H' _ ⟨e, _⟩ => by rw [e]; exact SqL.of upd_same) ?_ ?_⟩
    · rintro i x σ H' hx ⟨rfl, f, v2, v3, v4, rfl⟩
      obtain ⟨pr, hpr, rfl⟩ : ∃ z : Int, z ∈ primes ∧ x = V.int z := by
        obtain ⟨z, hz, e⟩ := List.mem_map.mp (List.mem_of_getElem? hx)
        exact ⟨z, hz, e.symm⟩
      obtain ⟨p1, p2⟩ := prime_of hpr
      refine ⟨_, rfl, d, _, rfl, get_t hd2, 69997, t + 1, rfl, rfl, .inl ⟨by decide, by decide⟩, _, rfl, pr, 11, rfl, rfl, ⟨by decide, by decide⟩, _, _, rfl, rfl, ?_⟩
      have q0 : 0 ≤ pr.fdiv 11 ∧ pr.fdiv 11 < 2147483648 := by
        rw [Int.fdiv_eq_ediv_of_nonneg pr (by decide)]
        omega
      refine ⟨_, rfl, d, _, rfl, get_c hd2, c, rfl, ⟨_, SqL.of hc2⟩, for_list (K := K) (a := c) (xs := ns.map V.int) (fun i σ H' => H' = upd H1 p (.lst (primes.map V.int)) ∧ ∃ (y : Int) (v4 : Option V), y.natAbs < 2 ^ 64 ∧ σ = [some (.ref d), some (.int f), some (.int pr), some (.int y), v4])
        ⟨rfl, _, v4, ?_, rfl⟩ (fun i σ H' _ ⟨e, _⟩ => by rw [e]; exact SqL.of hc2) ?_ ?_⟩
      · omega
      · rintro j x σ H' hx ⟨rfl, y, v4, hy, rfl⟩
        obtain ⟨z, rfl⟩ : ∃ z : Int, x = V.int z := by
          obtain ⟨z, hz, e⟩ := List.mem_map.mp (List.mem_of_getElem? hx)
          exact ⟨z, e.symm⟩
        refine ⟨_, rfl, y, 48271, rfl, rfl, .inr ⟨by decide, by decide⟩, _, rfl, _, z, rfl, rfl, _, rfl, _, pr, rfl, rfl, (by omega), ?_⟩
        have r1 := fmod_lo (a := y * 48271 + z) (b := pr) (by omega)
        have r2 := fmod_hi (a := y * 48271 + z) (b := pr) (by omega)
        exact ⟨rfl, _, some (.int z), by omega, rfl⟩
      · rintro σ H' ⟨rfl, y, v4, hy, rfl⟩
        refine ⟨_, rfl, f, 2147483647, rfl, rfl, .inr ⟨by decide, by decide⟩, _, rfl, y, 5, rfl, rfl, ⟨by decide, by decide, hy⟩, _, rfl, _, pr, rfl, rfl, (by omega), _, _, rfl, rfl, ?_⟩
        exact ⟨rfl, _, some (.int pr), some (.int y), v4, rfl⟩
    · rintro σ H' ⟨rfl, f, v2, v3, v4, rfl⟩
      refine ⟨_, rfl, ?_⟩
      refine k f _ ⟨⟨gs, l, t + 1, hd2, hg2, by omega, by omega⟩, hc2, ncd, ncg⟩ (k1.trans (Kp.new hp))
theorem z60 {z : Int} (h : z ≤ 10000000000000) (h0 : 0 < z := by assumption) : z.natAbs < 2 ^ 60 := by
  have : (2 : Nat) ^ 60 = 1152921504606846976 := by decide
  rw [this]
  omega
/-! ### _law_take -/
def spTake (ns : List Int) : Sp := fun vs H Q _ => ∃ (d g c : Addr) (b : Nat) (z : Int), vs = [.ref d, .int z] ∧ Dw ns d g c b H ∧ b ≤ 1000000000 ∧ 0 < z ∧ z ≤ 10000000000000 ∧
  ∀ (r : Int) (H' : Hp), 0 ≤ r → r < z → Dw ns d g c (b + 1) H' → Kp d g H H' → Q (.int r) H'
theorem scTake : FnScope ["_law_state", "_law_size", "_law_found"] ["_law_state", "_law_size"] (defScope sTake) := ⟨rfl, rfl, rfl, by decide +kernel, rfl, by decide +kernel, by decide +kernel⟩
theorem ok_take {f fM : Addr} {fd fdM : FuncData} (ns : List Int) (F : Fun K "_law_take" "_law_take" sTake f fd) (GM : FnOk P w K mg base CX0 1 fM fdM ["_law_state"] (spMixed ns)) (bM : Binds K fdM ["_law_state"] []) (kM : PySem.W.keepIn K (.ref fM) = true) (mM : mg "_law_mixed" = some (.ref fM)) :
    FnOk P w K mg base CX0 2 f fd ["_law_state", "_law_size"] (spTake ns) := by
  refine F.ok scTake (fun vs H Q E h => ?_) (fun cdv A outer s H vs Q E hr h => ?_)
  · obtain ⟨d, g, c, b, z, rfl, _⟩ := h
    rfl
  · obtain ⟨d, g, c, b, z, rfl, D, hb, z0, z1, k⟩ := h
    have hu := hu_of hr
    have nd := scTake.nd
    refine ⟨_, pss_cons (ps_if (pt_cmpR op_eq (pe_dget hu (pv 0) pe_str (fun _ _ => rfl)) pe_int (nomark _))
        (pss_one (ps_dput hu (pv 0) pe_str (pe_ifExp (pt_cmpR (op_neD hr.units) (pe_dget hu (pv 0) pe_str (fun _ _ => rfl)) (pe_lst pa_nil) (nomark _))
          (pe_bm PySem.F.plainAttrs_list PySem.F.slot_list_pop PySem.F.type_list_pop mt_popAt (pe_dget hu (pv 0) pe_str (fun _ _ => rfl)) (pa_cons pe_int pa_nil))
          (pe_call GM hr rfl mM kM bM .nil pass0 (pa_cons (pv 0) pa_nil))) rfl)) pss_nil)
      (pss_cons (ps_set (i := 2) nd rfl (.inl rfl) (pe_op op_modN (pe_dget hu (pv 0) pe_str (fun _ _ => rfl)) (pv 1)))
      (pss_cons (ps_dput hu (pv 0) pe_str (pe_op op_fdivW (pe_dget hu (pv 0) pe_str (fun _ _ => rfl)) (pv 1)) rfl)
      (pss_one (ps_ret (pv 2))))), ?_⟩
    -- behind the if: the state with a number left
    have tail : ∀ (H1 : Hp), Dw ns d g c (b + 1) H1 → Kp d g H H1 → tSeq (tAsg (tOp (rI (fun _ j => j ≠ 0) fun i j => .int (i.fmod j)) (tDGet (tVar 0) (tC (.str "left"))) (tVar 1)) (gName 2))
        (tSeq (sDPut (tVar 0) (tC (.str "left")) (tOp (rI CDivW fun i j => .int (i / j)) (tDGet (tVar 0) (tC (.str "left"))) (tVar 1))) (tRet (tVar 2))) { nx := fun _ H' => Q .non H', rt := Q } [some (.ref d), some (.int z), none] H1 := by
      intro H1 D1 k1
      obtain ⟨⟨gs, l, t, hd, hg, t0, tb⟩, hc, ncd, ncg⟩ := id D1
      have ndg : g ≠ d := ne_of hg hd (by intro z; cases z)
      refine ⟨_, rfl, d, _, rfl, get_l hd, _, rfl, l, z, rfl, rfl, (by omega), ?_⟩
      refine ⟨_, rfl, d, _, rfl, get_l hd, _, rfl, l, z, rfl, rfl, wide_div (b := 60) z0 (z60 z1) (by decide) (by decide), _, rfl, d, _, rfl, put_l hd, _, rfl, ?_⟩
      refine k _ _ (fmod_lo z0) (fmod_hi z0) ⟨⟨gs, _, t, upd_same, by rw [upd_ne ndg]; exact hg, t0, tb⟩, by rw [upd_ne ncd]; exact hc, ncd, ncg⟩ (k1.trans Kp.at_d)
    obtain ⟨⟨gs, l, t, hd, hg, t0, tb⟩, hc, ncd, ncg⟩ := id D
    have ndg : g ≠ d := ne_of hg hd (by intro z; cases z)
    refine ⟨_, rfl, d, _, rfl, get_l hd, rfl, _, rfl, ?_⟩
    refine ite2 (fun e => ?_) (fun e => tail H (D.mono (by omega)) Kp.refl)
    refine ⟨_, rfl, d, _, rfl, get_g hd, by show 0 ≤ sizeLine; decide, fun p hp => ?_⟩
    have hd1 := new_same (o := .lst []) hp _ _ hd
    have hg1 := new_same (o := .lst []) hp _ _ hg
    have hc1 := new_same (o := .lst []) hp _ _ hc
    refine ⟨_, _, .lst (SqL.of hg1) (dp_ints gs), .lst (SqL.of upd_same) .nil, shaped_ints gs, shaped_nil, _, rfl, ?_⟩
    rw [eqv_nil]
    cases gs with
    | nil =>
      refine iteF ?_
      refine ⟨_, rfl, d, g, c, b, rfl, D.new hp, hb, fun r H' D' k' => ?_⟩
      obtain ⟨⟨gs, l, t, hd', hg', t0, tb⟩, hc', ncd, ncg⟩ := id D'
      have ndg : g ≠ d := ne_of hg' hd' (by intro z; cases z)
      refine ⟨_, rfl, d, _, rfl, put_l hd', ?_⟩
      exact tail _ ⟨⟨gs, _, t, upd_same, by rw [upd_ne ndg]; exact hg', t0, tb⟩, by rw [upd_ne ncd]; exact hc', ncd, ncg⟩ (((Kp.new hp).trans k').trans Kp.at_d)
    | cons n r =>
      refine iteT ?_
      refine ⟨_, rfl, d, _, rfl, get_g hd1, .inl ⟨rfl, _, SqL.of hg1⟩, g, _, 0, 0, _, rfl, rfl, hg1, by decide, by decide, (ixN_seq (n := (List.map V.int (n :: r)).length) (i := 0) (j := 0) (by simp [ixN])).1, rfl, ?_⟩
      refine ⟨_, rfl, d, _, rfl, put_l (by rw [upd_ne ndg.symm]; exact hd1), ?_⟩
      refine tail _ ⟨⟨r, _, t, upd_same, by rw [upd_ne ndg, upd_same]; rfl, t0, by omega⟩, by rw [upd_ne ncd, upd_ne ncg]; exact hc1, ncd, ncg⟩ (((Kp.new hp).trans Kp.at_g).trans Kp.at_d)
/-! ### _law_pick, out of a list and out of a text -/
theorem scPick : FnScope ["_law_state", "_law_some"] ["_law_state", "_law_some"] (defScope sPick) := ⟨rfl, rfl, rfl, by decide +kernel, rfl, by decide +kernel, by decide +kernel⟩
/-- one of the items of a list, or one sign of a text -/
def spPick (K : PySem.W.Frag) (ns : List Int) : Sp := fun vs H Q _ => ∃ (d g c : Addr) (b : Nat), Dw ns d g c b H ∧ b ≤ 1000000000 ∧
  ((∃ (a : Addr) (xs : List V), vs = [.ref d, .ref a] ∧ H a = some (.lst xs) ∧ a ≠ d ∧ a ≠ g ∧ 0 < xs.length ∧ xs.length ≤ 1000000 ∧
    ∀ (x : V) (H' : Hp), x ∈ xs → Dw ns d g c (b + 1) H' → Kp d g H H' → Q x H') ∨
   (∃ z : Str, vs = [.ref d, .str z] ∧ 0 < z.length ∧ z.length ≤ 1000000 ∧ ∀ (x : Nat) (H' : Hp), x ∈ z.cps.toList → Dw ns d g c (b + 1) H' → Kp d g H H' → Q (.str ⟨#[x]⟩) H'))
theorem ok_pick {f fT : Addr} {fd fdT : FuncData} (ns : List Int) (F : Fun K "_law_pick" "_law_pick" sPick f fd) (GT : FnOk P w K mg base CX0 2 fT fdT ["_law_state", "_law_size"] (spTake ns)) (bT : Binds K fdT ["_law_state", "_law_size"] []) (kT : PySem.W.keepIn K (.ref fT) = true) (mT : mg "_law_take" = some (.ref fT))
    (ml : mg "len" = none) : FnOk P w K mg base CX0 3 f fd ["_law_state", "_law_some"] (spPick K ns) := by
  refine F.ok scPick (fun vs H Q E h => ?_) (fun cdv A outer s H vs Q E hr h => ?_)
  · obtain ⟨d, g, c, b, D, hb, ⟨a, xs, rfl, _⟩ | ⟨z, rfl, _⟩⟩ := h <;> rfl
  · obtain ⟨d, g, c, b, D, hb, h⟩ := h
    have hu := hu_of hr
    have nd := scPick.nd
    refine ⟨_, pss_one (ps_ret (pe_ix ix_seq (pv 1) (pe_call GT hr rfl mT kT bT .nil pass0 (pa_cons (pv 0) (pa_cons (pe_callB call_len rfl ml PySem.boot_len (pa_cons (pv 1) pa_nil)) pa_nil))) (fun _ _ => rfl))), ?_⟩
    rcases h with ⟨a, xs, rfl, ha, nad, nag, h0, h1, k⟩ | ⟨z, rfl, h0, h1, k⟩
    · refine ⟨_, rfl, _, rfl, _, rfl, _, _, rfl, .inl ⟨_, SqL.of ha, rfl⟩, d, g, c, b, _, rfl, D, hb, by omega, by omega, fun r H' r0 r1 D' k' => ?_⟩
      obtain ⟨v, hv, hm⟩ := at_int r0 r1
      exact .inl ⟨a, xs, r, v, rfl, rfl, SqL.of (k' a _ nad nag ha), hv, k v H' hm D' k'⟩
    · refine ⟨_, rfl, _, rfl, _, rfl, _, _, rfl, ⟨by rw [sizeLine_eq]; omega, rfl⟩, d, g, c, b, _, rfl, D, hb, by omega, by omega, fun r H' r0 r1 D' k' => ?_⟩
      have e : r = ((r.toNat : Nat) : Int) := by omega
      have hl : r.toNat < z.cps.toList.length := by
        have : z.cps.toList.length = z.length := by simp [Str.length]
        omega
      have q : atI z.cps.toList ((r.toNat : Nat) : Int) = some z.cps.toList[r.toNat] := atI_nat (List.getElem?_eq_getElem hl)
      rw [← e] at q
      exact .inr (.inr ⟨z, r, _, rfl, rfl, by rw [sizeLine_eq]; omega, q, k _ H' (List.getElem_mem hl) D' k'⟩)
/-! ### _law_begun -/
def spBegun (K : PySem.W.Frag) (ns : List Int) : Sp := fun vs H Q _ => ∃ (a : Addr), vs = [.ref a] ∧ SqL K H a (ns.map V.int) ∧ ns.length ≤ 63 ∧
  ∀ (d g c : Addr) (H' : Hp), Dw ns d g c 0 H' → (∀ b o, H b = some o → H' b = some o) → H d = none → H g = none → H c = none → Q (.ref d) H'
theorem scBegun : FnScope ["_law_script", "_law_great", "_law_cell"] ["_law_script"] (defScope sBegun) := ⟨rfl, rfl, rfl, by decide +kernel, rfl, by decide +kernel, by decide +kernel⟩
theorem ok_begun {f : Addr} {fd : FuncData} (ns : List Int) (F : Fun K "_law_begun" "_law_begun" sBegun f fd) (mli : mg "list" = none) : FnOk P w K mg base CX0 1 f fd ["_law_script"] (spBegun K ns) := by
  refine F.ok scBegun (fun vs H Q E h => ?_) (fun cdv A outer s H vs Q E hr h => ?_)
  · obtain ⟨a, rfl, _⟩ := h
    rfl
  · obtain ⟨a, rfl, hS, hl, k⟩ := h
    have hu := hu_of hr
    have nd := scBegun.nd
    refine ⟨_, pss_cons (ps_setLc (i := 1) (own := [("_law_cell", 2)]) (g := gName 2) rfl nd rfl rfl (sw_true rfl rfl rfl (by decide +kernel)) (pi_list (pv 0)) (blkOk_by (N := ["_law_script", "_law_great", "_law_cell"]) (sc := defScope sBegun) (by decide +kernel))
        (fun _ _ _ _ _ => pg_name (i := 2) nd rfl (.inl rfl)) (fun _ _ _ _ _ => pts_one (pt_cmpR op_ge (pv 2) (pe_op op_pow pe_int pe_int) (nomark _))) (fun _ _ _ _ _ => pe_op op_sub (pv 2) (pe_op op_pow pe_int pe_int)))
      (pss_one (ps_ret (pe_disp (pps_cons pe_str (pv 1) (pps_cons pe_str (pe_callTy call_list_of rfl mli (by decide +kernel) (pa_cons (pv 0) pa_nil)) (pps_cons pe_str pe_int (pps_cons pe_str pe_int pps_nil)))) (by rfl) (by rfl) (fun z => by cases z) (by decide)))), ?_⟩
    have keep0 : ∀ {H' : Hp} {g : Addr} {o : HO}, (∀ b o, H b = some o → H' b = some o) → H g = none → ∀ b u, H b = some u → upd H' g o b = some u := fun {H' g o} s hg b u e => by
      rw [upd_ne (ne_of_none e hg)]
      exact s b u e
    refine ⟨_, rfl, a, rfl, ⟨_, hS⟩, fun g hg => ?_⟩
    refine lc_list (K := K) (a := a) (xs := ns.map V.int) (fun i H' => (∀ b o, H b = some o → H' b = some o) ∧ ∃ gs : List Int, gs.length ≤ i ∧ H' g = some (.lst (gs.map V.int)))
      ⟨fun b o e => new_same hg b o e, [], Nat.le_refl _, upd_same⟩ (fun i H' _ ⟨s, _⟩ => Same.seq s hS) ?_ ?_
    · rintro i x H' hx ⟨s5, gs, hgl, hg'⟩
      obtain ⟨z, rfl⟩ : ∃ z : Int, x = V.int z := by
        obtain ⟨z, hz, e⟩ := List.mem_map.mp (List.mem_of_getElem? hx)
        exact ⟨z, e.symm⟩
      have hi : i < ns.length := by
        have := (List.getElem?_eq_some_iff.mp hx).1
        rw [List.length_map] at this
        exact this
      refine ⟨rfl, _, rfl, 10, 18, rfl, rfl, ⟨by decide, by decide, by decide⟩, _, _, rfl, rfl, _, rfl, ?_⟩
      refine ite2 (fun _ => ?_) (fun _ => ?_)
      · refine ⟨_, rfl, 10, 18, rfl, rfl, ⟨by decide, by decide, by decide⟩, _, _, rfl, rfl, _, hg', small1000 (by rw [List.length_map]; omega), keep0 s5 hg, gs ++ [z - 10 ^ (18 : Int).toNat], by rw [List.length_append]; show gs.length + 1 ≤ i + 1; omega, ?_⟩
        rw [upd_same, List.map_append]
        rfl
      · exact ⟨s5, gs, by omega, hg'⟩
    · rintro H1 ⟨s1, gs, hgl, hg1⟩ d hd
      refine ⟨_, rfl, _, rfl, a, _, rfl, .inl (Same.seq (new_same hd) (Same.seq s1 hS)), fun c hc => ?_⟩
      have ndc : c ≠ d := fun e => by rw [e, upd_same] at hc; cases hc
      have hd2 : (upd (upd H1 d (.dK [])) c (.lst (ns.map V.int))) d = some (.dK []) := by rw [upd_ne ndc.symm, upd_same]
      refine ⟨hd2, dk g c 0 0, rfl, (by show 4 ≤ 15; decide), ?_⟩
      rw [merge_dk]
      have ngd : g ≠ d := fun e => by rw [← e, hg1] at hd; cases hd
      have hg2 : upd H1 d (.dK []) g = some (.lst (gs.map V.int)) := by rw [upd_ne ngd]; exact hg1
      have ngc : g ≠ c := fun e => by rw [← e, hg2] at hc; cases hc
      have H1d : H d = none := by
        cases e : H d with
        | none => rfl
        | some u => rw [s1 d u e] at hd; cases hd
      have H1c : H c = none := by
        cases e : H c with
        | none => rfl
        | some u => rw [new_same hd c u (s1 c u e)] at hc; cases hc
      refine k d g c _ ⟨⟨gs, 0, 0, upd_same, by rw [upd_ne ngd, upd_ne ngc]; exact hg2, by omega, by omega⟩, by rw [upd_ne ndc, upd_same], ndc, ngc.symm⟩ (fun b o e => ?_) H1d hg H1c
      rw [upd_ne (ne_of_none e H1d), upd_ne (ne_of_none e H1c), upd_ne (ne_of_none e H1d)]
      exact s1 b o e
end
end Lw

set_option Elab.async false
set_option linter.all false
set_option maxRecDepth 100000
set_option maxHeartbeats 4000000
/-! a law's own body, run by the caller that the row names: what is around it is known there -/
namespace Ge
open PySem PySem.Spec PyProof.Rows L2 Gn
/-- what is known where a law's own body runs -/
structure Bed (K : PySem.W.Frag) (mg : Str → Option Value) (base : Heap) (A : Around) : Prop where
  kin : K.In base
  glob : base.Ns mainGlobals mg
  sys : ∃ o, base.get? sysModules = some o
  gd : A.guards = some []
section
variable {P : Program} {w : World} {K : PySem.W.Frag} {mg : Str → Option Value} {base : Heap}
/-- one call of a def of the text, by its body, at one place -/
theorem call_here {x qual : Str} {st : Stmt} {f : Addr} {fd : FuncData} {N ps : List Str} {k : Nat} {A : Around} {outer : List Env} {s : Shared} {H : Hp} {vs : List V} {us : List Value} {Q : VK}
    (F : Fun K x qual st f fd) (S : FnScope N ps (defScope st)) (hr : Room (k + 1) A) (e0 : Env0 P w K mg base A outer s H) (hb : BindsTo s fd ⟨us, []⟩ (ps.zip us)) (hl : vs.length = ps.length) (r : Vals vs us)
    (body : ∀ cdv : Value, Room k (A.deeper (envOfC qual (defScope st) s.heap.objs.size f cdv)) →
      ∃ t, PSs (cxOf CX0 P w K mg base N qual (defScope st) f cdv A outer s H E0).nox (defBody st) t ∧ t { nx := fun _ H' => Q .non H', rt := Q } (start N vs) H) :
    codeAny (model P w) A (.call (.ref f) ⟨us, []⟩) (CR CX0 outer P w H s Q E0) s := by
  obtain ⟨oc, od, kV, doc, pm, an, cdv, ct, osl, rfl, lk, hcd⟩ := F.ex
  have old : ∀ b o, base.get? b = some o → s.heap.get? b = some o := fun b o e => (e0.bs b o e).1
  have KX : K.In s.heap := e0.mod.kin.keeps old
  obtain ⟨t, ht, hq⟩ := body cdv (hr.deeper _)
  refine codeAny_call_function hr.depth (KX _ _ lk) rfl S.co S.gen rfl (PySem.W.codeRec_of KX hcd) (hb _ _ _ _ ?_)
  refine wpAny_newFunctionEnv_cells S.kind (fun ⟨n, v⟩ hy => ?_) (fun env he s1 z => ?_)
  · cases S.par n (List.of_mem_zip hy).1 with
    | inl q => exact .inl q
    | inr q => exact .inr ⟨q, PySem.W.cellsFrom_some _ _ _ (.inl q)⟩
  · subst he
    refine ⟨(e0.mod.nolimit.keeps old).keeps z.toInCall.keep, codeAny_func ?_⟩
    have I : Inv (cxOf CX0 P w K mg base N qual (defScope st) f cdv A outer s H E0) [] (start N vs) H s1 := inv_start S hr.hd e0 hl r z
    refine wpAny_mono (ht.nox.run [] s1 (start N vs) H _ I hq) (fun fl s' hs => ?_) (fun e s' hs => hs)
    match fl, hs with
    | .ret u, ⟨v, σ', H', J, rv, q⟩ => exact ⟨v, H', J.os, J.bare, J.base, J.hok, rv, q⟩
    | .next, ⟨σ', H', J, q⟩ => exact ⟨.non, H', J.os, J.bare, J.base, J.hok, rfl, q⟩
    | .brk, ⟨_, _, _, q⟩ => exact q.elim
    | .cont, ⟨_, _, _, q⟩ => exact q.elim
end
/-- nothing is tracked, or the script's list alone, as a thing that is only read -/
def Hs (a : Addr) (o : Obj) (xs : List V) : Hp := fun b => if b = a then some (.frz o (.lst xs)) else none
theorem hs_at {a : Addr} {o : Obj} {xs : List V} : Hs a o xs a = some (.frz o (.lst xs)) := if_pos rfl
theorem hs_no {a b : Addr} {o : Obj} {xs : List V} (h : b ≠ a) : Hs a o xs b = none := if_neg h
def H0 : Hp := fun _ => none
section
variable {P : Program} {w : World} {K : PySem.W.Frag} {mg mb : Str → Option Value} {s₁ : Shared} {a : Addr} {vs : List Value} {ns : List Int} {st : Stmt} {N : List Str} {x : Str} {k : Nat} {fa : Addr} {fd : FuncData}
/-- the state that the row's call begins with -/
theorem env_of {H : Hp} (KX : K.In s₁.heap) (hns : s₁.heap.Ns mainGlobals mg) (hb : s₁.heap.Ns builtinsNs mb) (hbb : ∀ x : Str, x ≠ "__name__" → mb x = bootBuiltins x) (hlim : s₁.heap.NoLimit) (hsee : ∃ mm, s₁.heap.Ns sysModules mm) (hg : s₁.gens = #[])
    (ha : s₁.heap.get? a = some { cls := .type "list", data := .seq vs.toArray }) (only : ∀ b, H b ≠ none → b = a) (hka : H a ≠ none → K.lookup a = none) (hok : HOk P w H s₁.heap) :
    Env0 P w K mg (hidT s₁.heap H) callerA [] s₁ H ∧ Bed K mg (hidT s₁.heap H) callerA := by
  have free : ∀ {b : Addr}, b ≠ a → H b = none := fun {b} n => by
    cases e : H b with
    | none => rfl
    | some u => exact absurd (only b (by rw [e]; simp)) n
  have keepNs : ∀ {b : Addr} {m : Str → Option Value}, s₁.heap.Ns b m → (hidT s₁.heap H).Ns b m := fun {b m} h => by
    obtain ⟨o, es, ep, e, dd, r⟩ := h
    refine ⟨o, es, ep, hidT_get e (free fun z => ?_), dd, r⟩
    subst z
    rw [ha] at e
    cases e
    cases dd
  have kIn : K.In (hidT s₁.heap H) := fun b o e => hidT_get (KX b o e) (by
    cases q : H b with
    | none => rfl
    | some u =>
      have z := only b (by rw [q]; simp)
      subst z
      rw [hka (by rw [q]; simp)] at e
      cases e)
  obtain ⟨mc, c1, c2⟩ := hlim
  obtain ⟨mm, o, es, ep, e1, e2, e3⟩ := hsee
  have sysf : H sysModules = none := free fun z => by
    subst z
    rw [ha] at e1
    cases e1
    cases e2
  refine ⟨⟨rfl, ⟨kIn, keepNs hns, ⟨mb, keepNs hb, hbb⟩, ⟨mc, keepNs c1, c2⟩⟩, fun b o e => of_hidT e, Nat.le_of_eq (hidT_size _ _), trivial, fun b z => absurd (show b ∈ ([] : List Addr) from z) (by simp), hok, .of_eq hg⟩, kIn, keepNs hns, ⟨o, hidT_get e1 sysf⟩, rfl⟩
/-- the law's call gives True, if its body does wherever it may run -/
theorem law_true (KX : K.In s₁.heap) (hns : s₁.heap.Ns mainGlobals mg) (hb : s₁.heap.Ns builtinsNs mb) (hbb : ∀ x : Str, x ≠ "__name__" → mb x = bootBuiltins x) (hlim : s₁.heap.NoLimit) (hsee : ∃ mm, s₁.heap.Ns sysModules mm) (hg : s₁.gens = #[])
    (ha : s₁.heap.get? a = some { cls := .type "list", data := .seq vs.toArray }) (hi : IntsAre vs ns) (hl : ns.length ≤ sizeLine) (hr : Room (k + 1) callerA)
    (F : Fun K "law" "law" st fa fd) (S : FnScope N [x] (defScope st)) (hbind : ∀ (s : Shared) (u : Value), BindsTo s fd ⟨[u], []⟩ [(x, u)])
    (body : ∀ (base : Heap) (A : Around) (s : Shared) (H : Hp) (cdv : Value), Bed K mg base A → Room k (A.deeper (envOfC "law" (defScope st) s.heap.objs.size fa cdv)) → SqL K H a (ns.map V.int) →
      ∃ t, PSs (cxOf CX0 P w K mg base N "law" (defScope st) fa cdv A [] s H E0).nox (defBody st) t ∧ t { nx := fun _ _ => False, rt := fun v _ => v = .bl true } (start N [.ref a]) H) :
    codeAny (model P w) callerA (.call (.ref fa) ⟨[.ref a], []⟩) (fun r s' => r = .ok (.ret (.bool true)) ∧ OldK s₁.heap s'.heap ∧ s'.os = s₁.os ∧ AllBare s'.gens) s₁ := by
  have rv := vals_ints hi
  have lenV := hi.length
  have go : ∀ H : Hp, (∀ b, H b = none ∨ ∃ o xs, H b = some (.frz o (.lst xs))) → SqL K H a (ns.map V.int) → Env0 P w K mg (hidT s₁.heap H) callerA [] s₁ H ∧ Bed K mg (hidT s₁.heap H) callerA →
      codeAny (model P w) callerA (.call (.ref fa) ⟨[.ref a], []⟩) (fun r s' => r = .ok (.ret (.bool true)) ∧ OldK s₁.heap s'.heap ∧ s'.os = s₁.os ∧ AllBare s'.gens) s₁ := by
    rintro H hO hS ⟨e0, B⟩
    have hok := e0.hok
    refine codeAny_mono (call_here (Q := fun v _ => v = .bl true) (vs := [.ref a]) (us := [.ref a]) F S hr e0 (hbind s₁ (.ref a)) rfl (.cons rfl .nil) fun cdv hr' => ?_) fun r s' h => ?_
    · obtain ⟨t, h1, h2⟩ := body (hidT s₁.heap H) callerA s₁ H cdv B hr' hS
      refine ⟨t, ⟨fun pins s0 σ H1 D I z => ?_⟩, ?_⟩
      · exact h1.run pins s0 σ H1 D I z
      · exact (show t { nx := fun _ _ => V.non = V.bl true, rt := fun v _ => v = V.bl true } (start N [.ref a]) H from by
          have e : (fun (_ : L2.St) (_ : Hp) => V.non = V.bl true) = fun _ _ => False := by funext _ _; simp
          rw [e]; exact h2)
    · match r, h with
      | .error e, h => exact False.elim h
      | .ok .next, h => exact False.elim h
      | .ok .brk, h => exact False.elim h
      | .ok .cont, h => exact False.elim h
      | .ok (.ret u), ⟨v, H', os, bare, un, hok', r', q⟩ =>
        subst q
        obtain rfl : u = Value.bool true := r'
        refine ⟨rfl, OldK.of_keep fun b o e => ?_, os, bare⟩
        rcases hO b with z | ⟨ob, xs, z⟩
        · exact un.keep b o e z (by intro m; exact absurd (show b ∈ ([] : List Addr) from m) (by simp)) (by simp)
        · obtain ⟨e1, _⟩ := hok b _ z
          obtain ⟨e2, _⟩ := hok' b _ (un.frzs b ob _ z)
          rw [e] at e1
          cases e1
          exact e2
  cases hk : K.lookup a with
  | some o =>
    have e := KX a o hk
    rw [ha] at e
    cases e
    refine go H0 (fun _ => .inl rfl) (.inr ⟨_, vs.toArray, _, hk, rfl, rfl, rfl, ?_, ?_⟩) (env_of KX hns hb hbb hlim hsee hg ha (fun b z => absurd rfl z) (fun z => absurd rfl z) fun b u z => nomatch (show (none : Option HO) = some u from z))
    · rw [List.size_toArray, lenV]
      exact hl
    · simpa using rv
  | none =>
    refine go (Hs a { cls := .type "list", data := .seq vs.toArray } (ns.map V.int)) (fun b => ?_) (.inl (.inr ⟨_, hs_at⟩)) (env_of KX hns hb hbb hlim hsee hg ha (fun b z => ?_) (fun _ => hk) fun b u z => ?_)
    · by_cases n : b = a
      · subst n
        exact .inr ⟨_, _, hs_at⟩
      · exact .inl (hs_no n)
    · by_cases n : b = a
      · exact n
      · exact absurd (hs_no n) z
    · by_cases n : b = a
      · subst n
        cases hs_at.symm.trans z
        exact ⟨ha, by rw [List.length_map]; exact hl, vs, _, rv, ha⟩
      · cases (hs_no n).symm.trans z
end
open PySem.W in
/-- the goal that the head leaves -/
theorem walk_law {l : PySem.W.OpenLaw} {n k : Nat} {q : Program} {loose : List Str} {XP : (Str → Option Value) → Heap → Prop} {YP : World → Heap → Prop} {d : DefRec} {K : Params → PySem.W.Frag} {x : Str} {st : Stmt} {N : List Str}
    (hn : l.most = some n) (hn2 : n ≤ sizeLine) (hdf : d.params.defaults = []) (hr : Room (k + 1) callerA) (hi : importsNone q = true) (S : FnScope N [x] (defScope st))
    (hY : ∀ (w : World) (h : Heap), YP w h → (K w.params).In h)
    (F : ∀ (w : World) (mg : Str → Option Value) (fa : Addr) (h : Heap), (K w.params).In h → h.Ns mainGlobals mg → mg d.name = some (.ref fa) →
      ∃ fd : FuncData, Fun (K w.params) "law" "law" st fa fd ∧ (∀ (s : Shared) (u : Value), BindsTo s fd ⟨[u], []⟩ [(x, u)]) ∧
        ∀ (base : Heap) (A : Around) (s : Shared) (H : Hp) (cdv : Value) (a : Addr) (ns : List Int), ns.length ≤ n → Bed (K w.params) mg base A → Room k (A.deeper (envOfC "law" (defScope st) s.heap.objs.size fa cdv)) → SqL (K w.params) H a (ns.map V.int) →
          ∃ t, PSs (cxOf CX0 l.prog w (K w.params) mg base N "law" (defScope st) fa cdv A [] s H E0).nox (defBody st) t ∧ t { nx := fun _ _ => False, rt := fun v _ => v = .bl true } (start N [.ref a]) H) :
    PySem.W.WalkO q loose XP YP l.row.toRowW d [] (fun f vs => PySem.call f vs) := by
  refine Att.attach_call hn hdf fun w s₀ s₁ mg mb fa o pm cd doc a vs ns G Y ho hd hcd hmg hobj hints hlen hg => ?_
  have KX := hY w _ Y
  obtain ⟨fd, F1, F2, F3⟩ := F w mg fa _ KX G.T.g hmg
  obtain ⟨mm, z, _⟩ := (G.T.seer hi).mods
  exact law_true KX G.T.g G.T.b G.T.builtins G.T.nolimit ⟨mm, z⟩ hg hobj hints (Nat.le_trans hlen hn2) hr F1 S F2 fun base A s H cdv B hr' hS => F3 base A s H cdv a ns hlen B hr' hS
end Ge

set_option Elab.async false
set_option linter.all false
set_option maxRecDepth 100000
set_option maxHeartbeats 4000000
/-! data that stand in the heap, dicts too; what repr says of them -/
namespace Gr
open PySem PySem.Spec PyProof.Rows L2 Gn
def keyD : Key → PyData
  | .inl i => .int i
  | .inr x => .str x
mutual
inductive Dr (H : Hp) : V → PyData → Prop
  | non : Dr H .non .none
  | bl (b : Bool) : Dr H (.bl b) (.bool b)
  | int (i : Int) : Dr H (.int i) (.int i)
  | str (x : Str) : Dr H (.str x) (.str x)
  | lst {a : Addr} {xs : List V} {ds : List PyData} : H a = some (.lst xs) → DrAll H xs ds → Dr H (.ref a) (.list ds)
  | tup {a : Addr} {xs : List V} {ds : List PyData} : H a = some (.tup xs) → DrAll H xs ds → Dr H (.ref a) (.tuple ds)
  | dct {a : Addr} {kvs : List (Key × V)} {ds : List (PyData × PyData)} : H a = some (.dK kvs) → DrKv H kvs ds → Dr H (.ref a) (.dict ds)
inductive DrAll (H : Hp) : List V → List PyData → Prop
  | nil : DrAll H [] []
  | cons {v : V} {vs : List V} {d : PyData} {ds : List PyData} : Dr H v d → DrAll H vs ds → DrAll H (v :: vs) (d :: ds)
inductive DrKv (H : Hp) : List (Key × V) → List (PyData × PyData) → Prop
  | nil : DrKv H [] []
  | cons {k : Key} {v : V} {kvs : List (Key × V)} {d : PyData} {ds : List (PyData × PyData)} : Dr H v d → DrKv H kvs ds → DrKv H ((k, v) :: kvs) ((keyD k, d) :: ds)
end
section
variable {H H' : Hp}
mutual
theorem Dr.mono (s : ∀ a o, H a = some o → H' a = some o) : ∀ (d : PyData) (v : V), Dr H v d → Dr H' v d
  | .none, _, h => by cases h; exact .non
  | .bool b, _, h => by cases h; exact .bl b
  | .int i, _, h => by cases h; exact .int i
  | .str x, _, h => by cases h; exact .str x
  | .list ds, _, h => by
    cases h with
    | lst e r => exact .lst (s _ _ e) (DrAll.mono s ds _ r)
  | .tuple ds, _, h => by
    cases h with
    | tup e r => exact .tup (s _ _ e) (DrAll.mono s ds _ r)
  | .dict ds, _, h => by
    cases h with
    | dct e r => exact .dct (s _ _ e) (DrKv.mono s ds _ r)
theorem DrAll.mono (s : ∀ a o, H a = some o → H' a = some o) : ∀ (ds : List PyData) (vs : List V), DrAll H vs ds → DrAll H' vs ds
  | [], _, h => by cases h; exact .nil
  | d :: ds, _, h => by
    cases h with
    | cons e r => exact .cons (Dr.mono s d _ e) (DrAll.mono s ds _ r)
theorem DrKv.mono (s : ∀ a o, H a = some o → H' a = some o) : ∀ (ds : List (PyData × PyData)) (vs : List (Key × V)), DrKv H vs ds → DrKv H' vs ds
  | [], _, h => by cases h; exact .nil
  | (k, d) :: ds, _, h => by
    cases h with
    | cons e r => exact .cons (Dr.mono s d _ e) (DrKv.mono s ds _ r)
end
theorem DrAll.snoc : ∀ {vs : List V} {ds : List PyData} {v : V} {d : PyData}, DrAll H vs ds → Dr H v d → DrAll H (vs ++ [v]) (ds ++ [d])
  | [], _, _, _, .nil, h => .cons h .nil
  | _ :: _, _, _, _, .cons e r, h => .cons e (DrAll.snoc r h)
theorem DrAll.length : ∀ {vs : List V} {ds : List PyData}, DrAll H vs ds → vs.length = ds.length
  | _, _, .nil => rfl
  | _, _, .cons _ r => by rw [List.length_cons, List.length_cons, DrAll.length r]
end
section
variable {X : Cx} {pins : List (Addr × Obj)} {σ : L2.St} {H : Hp} {s : Shared}
theorem rel_key {k : Key} {u : Value} (h : keyIs k u = true) {s : Heap} : Reads s u (keyD k) [] := by
  rcases keyIs_shape h with ⟨i, t, rfl, rfl⟩ | ⟨x, t, rfl, rfl⟩
  · exact .int i t
  · exact .str x t
theorem keys_read {h : Heap} {P : Program} {w : World} : ∀ (ds : List (PyData × PyData)) (kvs : List (Key × V)) (vs : List (Key × Value)) (es : List DictEntry), DrKv H kvs ds → KV kvs vs → Pairs (mixKind P w) es vs →
    ∃ as, ReadsAll h (es.map (·.key)) (ds.map (·.1)) as ∧ sysModules ∉ as
  | [], _, _, _, e, r, p => by
    cases e
    cases r
    cases p
    exact ⟨_, ReadsAll.nil, by simp⟩
  | (k, d) :: ds, _, _, _, e, r, p => by
    cases e with
    | cons h1 h2 =>
      cases r with
      | cons r1 r2 =>
        cases p with
        | cons p1 p2 p3 =>
          obtain ⟨bs, q2, n2⟩ := keys_read (h := h) ds _ _ _ h2 r2 p3
          obtain ⟨r3, _⟩ := r1
          rw [← r3] at p1
          exact ⟨_, ReadsAll.cons (rel_key p1) q2, fun m => n2 m⟩
theorem not_sys (I : Inv X pins σ H s) (hs : ∃ o, X.base.get? sysModules = some o) {a : Addr} {o : HO} (h : H a = some o) : sysModules ≠ a := fun e => by
  obtain ⟨ob, hob⟩ := hs
  have n := (I.bs _ _ hob).2
  rw [e, h] at n
  cases n
mutual
theorem Dr.reads (I : Inv X pins σ H s) (hs : ∃ o, X.base.get? sysModules = some o) : ∀ (d : PyData) (v : V) (u : Value), Dr H v d → RelV v u → ∃ as, Reads s.heap u d as ∧ sysModules ∉ as
  | .none, _, _, h, r => by
    cases h
    cases r
    exact ⟨_, Reads.none, by simp⟩
  | .bool b, _, _, h, r => by
    cases h
    cases r
    exact ⟨_, Reads.bool b, by simp⟩
  | .int i, _, _, h, r => by
    cases h
    obtain ⟨t, rfl⟩ := r
    exact ⟨_, Reads.int i t, by simp⟩
  | .str x, _, _, h, r => by
    cases h
    obtain ⟨t, rfl⟩ := r
    exact ⟨_, Reads.str x t, by simp⟩
  | .list ds, _, _, h, r => by
    cases h with
    | lst e ha =>
      cases r
      obtain ⟨its, rv, ⟨o, n, ho, hc, _, hd⟩, _⟩ := I.list (SqL.of e)
      obtain ⟨as, hr, hn⟩ := DrAll.reads I hs ds _ its ha rv
      exact ⟨_, Reads.list ho hc hd hr, fun m => by
        rcases List.mem_cons.mp m with z | z
        · exact not_sys I hs e z
        · exact hn z⟩
  | .tuple ds, _, _, h, r => by
    cases h with
    | tup e ha =>
      cases r
      obtain ⟨its, rv, ⟨o, ho, hc, n, hd⟩, _⟩ := I.tuple (SqT.of e)
      obtain ⟨as, hr, hn⟩ := DrAll.reads I hs ds _ its ha rv
      exact ⟨_, Reads.tuple ho hc hd hr, hn⟩
  | .dict ds, _, _, h, r => by
    cases h with
    | @dct a kvs _ e ha =>
      cases r
      obtain ⟨_, _, vs, kv, o, es, ep, ho, hx, hdt, _, ps, _⟩ := (show ObjOk X.prog X.w H s.heap a (.dK kvs) from I.hok a _ e)
      obtain ⟨as, hr, hn⟩ := DrKv.reads I hs ds kvs vs es.toList ha kv ps
      obtain ⟨bs, q1, q2⟩ := keys_read (h := s.heap) ds kvs vs es.toList ha kv ps
      exact ⟨_, Reads.dict ho hx.1 hdt q1 hr, fun m => by
        rcases List.mem_append.mp m with z | z
        · rcases List.mem_cons.mp z with z | z
          · exact not_sys I hs e z
          · exact q2 z
        · exact hn z⟩
theorem DrAll.reads (I : Inv X pins σ H s) (hs : ∃ o, X.base.get? sysModules = some o) : ∀ (ds : List PyData) (vs : List V) (us : List Value), DrAll H vs ds → Vals vs us → ∃ as, ReadsAll s.heap us ds as ∧ sysModules ∉ as
  | [], _, _, h, r => by
    cases h
    cases r
    exact ⟨_, ReadsAll.nil, by simp⟩
  | d :: ds, _, _, h, r => by
    cases h with
    | cons h1 h2 =>
      cases r with
      | cons r1 r2 =>
        obtain ⟨as, q1, n1⟩ := Dr.reads I hs d _ _ h1 r1
        obtain ⟨bs, q2, n2⟩ := DrAll.reads I hs ds _ _ h2 r2
        exact ⟨_, ReadsAll.cons q1 q2, fun m => (List.mem_append.mp m).elim n1 n2⟩
theorem DrKv.reads (I : Inv X pins σ H s) (hs : ∃ o, X.base.get? sysModules = some o) : ∀ (ds : List (PyData × PyData)) (kvs : List (Key × V)) (vs : List (Key × Value)) (es : List DictEntry), DrKv H kvs ds → KV kvs vs → Pairs (mixKind X.prog X.w) es vs →
    ∃ as, ReadsAll s.heap (es.map (·.val)) (ds.map (·.2)) as ∧ sysModules ∉ as
  | [], _, _, _, h, r, p => by
    cases h
    cases r
    cases p
    exact ⟨_, ReadsAll.nil, by simp⟩
  | (k, d) :: ds, _, _, _, h, r, p => by
    cases h with
    | cons h1 h2 =>
      cases r with
      | cons r1 r2 =>
        cases p with
        | cons p1 p2 p3 =>
          obtain ⟨as, q1, n1⟩ := Dr.reads I hs d _ _ h1 r1.2
          obtain ⟨bs, q2, n2⟩ := DrKv.reads I hs ds _ _ _ h2 r2 p3
          rw [← p2] at q1
          exact ⟨_, ReadsAll.cons q1 q2, fun m => (List.mem_append.mp m).elim n1 n2⟩
end
end
/-- repr(v), v any data -/
def rRepr : List V → Hp → VK → Prop := fun xs H Q => ∃ v d, xs = [v] ∧ Dr H v d ∧ d.showable = true ∧ d.depth ≤ 60 ∧ d.shown.length ≤ sizeLine ∧ Q (.str d.shown) H
theorem call_repr {X : Cx} (hg : X.A.guards = some []) (hu : X.A.units + 64 < cLine) (hs : ∃ o, X.base.get? sysModules = some o) : CallR X (.builtin "repr") rRepr := by
  intro pins s σ H xs us Q I r h
  obtain ⟨v, d, rfl, hd, sh, dp, sz, q⟩ := h
  obtain ⟨u, rfl, ru⟩ := vals1 r
  have fin : ∀ h' tk uk, (∀ b o, s.heap.get? b = some o → h'.get? b = some o) → EP X pins σ Q (.str d.shown uk) { s with heap := h', toks := tk } := fun h' tk uk k => ⟨.str d.shown, H, I.kept k, ⟨uk, rfl⟩, q⟩
  obtain ⟨as, hr, hn⟩ := Dr.reads I hs d v u hd ru
  cases hr with
  | none => exact PySem.P.repr_of_none (by have e := fin s.heap (s.toks + 1) s.toks (fun _ _ e => e); simpa only [PyData.shown] using e)
  | bool b => exact PySem.P.repr_of_bool (by have e := fin s.heap (s.toks + 1) s.toks (fun _ _ e => e); simpa only [PyData.shown] using e)
  | int i t => exact PySem.P.repr_of_int (by simpa [PyData.showable] using sh) (by have e := fin s.heap (s.toks + 1) s.toks (fun _ _ e => e); simpa only [PyData.shown] using e)
  | str x t => exact PySem.P.repr_of_str (by have e := fin s.heap (s.toks + 1) s.toks (fun _ _ e => e); simpa only [PyData.shown] using e) (by simpa only [PyData.shown] using sz)
  | list h1 h2 h3 h4 => exact repr_of_reads' (Reads.list h1 h2 h3 h4) sh (fun _ => hn) hg (by omega) (fun _ _ e => e) (fun h' u tk k => fin h' tk u k) sz
  | tuple h1 h2 h3 h4 => exact repr_of_reads' (Reads.tuple h1 h2 h3 h4) sh (fun _ => hn) hg (by omega) (fun _ _ e => e) (fun h' u tk k => fin h' tk u k) sz
  | dict h1 h2 h3 h4 h5 => exact repr_of_reads' (Reads.dict h1 h2 h3 h4 h5) sh (fun _ => hn) hg (by omega) (fun _ _ e => e) (fun h' u tk k => fin h' tk u k) sz
end Gr

set_option Elab.async false
set_option linter.all false
set_option maxRecDepth 100000
set_option maxHeartbeats 4000000
/-! more rules and words -/
namespace Gk
open PySem PySem.Spec PyProof.Rows L2 Gn Gr
section
variable {X : Cx} {CX : CXT} {k : Nat} {f : Addr} {fd : FuncData} {ps ks : List Str} {sp : Sp} {E : XK} {x : Str} {p pos : Pos} {kws : List Keyword} {tk : TA} {g : List Value → List Value → List Value} {gV : List V → List V → List V}
/-- f(k = v, ..) -/
theorem pe_kw (F : FnOk X.prog X.w X.K X.mg X.base CX k f fd ps sp) (hr : Room k X.A) (hg : Gl X x) (hm : X.mg x = some (.ref f)) (hk : PySem.W.keepIn X.K (.ref f) = true) (hb : KBinds X.K fd ps ks g gV) (hx : Passes CX X E) (hkw : PK X kws tk)
    (hall : (backToKw pos (keywordEach kws X.env)).all (·.1.isSome) = true := by rfl) (hks : (backToKw pos (keywordEach kws X.env)).filterMap (·.1) = ks := by rfl) (hdb : (x == ("__debug__" : Str)) = false := by decide)
    (hpl : ((backTo pos (starEach [] X.env)).any (·.1) || (backToKw pos (keywordEach kws X.env)).any (·.1.isNone)) = false := by rfl) :
    PE X (.Call (.Name x p) [] kws pos) (tCallK sp gV E tNil tk) := by
  refine ⟨fun pins s σ H Q I h => ?_⟩
  refine wpAny_Call_Name_kw (ld_glob I hg hm ?_ hdb)
  refine PySem.W.callWith_KW0 (h₀ := X.base) I.ok.mod.kin hk hall ?_ hpl
  refine thn (hkw.run pos pins s σ H _ I h) fun ws s2 ⟨zs, H2, I2, rz, q2⟩ => ⟨I2.kIn, ?_⟩
  rw [hks]
  exact run_fnk (us := []) (vs := []) F hr hb hx I2 .nil rz q2
/-- one parameter, given by its name or its place -/
theorem kb_one {K : PySem.W.Frag} {y : Str} (b : ∀ (s : Shared) (w : Value), BindsTo s fd ⟨[], [(y, w)]⟩ [(y, w)]) (b' : ∀ (s : Shared) (w : Value), BindsTo s fd ⟨[w], []⟩ [(y, w)]) : KBinds K fd [y] [y] (fun us ws => us ++ ws) (fun vs zs => vs ++ zs) := by
  refine ⟨fun s us ws _ hl => ?_, fun r q => Vals.append r q⟩
  match us, ws, hl with
  | [], [w], _ => exact b s w
  | [w], [], _ => exact b' s w
  | [], [], hl => exact absurd hl (by simp)
  | [], _ :: _ :: _, hl => exact absurd hl (by simp)
  | [_], _ :: _, hl => exact absurd hl (by simp)
  | _ :: _ :: _, _, hl => exact absurd hl (by simp)
end
/-- no test in a comprehension -/
theorem yes_of {σ : L2.St} {H : Hp} {A B : Hp → Prop} (h : A H) : tYes σ H (fun b H3 => if b = true then A H3 else B H3) := by
  show if true = true then A H else B H
  rw [if_pos rfl]
  exact h
/-! ## texts of signs below 128 -/
def Asc (n : Nat) (x : Str) : Prop := x.length ≤ n ∧ ∀ c ∈ x.cps.toList, c < 128
theorem len_cps (x : Str) : x.cps.toList.length = x.length := by simp [Str.length]
theorem cps_app (x y : Str) : (x ++ y).cps.toList = x.cps.toList ++ y.cps.toList := by
  show (x.cps ++ y.cps).toList = _
  simp
theorem Asc.app {n m : Nat} {x y : Str} (h : Asc n x) (k : Asc m y) : Asc (n + m) (x ++ y) := by
  refine ⟨by rw [strLen_append]; have := h.1; have := k.1; omega, fun c hc => ?_⟩
  rw [cps_app] at hc
  exact (List.mem_append.mp hc).elim (h.2 c) (k.2 c)
theorem Asc.mono {n m : Nat} {x : Str} (h : Asc n x) (k : n ≤ m) : Asc m x := ⟨Nat.le_trans h.1 k, h.2⟩
theorem Asc.one {c : Nat} (h : c < 128) : Asc 1 (⟨#[c]⟩ : Str) := ⟨Nat.le_refl _, fun b hb => by
  have : b = c := by simpa using hb
  omega⟩
theorem Asc.cut {n : Nat} {x : Str} (h : Asc n x) (lo hi : Option Int) : Asc n (cutS x lo hi) := by
  have e : (cutS x lo hi).cps.toList = (x.cps.toList.drop (HT.sIx x.length 0 lo)).take (HT.sIx x.length x.length hi - HT.sIx x.length 0 lo) := by
    unfold cutS
    simp
  refine ⟨?_, fun c hc => ?_⟩
  · rw [← len_cps, e, List.length_take, List.length_drop, len_cps]
    have := h.1
    omega
  · rw [e] at hc
    exact h.2 c (List.mem_of_mem_drop (List.mem_of_mem_take hc))
theorem Asc.ok {n : Nat} {x : Str} (h : Asc n x) : PyData.strOk x = true := by
  unfold PyData.strOk
  rw [Array.all_eq_true']
  intro c hc
  have := h.2 c (by simpa using hc)
  simp only [decide_eq_true_eq]
  omega
theorem Asc.shown {n : Nat} {x : Str} (h : Asc n x) : (reprText x).length ≤ 10 * n + 2 := by
  have := PySem.StrLaws.reprText_len x fun c hc => Nat.lt_of_lt_of_le (h.2 c hc) (by decide)
  have := h.1
  omega
/-! ## what is new since -/
def Nw (H H' : Hp) : Hp := fun a => match H a with | none => H' a | some _ => none
section
variable {H H' H2 : Hp} {a : Addr} {o : HO}
theorem nw_of (h : Nw H H' a = some o) : H a = none ∧ H' a = some o := by
  unfold Nw at h
  cases e : H a with
  | none => rw [e] at h; exact ⟨rfl, h⟩
  | some u => rw [e] at h; cases h
theorem nw_to (h : H a = none) (k : H' a = some o) : Nw H H' a = some o := by
  unfold Nw
  rw [h]
  exact k
theorem nw_sub : ∀ a o, Nw H H' a = some o → H' a = some o := fun a o h => (nw_of h).2
end
/-! ## numbers as texts -/
theorem shown_int {i : Int} (h : i.natAbs < 10 ^ 20) : (PyData.int i).showable = true ∧ (PyData.int i).shown.length ≤ 21 := by
  constructor
  · simp only [PyData.showable, decide_eq_true_eq]
    by_cases z : i.natAbs = 0
    · rw [z]; decide
    · refine (Nat.log2_lt z).mpr (Nat.lt_trans h ?_)
      decide +kernel
  · simp only [PyData.shown]
    show (Str.ofString (toString i)).length ≤ 21
    rw [PySem.ofString_length]
    exact int_text_length_le10 (by decide) h
/-! ## how much a value's text may hold -/
def Ok (n : Nat) (x : PyData) : Prop := x.showable = true ∧ x.depth ≤ n ∧ x.shown.length ≤ 200 * 4 ^ n
theorem pow_pos4 (n : Nat) : 1 ≤ 4 ^ n := Nat.pow_pos (by decide)
theorem pow_le4 {n m : Nat} (h : n ≤ m) : 4 ^ n ≤ 4 ^ m := Nat.pow_le_pow_right (by decide) h
theorem pow_s4 (n : Nat) : 4 ^ (n + 1) = 4 * 4 ^ n := by rw [Nat.pow_succ, Nat.mul_comm]
theorem Ok.mono {n m : Nat} {x : PyData} (h : Ok n x) (k : n ≤ m) : Ok m x :=
  ⟨h.1, Nat.le_trans h.2.1 k, Nat.le_trans h.2.2 (Nat.mul_le_mul_left _ (pow_le4 k))⟩
theorem Ok.flat {n : Nat} {x : PyData} (h1 : x.showable = true) (h2 : x.depth = 0) (h3 : x.shown.length ≤ 200) : Ok n x := by
  have := pow_pos4 n
  exact ⟨h1, by omega, by omega⟩
theorem ok_str {n : Nat} {x : Str} (h : Asc 19 x) : Ok n (.str x) := by
  have := h.shown
  refine Ok.flat (by simp only [PyData.showable]) (by simp only [PyData.depth]) ?_
  simp only [PyData.shown]
  omega
theorem ok_int {n : Nat} {i : Int} (h : i.natAbs < 10 ^ 20) : Ok n (.int i) := by
  obtain ⟨a, b⟩ := shown_int h
  exact Ok.flat a (by simp only [PyData.depth]) (by omega)
theorem ok_all {n : Nat} : ∀ {ds : List PyData}, (∀ x ∈ ds, Ok n x) → PyData.showableAll ds = true ∧ PyData.depthAll ds ≤ n ∧ (PyData.shownAll ds).length = ds.length ∧ ((PyData.shownAll ds).map (·.length)).sum ≤ ds.length * (200 * 4 ^ n)
  | [], _ => by
    refine ⟨by simp only [PyData.showableAll], by simp only [PyData.depthAll]; omega, by simp only [PyData.shownAll]; rfl, by simp only [PyData.shownAll]; simp⟩
  | x :: r, h => by
    obtain ⟨a1, a2, a3⟩ := h x (List.mem_cons_self ..)
    obtain ⟨b1, b2, b3, b4⟩ := ok_all (ds := r) fun y hy => h y (List.mem_cons_of_mem _ hy)
    refine ⟨?_, ?_, ?_, ?_⟩
    · simp only [PyData.showableAll, a1, b1, Bool.and_self]
    · simp only [PyData.depthAll]
      omega
    · simp only [PyData.shownAll, List.length_cons, b3]
    · simp only [PyData.shownAll, List.map_cons, List.sum_cons, List.length_cons]
      rw [Nat.succ_mul]
      omega
theorem two_mul {k n : Nat} (h : k ≤ 2) : k * (200 * 4 ^ n) ≤ 2 * (200 * 4 ^ n) := Nat.mul_le_mul_right _ h
theorem ok_list {n : Nat} {ds : List PyData} (h : ∀ x ∈ ds, Ok n x) (h2 : ds.length ≤ 2) : Ok (n + 1) (.list ds) := by
  obtain ⟨b1, b2, b3, b4⟩ := ok_all h
  have := listText_len_le (PyData.shownAll ds)
  have := two_mul (n := n) h2
  have := pow_pos4 n
  refine ⟨by simp only [PyData.showable, b1], by simp only [PyData.depth]; omega, ?_⟩
  simp only [PyData.shown]
  rw [pow_s4]
  omega
theorem ok_tuple {n : Nat} {ds : List PyData} (h : ∀ x ∈ ds, Ok n x) (h2 : ds.length ≤ 2) : Ok (n + 1) (.tuple ds) := by
  obtain ⟨b1, b2, b3, b4⟩ := ok_all h
  have := tupleText_len_le (PyData.shownAll ds)
  have := two_mul (n := n) h2
  have := pow_pos4 n
  refine ⟨by simp only [PyData.showable, b1], by simp only [PyData.depth]; omega, ?_⟩
  simp only [PyData.shown]
  rw [pow_s4]
  omega
theorem ok_kvs {n : Nat} : ∀ {ds : List (PyData × PyData)}, (∀ p ∈ ds, (∃ x, p.1 = .str x ∧ Asc 19 x) ∧ Ok n p.2) → PyData.showableKv ds = true ∧ PyData.depthKv ds ≤ n ∧ (PyData.shownKv ds).length = ds.length ∧ ((PyData.shownKv ds).map (·.length)).sum ≤ ds.length * (194 + 200 * 4 ^ n)
  | [], _ => by
    refine ⟨by simp only [PyData.showableKv], by simp only [PyData.depthKv]; omega, by simp only [PyData.shownKv]; rfl, by simp only [PyData.shownKv]; simp⟩
  | (kx, x) :: r, h => by
    obtain ⟨⟨y, e, hy⟩, a1, a2, a3⟩ := h (kx, x) (List.mem_cons_self ..)
    obtain ⟨b1, b2, b3, b4⟩ := ok_kvs (ds := r) fun y hy => h y (List.mem_cons_of_mem _ hy)
    have e : kx = .str y := e
    subst e
    have a1 : x.showable = true := a1
    have a2 : x.depth ≤ n := a2
    have a3 : x.shown.length ≤ 200 * 4 ^ n := a3
    have hy' := hy.shown
    refine ⟨?_, ?_, ?_, ?_⟩
    · simp only [PyData.showableKv, PyData.showable, a1, b1, Bool.and_self]
    · simp only [PyData.depthKv, PyData.depth]
      omega
    · simp only [PyData.shownKv, List.length_cons, b3]
    · simp only [PyData.shownKv, List.map_cons, List.sum_cons, List.length_cons, PyData.shown]
      rw [strLen_append, strLen_append, Nat.succ_mul]
      have e2 : ((": " : String) : Str).length = 2 := rfl
      omega
theorem ok_dict {n : Nat} {ds : List (PyData × PyData)} (h : ∀ p ∈ ds, (∃ x, p.1 = .str x ∧ Asc 19 x) ∧ Ok n p.2) (h2 : ds.length ≤ 2) : Ok (n + 1) (.dict ds) := by
  obtain ⟨b1, b2, b3, b4⟩ := ok_kvs h
  have := dictText_len_le (PyData.shownKv ds)
  have : ds.length * (194 + 200 * 4 ^ n) ≤ 2 * (194 + 200 * 4 ^ n) := Nat.mul_le_mul_right _ h2
  have := pow_pos4 n
  refine ⟨by simp only [PyData.showable, b1], by simp only [PyData.depth]; omega, ?_⟩
  simp only [PyData.shown]
  rw [pow_s4]
  omega
/-! ## keys '0', '1', .. -/
def tagS (n : Nat) : Str := ((toString (n : Int) : String) : Str)
def tags : Nat → List V → List (Key × V)
  | _, [] => []
  | n, v :: r => ((Sum.inr (tagS n) : Key), v) :: tags (n + 1) r
def tagD : Nat → List PyData → List (PyData × PyData)
  | _, [] => []
  | n, d :: r => (.str (tagS n), d) :: tagD (n + 1) r
theorem tags_snoc : ∀ (vs : List V) (n : Nat) (v : V), tags n (vs ++ [v]) = tags n vs ++ [((Sum.inr (tagS (n + vs.length)) : Key), v)]
  | [], n, v => rfl
  | w :: r, n, v => by
    have e : n + 1 + r.length = n + (w :: r).length := by rw [List.length_cons]; omega
    show (_, w) :: tags (n + 1) (r ++ [v]) = (_, w) :: (tags (n + 1) r ++ _)
    rw [tags_snoc r (n + 1) v, e]
theorem tags_dr {H : Hp} : ∀ {vs : List V} {ds : List PyData} (n : Nat), DrAll H vs ds → DrKv H (tags n vs) (tagD n ds)
  | _, _, _, .nil => .nil
  | _, _, n, .cons e r => .cons e (tags_dr (n + 1) r)
theorem tagD_len : ∀ (ds : List PyData) (n : Nat), (tagD n ds).length = ds.length
  | [], _ => rfl
  | _ :: r, n => by show (tagD (n + 1) r).length + 1 = r.length + 1; rw [tagD_len r]
theorem tag_asc {n : Nat} (h : n < 10) : Asc 19 (tagS n) := by
  have : n = 0 ∨ n = 1 ∨ n = 2 ∨ n = 3 ∨ n = 4 ∨ n = 5 ∨ n = 6 ∨ n = 7 ∨ n = 8 ∨ n = 9 := by omega
  rcases this with rfl | rfl | rfl | rfl | rfl | rfl | rfl | rfl | rfl | rfl <;> exact ⟨by decide +kernel, by decide +kernel⟩
theorem tagD_ok {m : Nat} : ∀ {ds : List PyData} (n : Nat), n + ds.length ≤ 9 → (∀ x ∈ ds, Ok m x) → ∀ p ∈ tagD n ds, (∃ x, p.1 = .str x ∧ Asc 19 x) ∧ Ok m p.2
  | [], _, _, _, p, hp => by cases hp
  | d :: r, n, hn, h, p, hp => by
    rw [List.length_cons] at hn
    rcases List.mem_cons.mp hp with e | hp
    · subst e
      exact ⟨⟨_, rfl, tag_asc (by omega)⟩, h d (List.mem_cons_self ..)⟩
    · exact tagD_ok (n + 1) (by omega) (fun x hx => h x (List.mem_cons_of_mem _ hx)) p hp
theorem tags_merge {vs : List V} (h : vs.length ≤ 2) : mergeK [] (tags 0 vs) = tags 0 vs := by
  match vs, h with
  | [], _ => rfl
  | [a], _ => rfl
  | [a, b], _ =>
    have n01 : ¬ (Sum.inr (tagS 0) : Key) = Sum.inr (tagS 1) := by decide +kernel
    show putK (putK [] (Sum.inr (tagS 0) : Key) a) (Sum.inr (tagS 1) : Key) b = [((Sum.inr (tagS 0) : Key), a), ((Sum.inr (tagS 1) : Key), b)]
    have e1 : putK [] (Sum.inr (tagS 0) : Key) a = [((Sum.inr (tagS 0) : Key), a)] := rfl
    rw [e1]
    exact putK_new b ((valV_neg n01).trans valV_nil)
/-- .. and a text is made of signs below 128 -/
def OkT (n : Nat) (x : PyData) : Prop := Ok n x ∧ ∀ s, x = .str s → Asc 19 s
theorem okT_of {n : Nat} {x : PyData} (h : Ok n x) (k : ∀ s, x ≠ .str s) : OkT n x := ⟨h, fun s e => absurd e (k s)⟩
theorem okT_str {n : Nat} {x : Str} (h : Asc 19 x) : OkT n (.str x) := ⟨ok_str h, fun s e => by cases e; exact h⟩
/-! ## the type of a value -/
def Ext (H H' : Hp) : Prop := ∀ a o, H a = some o → H' a = some o
theorem Ext.refl {H : Hp} : Ext H H := fun _ _ e => e
theorem Ext.trans {H H' H2 : Hp} (h : Ext H H') (k : Ext H' H2) : Ext H H2 := fun a o e => k a o (h a o e)
theorem Ext.new {H : Hp} {p : Addr} {o : HO} (h : H p = none) : Ext H (upd H p o) := fun a u e => new_same h a u e
inductive TyT (H : Hp) : V → String → Prop
  | non : TyT H .non "NoneType"
  | bl (b : Bool) : TyT H (.bl b) "bool"
  | int (i : Int) : TyT H (.int i) "int"
  | str (x : Str) : TyT H (.str x) "str"
  | lst {a : Addr} {xs : List V} : H a = some (.lst xs) → TyT H (.ref a) "list"
  | tup {a : Addr} {xs : List V} : H a = some (.tup xs) → TyT H (.ref a) "tuple"
  | dct {a : Addr} {kvs : List (Key × V)} : H a = some (.dK kvs) → TyT H (.ref a) "dict"
theorem TyT.x {K : PySem.W.Frag} {H : Hp} {v : V} {T : String} (h : TyT H v T) : TyX K H v (.type T) := by
  cases h with
  | non => exact .base .non
  | bl b => exact .base (.bl b)
  | int i => exact .base (.int i)
  | str x => exact .base (.str x)
  | lst e => exact .base (.lst e)
  | tup e => exact .base (.tup e)
  | dct e => exact .base (.dK e)
theorem TyT.ext {H H' : Hp} {v : V} {T : String} (h : TyT H v T) (k : Ext H H') : TyT H' v T := by
  cases h with
  | non => exact .non
  | bl b => exact .bl b
  | int i => exact .int i
  | str x => exact .str x
  | lst e => exact .lst (k _ _ e)
  | tup e => exact .tup (k _ _ e)
  | dct e => exact .dct (k _ _ e)
theorem dr_ty {H : Hp} {v : V} {x : PyData} (h : Dr H v x) : (∃ s, v = .str s ∧ x = .str s) ∨ (∃ i, v = .int i) ∨ (TyT H v "NoneType" ∨ TyT H v "bool" ∨ TyT H v "list" ∨ TyT H v "tuple" ∨ TyT H v "dict") := by
  cases h with
  | non => exact .inr (.inr (.inl .non))
  | bl b => exact .inr (.inr (.inr (.inl (.bl b))))
  | int i => exact .inr (.inl ⟨i, rfl⟩)
  | str x => exact .inl ⟨x, rfl, rfl⟩
  | lst e _ => exact .inr (.inr (.inr (.inr (.inl (.lst e)))))
  | tup e _ => exact .inr (.inr (.inr (.inr (.inr (.inl (.tup e))))))
  | dct e _ => exact .inr (.inr (.inr (.inr (.inr (.inr (.dct e))))))
/-- isinstance of a value whose type is told -/
theorem isi_ty {K : PySem.W.Frag} {H : Hp} {v : V} {T U : String} {r : Bool} {Q : VK} (h : TyT H v T) (k : kitB T U = some r) (q : Q (.bl r) H) : rIsi K [v, .ty U] H Q :=
  ⟨v, .ty U, .type T, .type U, r, rfl, .ty U, h.x, kit_ty k, q⟩
/-! ## what a name is, what an amount is -/
def letters : Str := "abcdefghijklmnopqrstuvwxyz"
def isL (c : Nat) : Bool := decide (c ∈ letters.cps.toList)
def nameOk (x : Str) : Bool := decide (1 ≤ x.length) && (decide (x.length ≤ 8) && x.cps.toList.all isL)
def amtOk (i : Int) : Bool := decide (1 ≤ i) && decide (i ≤ 1000000000)
def NameV (H : Hp) (v : V) (r : Bool) : Prop := (∃ x, v = .str x ∧ Asc 19 x ∧ r = nameOk x) ∨ (r = false ∧ (TyT H v "NoneType" ∨ TyT H v "bool" ∨ TyT H v "int" ∨ TyT H v "list" ∨ TyT H v "tuple" ∨ TyT H v "dict"))
def AmtV (H : Hp) (v : V) (r : Bool) : Prop := (∃ i, v = .int i ∧ r = amtOk i) ∨ (r = false ∧ (TyT H v "NoneType" ∨ TyT H v "bool" ∨ TyT H v "str" ∨ TyT H v "list" ∨ TyT H v "tuple" ∨ TyT H v "dict"))
def spName : Sp := fun vs H Q _ => ∃ v r, vs = [v] ∧ NameV H v r ∧ ∀ H', Ext H H' → Q (.bl r) H'
def spAmt : Sp := fun vs H Q _ => ∃ v r, vs = [v] ∧ AmtV H v r ∧ ∀ H', Ext H H' → Q (.bl r) H'
theorem NameV.ext {H H' : Hp} {v : V} {r : Bool} (h : NameV H v r) (k : Ext H H') : NameV H' v r := by
  rcases h with h | ⟨e, h⟩
  · exact .inl h
  · refine .inr ⟨e, ?_⟩
    rcases h with h | h | h | h | h | h
    · exact .inl (h.ext k)
    · exact .inr (.inl (h.ext k))
    · exact .inr (.inr (.inl (h.ext k)))
    · exact .inr (.inr (.inr (.inl (h.ext k))))
    · exact .inr (.inr (.inr (.inr (.inl (h.ext k)))))
    · exact .inr (.inr (.inr (.inr (.inr (h.ext k)))))
theorem AmtV.ext {H H' : Hp} {v : V} {r : Bool} (h : AmtV H v r) (k : Ext H H') : AmtV H' v r := by
  rcases h with h | ⟨e, h⟩
  · exact .inl h
  · refine .inr ⟨e, ?_⟩
    rcases h with h | h | h | h | h | h
    · exact .inl (h.ext k)
    · exact .inr (.inl (h.ext k))
    · exact .inr (.inr (.inl (h.ext k)))
    · exact .inr (.inr (.inr (.inl (h.ext k))))
    · exact .inr (.inr (.inr (.inr (.inl (h.ext k)))))
    · exact .inr (.inr (.inr (.inr (.inr (h.ext k)))))
theorem dr_judged {H : Hp} {v : V} {x : PyData} {n : Nat} (h : Dr H v x) (k : OkT n x) : (∃ r, NameV H v r) ∧ ∃ r, AmtV H v r := by
  rcases dr_ty h with ⟨s, rfl, rfl⟩ | ⟨i, rfl⟩ | h | h | h | h | h
  · exact ⟨⟨_, .inl ⟨s, rfl, k.2 s rfl, rfl⟩⟩, ⟨false, .inr ⟨rfl, .inr (.inr (.inl (.str s)))⟩⟩⟩
  · exact ⟨⟨false, .inr ⟨rfl, .inr (.inr (.inl (.int i)))⟩⟩, ⟨_, .inl ⟨i, rfl, rfl⟩⟩⟩
  · exact ⟨⟨false, .inr ⟨rfl, .inl h⟩⟩, ⟨false, .inr ⟨rfl, .inl h⟩⟩⟩
  · exact ⟨⟨false, .inr ⟨rfl, .inr (.inl h)⟩⟩, ⟨false, .inr ⟨rfl, .inr (.inl h)⟩⟩⟩
  · exact ⟨⟨false, .inr ⟨rfl, .inr (.inr (.inr (.inl h)))⟩⟩, ⟨false, .inr ⟨rfl, .inr (.inr (.inr (.inl h)))⟩⟩⟩
  · exact ⟨⟨false, .inr ⟨rfl, .inr (.inr (.inr (.inr (.inl h))))⟩⟩, ⟨false, .inr ⟨rfl, .inr (.inr (.inr (.inr (.inl h))))⟩⟩⟩
  · exact ⟨⟨false, .inr ⟨rfl, .inr (.inr (.inr (.inr (.inr h))))⟩⟩, ⟨false, .inr ⟨rfl, .inr (.inr (.inr (.inr (.inr h))))⟩⟩⟩
end Gk

set_option Elab.async false
set_option linter.all false
set_option maxRecDepth 100000
set_option maxHeartbeats 4000000
/-! rules for objects: static methods, keywords of a method, == and != by an own __eq__, tuple(dict) -/
namespace Go
open PySem PySem.Spec PyProof.Rows L2 Gn Gr Gk
section
variable {X : Cx} {CX : CXT} {k n : Nat} {C f g p : Addr} {mc : Value} {fd : FuncData} {ps ks : List Str} {sp : Sp} {E : XK} {o e : Expr} {es : List Expr} {kws : List Keyword} {m : Str} {pos apos : Pos} {ta : TE} {t tk : TA} {pl : Sem Bool} {gg : List Value → List Value → List Value} {gV : List V → List V → List V}
/-! ### a static method, through its class -/
structure SMet (K : PySem.W.Frag) (C : Addr) (mc : Value) (m : Str) (p g : Addr) : Prop where
  at_ : PySem.W.findCls K (.ref C) mc m = some (.get (.builtin "staticmethod.__get__") (.ref p) .none (.ref C))
  rc : ∃ rest, PySem.W.recIn K p "staticmethod" = some (.ref g :: rest)
theorem getsm_ok {pins : List (Addr × Obj)} {σ : L2.St} {H : Hp} {s : Shared} {A : Around} {E : Value → Shared → Prop} {Q : Value × List Value → Shared → Prop} (I : Inv X pins σ H s) (r : ClX.CRead X.K C mc) (c : SMet X.K C mc m p g)
    (h : ∀ s', Inv X pins σ H s' → Q (.ref g, []) s') : wpAny (model X.prog X.w) A (getMethod (.ref C) m pl) Q E s := by
  obtain ⟨rest, hp⟩ := c.rc
  refine PySem.W.method_cls I.kIn r.ga (PySem.W.cls_bind I.kIn r.rd c.at_ (wpAny_call (PySem.W.sm_get (s := { s with toks := s.toks + 1 }) I.kIn hp (PySem.W.handed_on rfl ?_))))
  exact h _ (I.tok _)
def tSMeth (C : Addr) (sp : Sp) (E : XK) (ta : TE) (t : TA) : TE := fun σ H Q => ta σ H fun x H1 => x = .ref C ∧ t σ H1 fun vs H2 => sp vs H2 Q E
theorem pe_smeth (he : PE X o ta) (r : ClX.CRead X.K C mc) (c : SMet X.K C mc m p g) (hk : PySem.W.keepIn X.K (.ref g) = true) (F : FnOk X.prog X.w X.K X.mg X.base CX k g fd ps sp) (hr : Room k X.A) (hb : Binds X.K fd ps []) (hx : Passes CX X E) (ha : PA X (e :: es) t)
    (hst : starEach (e :: es) X.env = (false, eval e X.env) :: starEach es X.env := by rfl) (hpl : (backTo pos (starEach es X.env)).any (·.1) = false := by rfl)
    (ht : eval (.Call (.Attribute o m apos) (e :: es) [] pos) X.env = (do
      let ov ← eval o X.env
      standAt apos.atName
      let (f, first) ← holding [ov] (getMethod ov m pl)
      callWith pos f first (backTo pos (starEach (e :: es) X.env)) (backToKw pos (keywordEach [] X.env))) := by rfl) :
    PE X (.Call (.Attribute o m apos) (e :: es) [] pos) (tSMeth C sp E ta t) := by
  refine ⟨fun pins s σ H Q I h => ?_⟩
  refine PySem.W.methodCall_KW (pl := pl) (thn (he.run pins s σ H _ I h) fun u s1 ⟨x, H1, I1, rx, ex, q⟩ => ?_) ht
  subst ex
  obtain rfl : u = Value.ref C := rx
  refine getsm_ok I1 r c fun s2 I2 => ?_
  refine PySem.W.callWith_K (first := []) (h₀ := X.base) I2.ok.mod.kin hk (thn (ha.run pos pins s2 σ H1 _ I2 q) fun us s3 ⟨vs, H2, I3, rv, q2⟩ => ⟨I3.kIn, ?_⟩) hst hpl
  exact run_fn (us := us) (vs := vs) (dvs := []) F hr hb .nil hx I3 rv (by rw [List.append_nil]; exact q2)
def tSMethK (C : Addr) (sp : Sp) (gV : List V → List V → List V) (E : XK) (ta : TE) (tk : TA) : TE := fun σ H Q => ta σ H fun x H1 => x = .ref C ∧ tk σ H1 fun zs H2 => sp (gV [] zs) H2 Q E
theorem pe_smethK (he : PE X o ta) (r : ClX.CRead X.K C mc) (c : SMet X.K C mc m p g) (hk : PySem.W.keepIn X.K (.ref g) = true) (F : FnOk X.prog X.w X.K X.mg X.base CX k g fd ps sp) (hr : Room k X.A) (hb : KBinds X.K fd ps ks gg gV) (hx : Passes CX X E) (hkw : PK X kws tk)
    (hall : (backToKw pos (keywordEach kws X.env)).all (·.1.isSome) = true := by rfl) (hks : (backToKw pos (keywordEach kws X.env)).filterMap (·.1) = ks := by rfl)
    (hpl : ((backTo pos (starEach [] X.env)).any (·.1) || (backToKw pos (keywordEach kws X.env)).any (·.1.isNone)) = false := by rfl)
    (ht : eval (.Call (.Attribute o m apos) [] kws pos) X.env = (do
      let ov ← eval o X.env
      standAt apos.atName
      let (f, first) ← holding [ov] (getMethod ov m pl)
      callWith pos f first (backTo pos (starEach [] X.env)) (backToKw pos (keywordEach kws X.env))) := by rfl) :
    PE X (.Call (.Attribute o m apos) [] kws pos) (tSMethK C sp gV E ta tk) := by
  refine ⟨fun pins s σ H Q I h => ?_⟩
  refine PySem.W.methodCall_KW (pl := pl) (thn (he.run pins s σ H _ I h) fun u s1 ⟨x, H1, I1, rx, ex, q⟩ => ?_) ht
  subst ex
  obtain rfl : u = Value.ref C := rx
  refine getsm_ok I1 r c fun s2 I2 => ?_
  refine PySem.W.callWith_KW0 (first := []) (h₀ := X.base) I2.ok.mod.kin hk hall ?_ hpl
  refine thn (hkw.run pos pins s2 σ H1 _ I2 q) fun ws s3 ⟨zs, H2, I3, rz, q2⟩ => ⟨I3.kIn, ?_⟩
  rw [hks]
  exact run_fnk (us := []) (vs := []) F hr hb hx I3 .nil rz q2
/-! ### o.m(k = v) -/
def tMethK (C : Addr) (m : Str) (sp : Sp) (gV : List V → List V → List V) (E : XK) (ta : TE) (tk : TA) : TE := fun σ H Q => ta σ H fun x H1 => ∃ a dx fs, x = .ref a ∧ H1 a = some (.ins C dx fs) ∧ fs.lookup m = none ∧ tk σ H1 fun zs H2 => sp (gV [x] zs) H2 Q E
theorem pe_methK (he : PE X o ta) (c : Cls X.K C) (hm : Meth X.K C m f) (F : FnOk X.prog X.w X.K X.mg X.base CX k f fd ps sp) (hr : Room k X.A) (hb : KBinds X.K fd ps ks gg gV) (hx : Passes CX X E) (hkw : PK X kws tk)
    (hall : (backToKw pos (keywordEach kws X.env)).all (·.1.isSome) = true := by rfl) (hks : (backToKw pos (keywordEach kws X.env)).filterMap (·.1) = ks := by rfl)
    (hpl : ((backTo pos (starEach [] X.env)).any (·.1) || (backToKw pos (keywordEach kws X.env)).any (·.1.isNone)) = false := by rfl)
    (ht : eval (.Call (.Attribute o m apos) [] kws pos) X.env = (do
      let ov ← eval o X.env
      standAt apos.atName
      let (f, first) ← holding [ov] (getMethod ov m pl)
      callWith pos f first (backTo pos (starEach [] X.env)) (backToKw pos (keywordEach kws X.env))) := by rfl) :
    PE X (.Call (.Attribute o m apos) [] kws pos) (tMethK C m sp gV E ta tk) := by
  refine ⟨fun pins s σ H Q I h => ?_⟩
  refine PySem.W.methodCall_KW (pl := pl) (thn (he.run pins s σ H _ I h) fun u s1 ⟨x, H1, I1, rx, a, dx, fs, ex, ea, l, q⟩ => ?_) ht
  subst ex
  obtain rfl : u = Value.ref a := rx
  refine getmeth_ok I1 ea c hm l ?_
  refine PySem.W.callWith_KW0 (first := [.ref a]) (h₀ := X.base) I1.ok.mod.kin hm.kp hall ?_ hpl
  refine thn (hkw.run pos pins s1 σ H1 _ I1 q) fun ws s3 ⟨zs, H2, I3, rz, q2⟩ => ⟨I3.kIn, ?_⟩
  rw [hks]
  exact run_fnk (us := [.ref a]) (vs := [.ref a]) F hr hb hx I3 (.cons rfl .nil) rz q2
/-! ### == and != by an own __eq__ -/
/-- the own __eq__ at f of the class at C; no __ne__ besides object's -/
structure OwnE (K : PySem.W.Frag) (C f : Addr) : Prop where
  eq : PySem.W.findIn K (.ref C) "__eq__" = some (some (.ref f))
  fn : PySem.W.isFn K (.ref f) = true
  cls : ∃ nm q N bs hdct sn sub ab col dd k0 k1 k2 k3 k5 newId, K.lookup C = some (excClassObj nm q C N bs [.type "object"] hdct sn sub ab col dd k0 k1 k2 k3 k5 newId) ∧ PySem.W.nsOkIn K N = true ∧ PySem.W.nsIn K N "__eq__" = some (some (.ref f)) ∧ PySem.W.nsIn K N "__ne__" = some none
  ob : ∃ of : Obj, K.lookup f = some of ∧ of.cls = .type "function"
/-- two instances of the class; the own == is asked -/
def rOwn (C : Addr) (sp : Sp) (E : XK) (neg : Bool) : R2 := fun x y H Q => ∃ a b dx dy fs gs, x = .ref a ∧ y = .ref b ∧ H a = some (.ins C dx fs) ∧ H b = some (.ins C dy gs) ∧ sp [.ref a, .ref b] H (fun v H' => ∃ r, v = .bl r ∧ Q (.bl (if neg then !r else r)) H') E
theorem op_eqO (F : FnOk X.prog X.w X.K X.mg X.base CX n f fd ps sp) (hr : Room n X.A) (w : OwnE X.K C f) (hb : Binds X.K fd ps []) (hx : Passes CX X E) : OpR X (compareOp .Eq) (rOwn C sp E false) := by
  intro pins s σ H x y v u Q I rx ry h
  obtain ⟨a, b, dx, dy, fs, gs, rfl, rfl, ha, hb', hs⟩ := h
  cases rx
  cases ry
  obtain ⟨mA, O1, _⟩ := ins_get I.hok ha
  obtain ⟨mB, O2, _⟩ := ins_get I.hok hb'
  obtain ⟨od, J, _⟩ := O1.look
  obtain ⟨od', J', _⟩ := O2.look
  obtain ⟨m, hF⟩ := I.fr
  show wpAny (model X.prog X.w) X.A (richCompare .Eq (.ref a) (.ref b)) (EP X pins σ Q) X.xe s
  refine PySem.W.cmp_K (op := .Eq) (tb := .ref C) hr.units0 hF I.ok.mod.kin J J'.type (by simp [PySem.W.notFirst]) w.eq w.fn ?_
  refine thn (run_fn (us := [.ref a, .ref b]) (vs := [.ref a, .ref b]) (dvs := []) F hr hb .nil hx I (.cons rfl (.cons rfl .nil)) (by rw [List.append_nil]; exact hs)) fun r s' hq => ?_
  obtain ⟨z, H', I', rz, c, rfl, q⟩ := hq
  cases rz
  exact ⟨.bl c, H', I', rfl, q⟩
theorem ns_has {K : PySem.W.Frag} {h : Heap} {N : Addr} {m : Str → Option Value} {x : Str} {v : Value} (X : K.In h) (G : h.Ns N m) (e : PySem.W.nsIn K N x = some (some v)) : m x = some v := by
  obtain ⟨o, es, ep, ho, hd, _, hf⟩ := G
  rw [← hf]
  unfold PySem.W.nsIn at e
  cases q : K.lookup N with
  | none => rw [q] at e; cases e
  | some ob =>
    have z := X _ _ q
    rw [ho] at z
    cases z
    rw [q] at e
    obtain ⟨c, dd, dt, sl⟩ := o
    have hd : dt = .dict es ep := hd
    subst hd
    simp only at e
    unfold nsFind findBy
    rw [← Array.find?_toList]
    split at e
    · rename_i en he
      rw [he]
      cases e
      rfl
    · split at e <;> cases e
theorem eq_obj : ∃ y : Option Value, typeLookup (.type "object") "__eq__" = pure y := ⟨_, PySem.F.slot_object_eq.lookup⟩
theorem op_neO (F : FnOk X.prog X.w X.K X.mg X.base CX n f fd ps sp) (hr : Room (n + 1) X.A) (w : OwnE X.K C f) (hb : Binds X.K fd ps []) (hx : ∀ (pins : List (Addr × Obj)) (σ : L2.St) (H : Hp) (s : Shared) (e : Value) (s' : Shared), Inv X pins σ H s → CX X.stack H s E e s' → X.xe e s') : OpR X (compareOp .NotEq) (rOwn C sp E true) := by
  intro pins s σ H x y v u Q I rx ry h
  obtain ⟨a, b, dx, dy, fs, gs, rfl, rfl, ha, hb', hs⟩ := h
  cases rx
  cases ry
  obtain ⟨mA, O1, _⟩ := ins_get I.hok ha
  obtain ⟨mB, O2, _⟩ := ins_get I.hok hb'
  obtain ⟨nm, q, N, bs, hdct, sn, sub, ab, col, dd, k0, k1, k2, k3, k5, newId, hC, hN, he, hn⟩ := w.cls
  obtain ⟨of, ho, hoc⟩ := w.ob
  obtain ⟨yv, hy⟩ := eq_obj
  have G : s.heap.Ns N (s.heap.nsMap N) := .of_isNs (PySem.W.isNs_of_in I.kIn hN)
  have hl : ([Value.ref a, Value.ref b] ++ []).length = ps.length := by
    have := F.len _ _ _ _ hs
    simpa using this
  obtain ⟨_, _, _, ea, _⟩ := (show ObjOk X.prog X.w H s.heap a (.ins C dx fs) from I.hok a _ ha)
  obtain ⟨_, _, _, eb, _⟩ := (show ObjOk X.prog X.w H s.heap b (.ins C dy gs) from I.hok b _ hb')
  have W : s.heap.OwnEqNoNe a C f "object" [.type "object"] :=
    ⟨_, of, nm, q, N, bs, hdct, sn, sub, ab, col, dd, k0, k1, k2, k3, k5, newId, s.heap.nsMap N, yv, ea, rfl, I.kIn _ _ hC, G, ns_has I.kIn G he, I.kIn _ _ ho, hoc, PySem.F.cmp_object.mro, hy, PySem.W.ns_none_of I.kIn G hn⟩
  have hbind : BindsTo s fd ⟨[.ref a, .ref b], []⟩ (ps.zip [.ref a, .ref b]) := hb s [.ref a, .ref b] I.kIn hl
  have run := F.run X.A.in1 X.stack s H ⟨[.ref a, .ref b], []⟩ [.ref a, .ref b] [.ref a, .ref b] _ E (hr.in1) I.env0.in1 hbind (.cons rfl (.cons rfl .nil)) hs
  obtain ⟨hp, g, d, tk, os⟩ := s
  refine compareOp_ne_ownEq PySem.F.cmp_object W eb rfl (by have := hr.units; omega) (wpAny_call (codeAny_mono run fun r s' hq => ?_))
  cases r with
  | error e => exact hx pins σ H _ e s' I hq
  | ok fl =>
    cases fl with
    | ret u =>
      obtain ⟨z, H', I', rz, c, rfl, q⟩ := I.after hq
      cases rz
      exact ⟨c, rfl, .bl (!c), H', I', rfl, q⟩
    | next => exact False.elim hq
    | brk => exact False.elim hq
    | cont => exact False.elim hq
end
end Go

set_option Elab.async false
set_option linter.all false
set_option maxRecDepth 100000
set_option maxHeartbeats 4000000
/-! forests as data: rows, their text, what is a forest -/
namespace Gf
open PySem PySem.Spec PyProof.Rows L2 TL Gn Gr Gk
abbrev FRow := Str × Option Str
def parV : Option Str → V
  | none => .non
  | some m => .str m
def kvOf (r : FRow) : Key × V := (Sum.inr r.1, parV r.2)
def wordsOf : FRow → List Str
  | (n, none) => ["account", n]
  | (n, some m) => ["account", n, "in", m]
def lineOf (r : FRow) : Str := Txt.join " " (wordsOf r)
def textOf (rs : List FRow) : Str := Txt.join "\n" (rs.map lineOf ++ [Str.empty])
def fNames (rs : List FRow) : List Str := rs.map (·.1)
/-- the row may stand behind these names -/
def RowOk (E : List Str) (r : FRow) : Prop := nameOk r.1 = true ∧ r.1 ∉ E ∧ ∀ m, r.2 = some m → m ∈ E
def GoodF : List Str → List FRow → Prop
  | _, [] => True
  | E, r :: rs => RowOk E r ∧ GoodF (E ++ [r.1]) rs
theorem good_at : ∀ {rs : List FRow} {E : List Str} {i : Nat} {r : FRow}, GoodF E rs → rs[i]? = some r → RowOk (E ++ fNames (rs.take i)) r
  | [], _, _, _, _, h => by simp at h
  | x :: rs, E, 0, r, g, h => by
    simp only [List.getElem?_cons_zero, Option.some.injEq] at h
    subst h
    simpa [fNames] using g.1
  | x :: rs, E, i + 1, r, g, h => by
    have q := good_at g.2 (show rs[i]? = some r by simpa using h)
    simpa [fNames, List.append_assoc] using q
theorem good_snoc : ∀ {rs : List FRow} {E : List Str} {r : FRow}, GoodF E rs → RowOk (E ++ fNames rs) r → GoodF E (rs ++ [r])
  | [], E, r, g, h => ⟨by simpa [fNames] using h, trivial⟩
  | x :: rs, E, r, g, h => ⟨g.1, good_snoc g.2 (by simpa [fNames, List.append_assoc] using h)⟩
theorem names_take (rs : List FRow) (i : Nat) : fNames (rs.take i) = (fNames rs).take i := by unfold fNames; rw [List.map_take]
theorem good_mem {rs : List FRow} (g : GoodF [] rs) {r : FRow} (h : r ∈ rs) : nameOk r.1 = true ∧ ∀ m, r.2 = some m → m ∈ fNames rs ∧ nameOk m = true := by
  obtain ⟨i, hi⟩ := List.mem_iff_getElem?.mp h
  have q := good_at g hi
  rw [List.nil_append] at q
  have nm : ∀ m, m ∈ fNames rs → nameOk m = true := by
    intro m hm
    obtain ⟨z, hz, rfl⟩ := List.mem_map.mp hm
    obtain ⟨j, hj⟩ := List.mem_iff_getElem?.mp hz
    exact (good_at g hj).1
  refine ⟨q.1, fun m hm => ?_⟩
  have z := q.2.2 m hm
  rw [names_take] at z
  have z2 := List.mem_of_mem_take z
  exact ⟨z2, nm m z2⟩
theorem good_nodup : ∀ {rs : List FRow} {E : List Str}, GoodF E rs → (fNames rs).Nodup ∧ ∀ n ∈ fNames rs, n ∉ E
  | [], _, _ => by simp [fNames]
  | x :: rs, E, g => by
    obtain ⟨a, b⟩ := good_nodup g.2
    constructor
    · show (x.1 :: fNames rs).Nodup
      refine List.nodup_cons.mpr ⟨fun h => ?_, a⟩
      exact b _ h (by simp)
    · intro n hn
      rcases List.mem_cons.mp (show n ∈ x.1 :: fNames rs from hn) with rfl | h
      · exact g.1.2.1
      · exact fun z => b n h (by simp [z])
/-! names -/
theorem name_len {x : Str} (h : nameOk x = true) : 1 ≤ x.length ∧ x.length ≤ 8 := by
  unfold nameOk at h
  simp only [Bool.and_eq_true, decide_eq_true_eq] at h
  exact ⟨h.1, h.2.1⟩
theorem letters_lo : ∀ c ∈ letters.cps.toList, 96 < c ∧ c < 123 := by decide +kernel
theorem name_cps {x : Str} (h : nameOk x = true) : ∀ c ∈ x.cps.toList, 96 < c ∧ c < 123 := by
  unfold nameOk at h
  simp only [Bool.and_eq_true, decide_eq_true_eq] at h
  intro c hc
  have := List.all_eq_true.mp h.2.2 c hc
  exact letters_lo c (by simpa [isL] using this)
theorem name_asc {x : Str} (h : nameOk x = true) : Asc 8 x := ⟨(name_len h).2, fun c hc => by have := name_cps h c hc; omega⟩
theorem name_asc19 {x : Str} (h : nameOk x = true) : Asc 19 x := (name_asc h).mono (by decide)
/-! lines and texts -/
theorem tl_def (x : Str) : tl x = x.cps.toList := rfl
theorem sp_tl : tl (" " : Str) = [32] := by decide +kernel
theorem nl_tl : tl ("\n" : Str) = [10] := by decide +kernel
theorem e_tl : tl Str.empty = [] := rfl
theorem e_eq : (("" : String) : Str) = Str.empty := ext_tl (by decide +kernel)
theorem acc_tl : tl ("account" : Str) = [97, 99, 99, 111, 117, 110, 116] := by decide +kernel
theorem in_tl : tl ("in" : Str) = [105, 110] := by decide +kernel
theorem accs_tl : tl ("account " : Str) = [97, 99, 99, 111, 117, 110, 116, 32] := by decide +kernel
theorem ins_tl : tl (" in " : Str) = [32, 105, 110, 32] := by decide +kernel
def lineL : FRow → List Nat
  | (n, none) => tl ("account " : Str) ++ tl n
  | (n, some m) => tl ("account " : Str) ++ (tl n ++ (tl (" in " : Str) ++ tl m))
theorem tl_line (r : FRow) : tl (lineOf r) = lineL r := by
  obtain ⟨n, q⟩ := r
  unfold lineOf
  rw [join_eq, tl_join, sp_tl]
  cases q with
  | none =>
    show tl ("account" : Str) ++ ([32] ++ tl n) = tl ("account " : Str) ++ tl n
    rw [acc_tl, accs_tl]
    rfl
  | some m =>
    show tl ("account" : Str) ++ ([32] ++ (tl n ++ ([32] ++ (tl ("in" : Str) ++ ([32] ++ tl m))))) = tl ("account " : Str) ++ (tl n ++ (tl (" in " : Str) ++ tl m))
    rw [acc_tl, accs_tl, in_tl, ins_tl]
    rfl
theorem joinL_end (S : List Nat) : ∀ ls : List (List Nat), joinL S (ls ++ [[]]) = (ls.map (· ++ S)).flatten
  | [] => rfl
  | [p] => by
    show p ++ (S ++ []) = _
    simp
  | p :: q :: r => by
    have e := joinL_end S (q :: r)
    show p ++ (S ++ joinL S (q :: r ++ [[]])) = _
    rw [e]
    simp
theorem tl_text (rs : List FRow) : tl (textOf rs) = (rs.map fun r => lineL r ++ [10]).flatten := by
  unfold textOf
  rw [join_eq, tl_join, nl_tl, List.map_append, List.map_map]
  show joinL [10] (List.map (tl ∘ lineOf) rs ++ [[]]) = _
  rw [joinL_end, List.map_map]
  congr 1
  refine List.map_congr_left fun r _ => ?_
  show tl (lineOf r) ++ [10] = _
  rw [tl_line]
theorem text_nil : textOf [] = Str.empty := ext_tl (by rw [tl_text]; rfl)
theorem text_snoc (rs : List FRow) (r : FRow) : textOf (rs ++ [r]) = textOf rs ++ (⟨(lineL r ++ [10]).toArray⟩ : Str) := by
  refine ext_tl ?_
  rw [tl_append, tl_text, tl_text, tl_mk]
  simp
theorem word_ns {r : FRow} (h1 : nameOk r.1 = true) (h2 : ∀ m, r.2 = some m → nameOk m = true) : ∀ p ∈ wordsOf r, 32 ∉ tl p ∧ 10 ∉ tl p := by
  obtain ⟨n, q⟩ := r
  have nn : ∀ {x : Str}, nameOk x = true → 32 ∉ tl x ∧ 10 ∉ tl x := fun {x} h => ⟨fun z => by have := name_cps h _ z; omega, fun z => by have := name_cps h _ z; omega⟩
  have ha : 32 ∉ tl ("account" : Str) ∧ 10 ∉ tl ("account" : Str) := by rw [acc_tl]; decide
  have hi : 32 ∉ tl ("in" : Str) ∧ 10 ∉ tl ("in" : Str) := by rw [in_tl]; decide
  cases q with
  | none =>
    intro p hp
    simp only [wordsOf, List.mem_cons, List.not_mem_nil, or_false] at hp
    rcases hp with rfl | rfl
    · exact ha
    · exact nn h1
  | some m =>
    intro p hp
    simp only [wordsOf, List.mem_cons, List.not_mem_nil, or_false] at hp
    rcases hp with rfl | rfl | rfl | rfl
    · exact ha
    · exact nn h1
    · exact hi
    · exact nn (h2 _ rfl)
theorem wordsOf_ne (r : FRow) : wordsOf r ≠ [] := by
  obtain ⟨n, q⟩ := r
  cases q <;> simp [wordsOf]
theorem split_line {r : FRow} (h1 : nameOk r.1 = true) (h2 : ∀ m, r.2 = some m → nameOk m = true) : Txt.split (lineOf r) " " = wordsOf r :=
  split_join sp_tl (by decide +kernel) (wordsOf_ne r) fun p hp => (word_ns h1 h2 p hp).1
theorem line_nn {r : FRow} (h1 : nameOk r.1 = true) (h2 : ∀ m, r.2 = some m → nameOk m = true) : 10 ∉ tl (lineOf r) := by
  obtain ⟨n, q⟩ := r
  rw [tl_line]
  have w := word_ns h1 h2
  have a1 : 10 ∉ tl ("account " : Str) := by rw [accs_tl]; decide
  have a2 : 10 ∉ tl (" in " : Str) := by rw [ins_tl]; decide
  cases q with
  | none =>
    have wn := (w n (by simp [wordsOf])).2
    intro z
    rcases List.mem_append.mp (show 10 ∈ tl ("account " : Str) ++ tl n from z) with z | z
    · exact a1 z
    · exact wn z
  | some m =>
    have wn := (w n (by simp [wordsOf])).2
    have wm := (w m (by simp [wordsOf])).2
    intro z
    rcases List.mem_append.mp (show 10 ∈ tl ("account " : Str) ++ (tl n ++ (tl (" in " : Str) ++ tl m)) from z) with z | z
    · exact a1 z
    rcases List.mem_append.mp z with z | z
    · exact wn z
    rcases List.mem_append.mp z with z | z
    · exact a2 z
    · exact wm z
theorem split_text {rs : List FRow} (g : GoodF [] rs) : Txt.split (textOf rs) "\n" = rs.map lineOf ++ [Str.empty] := by
  refine split_join nl_tl (by decide +kernel) (by simp) fun p hp => ?_
  rcases List.mem_append.mp hp with h | h
  · obtain ⟨r, hr, rfl⟩ := List.mem_map.mp h
    obtain ⟨a, b⟩ := good_mem g hr
    exact line_nn a fun m hm => (b m hm).2
  · rw [List.mem_singleton.mp h]
    exact List.not_mem_nil
theorem line_len {r : FRow} (h1 : nameOk r.1 = true) (h2 : ∀ m, r.2 = some m → nameOk m = true) : (lineOf r).length ≤ 30 := by
  obtain ⟨n, q⟩ := r
  have l1 := (name_len h1).2
  have e : (lineOf (n, q)).length = (lineL (n, q)).length := by rw [← tl_line, tl_def, len_cps]
  rw [e]
  have ln : (tl n).length = n.length := len_cps n
  have la : (tl ("account " : Str)).length = 8 := by rw [accs_tl]; rfl
  have li : (tl (" in " : Str)).length = 4 := by rw [ins_tl]; rfl
  have l1 : n.length ≤ 8 := l1
  cases q with
  | none =>
    show (tl ("account " : Str) ++ tl n).length ≤ 30
    rw [List.length_append]
    omega
  | some m =>
    have l2 := (name_len (h2 m rfl)).2
    have lm : (tl m).length = m.length := len_cps m
    show (tl ("account " : Str) ++ (tl n ++ (tl (" in " : Str) ++ tl m))).length ≤ 30
    simp only [List.length_append]
    omega
/-- what a line of these words says -/
def readRow : List Str → Option FRow
  | [a, n] => if a = ("account" : Str) then some (n, none) else none
  | [a, n, i, m] => if a = ("account" : Str) ∧ i = ("in" : Str) then some (n, some m) else none
  | _ => none
theorem read_words (r : FRow) : readRow (wordsOf r) = some r := by
  obtain ⟨n, q⟩ := r
  cases q <;> simp [wordsOf, readRow]
/-- one text, one list of rows -/
theorem text_inj {rs rs' : List FRow} (g : GoodF [] rs) (g' : GoodF [] rs') (h : textOf rs = textOf rs') : rs = rs' := by
  have e := split_text g
  rw [h, split_text g'] at e
  have e2 : rs'.map lineOf = rs.map lineOf := List.append_cancel_right e
  have key : ∀ {rs : List FRow}, (∀ r ∈ rs, nameOk r.1 = true ∧ ∀ m, r.2 = some m → nameOk m = true) → (rs.map lineOf).map (fun l => readRow (Txt.split l " ")) = rs.map some := by
    intro rs hg
    rw [List.map_map]
    refine List.map_congr_left fun r hr => ?_
    obtain ⟨a, b⟩ := hg r hr
    show readRow (Txt.split (lineOf r) " ") = some r
    rw [split_line a b, read_words]
  have gg : ∀ {rs : List FRow}, GoodF [] rs → ∀ r ∈ rs, nameOk r.1 = true ∧ ∀ m, r.2 = some m → nameOk m = true := fun g r hr => ⟨(good_mem g hr).1, fun m hm => ((good_mem g hr).2 m hm).2⟩
  have k1 := key (gg g)
  have k2 := key (gg g')
  rw [e2, k1] at k2
  exact List.map_inj_right (fun _ _ e => Option.some.inj e) |>.mp k2
end Gf

set_option Elab.async false
set_option linter.all false
set_option maxRecDepth 100000
set_option maxHeartbeats 4000000
/-! tuple(dict), .. -/
namespace Gt
open PySem PySem.Spec PyProof.Rows L2 Gn Gr Gk Go
section
variable {prog : Program} {w : World} {A : Around} {E : Value → Shared → Prop} {s : Shared} {T : String} {r d : Addr} {n : Nat} {P : Nat → Value → Prop} {OK : Heap → Prop}
theorem collect_kdl {Q : List Value → Shared → Prop} (K : PySem.W.KdlSrc prog w T r d n P OK) (hh : A.handled = none) (hok : OK s.heap) (hn : n ≤ sizeLine)
    (hQ : ∀ (h' : Heap) (tk : Nat) (acc : Array Value), (∀ b o, s.heap.get? b = some o → h'.get? b = some o) → ItemsOf P acc n → Q acc.toList { s with heap := h', toks := tk }) :
    wpAny (model prog w) A (collect (.ref r)) Q E s := by
  unfold collect
  refine wpAny_bind (wpAny_runValue (codeAny_builtin F.entry_proto_collect ?_))
  rw [Around.under_plainId F.plain_proto_collect _]
  show wpAny _ A.in1 (newList [] >>= fun l => again (.builtin "list.__iadd__" ⟨[l, .ref r], []⟩)) _ _ s
  refine wpAny_bind (wpAny_newObj_type ?_)
  refine wpAny_pure ⟨plainId_quiet F.plain_list_iadd _, codeAny_builtin F.entry_list_iadd ?_⟩
  rw [Around.under_plainId F.plain_list_iadd _]
  show wpAny _ A.in1 (Builtin.List.listExtendWith (.ref s.heap.objs.size) (.ref r) (.ref s.heap.objs.size)) _ _ _
  have hS : (s.heap.push { cls := .type "list", data := .seq ([] : List Value).toArray }).get? s.heap.objs.size = some { cls := .type "list", data := .seq #[] 0 } := Heap.get?_push_size _ rfl
  have hlt := K.there _ hok
  refine wpAny_mono (PySem.W.kdl_extend (A := A) (R := fun rr s' => rr = .ok (.ret (.ref s.heap.objs.size)) ∧ ∃ (h' : Heap) (tk : Nat) (acc : Array Value) (c' : Nat), s' = { s with heap := h', toks := tk } ∧
      (∀ b o, s.heap.get? b = some o → h'.get? b = some o) ∧ h'.get? s.heap.objs.size = some { cls := .type "list", dict := none, data := .seq acc c', slots := #[] } ∧ ItemsOf P acc n)
    (s := { s with heap := s.heap.push { cls := .type "list", data := .seq ([] : List Value).toArray } }) K hh (K.keep _ _ hok fun b _ o e => Heap.get?_push_of_some _ e) s.heap.objs.size (Nat.ne_of_gt hlt.1) (Nat.ne_of_gt hlt.2) _ 0 hS
    (fun h' tk acc c' hk e hi => ⟨rfl, h', tk, acc, c', rfl, fun b o q => hk b o (Nat.ne_of_lt (Heap.lt_size q)) (Heap.get?_push_of_some _ q), e, hi⟩) hn) (fun fin s' h => ?_) (fun e s' h => ?_)
  · cases fin with
    | done f =>
      obtain ⟨e, h', tk, acc, c', rfl, hk, hS', hi⟩ := h
      cases e
      show wpAny _ A (load s.heap.objs.size >>= _) _ _ _
      exact wpAny_bind (wpAny_load hS' (wpAny_pure (hQ h' tk acc hk hi)))
    | again c' =>
      refine ⟨h.1, codeAny_mono h.2 fun rr s'' hr' => ?_⟩
      obtain ⟨rfl, h', tk, acc, c', rfl, hk, hS', hi⟩ := hr'
      show wpAny _ A (load s.heap.objs.size >>= _) _ _ _
      exact wpAny_bind (wpAny_load hS' (wpAny_pure (hQ h' tk acc hk hi)))
  · exact absurd h.1 (by simp)
theorem code_tuple_new_dict {Q₁ : Value → Shared → Prop} (K : PySem.W.KdlSrc prog w "dict" r d n P OK) (hh : A.handled = none) (hok : OK s.heap) (hn : n ≤ sizeLine)
    (h : ∀ (h' : Heap) (tk : Nat) (acc : Array Value), (∀ b o, s.heap.get? b = some o → h'.get? b = some o) → ItemsOf P acc n →
      Q₁ (.ref h'.objs.size) { s with heap := h'.push { cls := .type "tuple", data := .seq acc }, toks := tk }) :
    codeAny (model prog w) A (.call (.builtin "tuple.__new__") ⟨[.type "tuple", .ref r], []⟩) (wants Q₁ E) s := by
  refine codeAny_of_tree ?_
  show wpAny _ A.in1 (do checkBuiltinCall "tuple.__new__" ⟨[.type "tuple", .ref r], []⟩; again (.builtin "tuple.__new__" ⟨[.type "tuple", .ref r], []⟩)) _ _ s
  refine wpAny_bind (wpAny_of_eq (F.newCall_tuple_1 _) (wpAny_pure ⟨plainId_quiet F.plain_tuple_new _, codeAny_builtin F.entry_tuple_new ?_⟩))
  rw [Around.under_plainId F.plain_tuple_new _]
  have hsub := sub_tuple_self
  have hinit := init_tuple_lookup
  have hmh := madeHere_tuple
  have hTI : s.TypeIs (.ref r) "dict" := K.type _ hok
  have hh1 : A.in1.handled = none := hh
  wp_walk using wpAny_typeOf hTI, collect_kdl (A := A.in1) K hh1 hok hn
  intro h' tk acc hk hacc
  show wpAny _ _ (Builtin.Tuple.tupleExact acc.toList.toArray >>= fun v => ret v) _ _ _
  unfold Builtin.Tuple.tupleExact
  refine wpAny_bind (wpAny_newObj_type ?_ (by show acc.toList.toArray.size ≤ sizeLine; simp only [Array.toArray_toList]; rw [hacc.1]; exact hn))
  refine wpAny_pure ?_
  have e : acc.toList.toArray = acc := by simp
  rw [e]
  exact h h' tk acc hk hacc
theorem call_tuple_dict {Q : Value → Shared → Prop} (K : PySem.W.KdlSrc prog w "dict" r d n P OK) (hh : A.handled = none) (hok : OK s.heap) (hn : n ≤ sizeLine)
    (hQ : ∀ (h' : Heap) (tk : Nat) (acc : Array Value), (∀ b o, s.heap.get? b = some o → h'.get? b = some o) → ItemsOf P acc n →
      Q (.ref h'.objs.size) { s with heap := h'.push { cls := .type "tuple", data := .seq acc }, toks := tk }) :
    wpAny (model prog w) A (call (.type "tuple") [.ref r]) Q E s := by
  refine callType_codes (Q₁ := fun obj s₁ => s₁.TypeIs obj "tuple" ∧ Q obj s₁) F.called_tuple (F.typeCall_tuple_1 _) F.entry_object_init
    (code_tuple_new_dict (A := A.in1) K hh hok hn fun h' tk acc hk hacc => ⟨⟨_, Heap.get?_push_size _ rfl, rfl⟩, hQ h' tk acc hk hacc⟩) fun obj s₁ h₁ => ?_
  exact ⟨h₁.1, F.args_object_init_2 obj _, object_init_meets F.called_tuple.init.lookup F.called_tuple.made (by decide) prog w A.in1 _ s₁ ⟨h₁.1, rfl, h₁.2⟩⟩
end
/-- tuple(dict): a new tuple of its keys -/
def rTupD : List V → Hp → VK → Prop := fun xs H Q => ∃ p kvs, xs = [.ref p] ∧ H p = some (.dK kvs) ∧ ∀ q, H q = none → Q (.ref q) (upd H q (.tup (kvs.map fun kv => kV kv.1)))
theorem call_tuple_dK {X : Cx} (hc : X.calm = true) : CallR X (.type "tuple") rTupD := by
  intro pins s σ H xs us Q I r h
  obtain ⟨p, kvs, e, hk, q⟩ := h
  subst e
  obtain ⟨u, eu, rx⟩ := vals1 r
  subst eu
  obtain rfl : u = Value.ref p := rx
  obtain ⟨z, lo, vs, rk, hd⟩ := (show ObjOk X.prog X.w H s.heap p (.dK kvs) from I.hok p _ hk)
  obtain ⟨ep, hat⟩ := hd.dictAt
  have hl : kvs.length = vs.length := Paired.length rk
  refine call_tuple_dict (PySem.W.kdl_dict (knd := mixKind X.prog X.w) (kvs := vs) (ep := ep) lo) (I.ok.hd hc) hat (by rw [← hl]; exact z) fun h' tk acc hkeep hacc => ?_
  have I1 : Inv X pins σ H { s with heap := h' } := I.kept (t' := s.toks) hkeep
  have rr : Vals (kvs.map fun kv => kV kv.1) acc.toList := by
    have el : acc.toList.length = acc.size := by simp
    refine vals_of_at (by rw [List.length_map, el, hacc.1, hl]) fun j x w h1 h2 => ?_
    obtain ⟨k, y, hky, hi⟩ := hacc.2 j w (by rw [← Array.getElem?_toList]; exact h2)
    have e1 : (kvs.map (·.1))[j]? = some k := by
      rw [KV.keys rk, List.getElem?_map, hky] <;> rfl
    have e2 : (kvs.map fun kv => kV kv.1)[j]? = some (kV k) := by
      have e3 : (kvs.map fun kv => kV kv.1) = (kvs.map (·.1)).map kV := by rw [List.map_map] <;> rfl
      rw [e3, List.getElem?_map, e1] <;> rfl
    rw [e2] at h1
    cases h1
    exact keyIs_rel hi
  have I2 : Inv X pins σ (upd H h'.objs.size (.tup (kvs.map fun kv => kV kv.1))) { s with heap := h'.push { cls := .type "tuple", data := .seq acc }, toks := tk } :=
    I1.laid (t' := tk) (fun b o e => Heap.get?_push_of_some _ e) (Nat.le_refl _) (show ObjOk X.prog X.w _ _ _ (.tup (kvs.map fun kv => kV kv.1)) from ⟨by rw [List.length_map]; exact z, acc.toList, rr, by
      have := IsTup.new h' acc
      simpa using this⟩)
  exact ⟨.ref h'.objs.size, _, I2, rfl, q _ (I1.hok.fresh (Nat.le_refl _))⟩
/-- {k: v for ..} over a walk -/
theorem dc_it {J : It} {n : Nat} {G : Hp → Prop} {Y : Nat → Hp → V → Hp → Prop} (w : Walk J n G Y) {g : TG} {tt : TT} {tk tv : TE} {vs : List Nat} {σ : L2.St} {H1 : Hp} {D : Addr} {Qd : Hp → Prop} (Pv : Nat → Hp → Prop) (h0 : Pv 0 (upd H1 D (.dK []))) (hG : ∀ i H, i ≤ n → Pv i H → G H)
    (hs : ∀ i x H H', i < n → Pv i H → Y i H x H' → g x (wipe σ vs) H' fun σ2 H2 => wipe σ2 vs = wipe σ vs ∧ tt σ2 H2 fun b H3 =>
      if b = true then tk σ2 H3 fun y H4 => tv σ2 H4 fun z H5 => ∃ kvs k, y = kV k ∧ H5 D = some (.dK kvs) ∧ kvs.length < sizeLine ∧ Pv (i + 1) (upd H5 D (.dK (putK kvs k z))) else Pv (i + 1) H3) (hd : ∀ H, Pv n H → Qd H) :
    ∃ W : Nat → Nat → Hp → Prop, (∃ m, W 0 m (upd H1 D (.dK []))) ∧ ∀ i m H, W i m H →
      (J.stop i H ∧ Qd H) ∨ (J.go i H ∧ ∃ Nx : Hp → Prop, (∀ H', Nx H' → ∃ m', m' < m ∧ W (i + 1) m' H') ∧ ∀ x H', J.yld i H x H' → g x (wipe σ vs) H' fun σ2 H2 => wipe σ2 vs = wipe σ vs ∧ tt σ2 H2 fun b H3 =>
        if b = true then tk σ2 H3 fun y H4 => tv σ2 H4 fun z H5 => ∃ kvs k, y = kV k ∧ H5 D = some (.dK kvs) ∧ kvs.length < sizeLine ∧ Nx (upd H5 D (.dK (putK kvs k z))) else Nx H3) := by
  refine ⟨fun i m H => m = n - i ∧ i ≤ n ∧ Pv i H, ⟨n, by simp, Nat.zero_le _, h0⟩, ?_⟩
  rintro i m H ⟨rfl, hi, p⟩
  have q := hG i H hi p
  by_cases hlt : i < n
  · exact .inr ⟨w.goes i H hlt q, Pv (i + 1), fun H' p' => ⟨n - (i + 1), by omega, rfl, hlt, p'⟩, fun x H' y => hs i x H H' hlt p (w.yields i H x H' hlt q y)⟩
  · have e : i = n := by omega
    subst e
    exact .inl ⟨w.stops H q, hd H p⟩
end Gt

set_option Elab.async false
set_option linter.all false
set_option maxRecDepth 100000
set_option maxHeartbeats 4000000
/-! names and words, for any law -/
namespace Lw
open L2 hiding Ext
open PySem PySem.Spec PyProof.Rows Gn Gr Gk Go Gt Gf
theorem iteS {c A B : Prop} [Decidable c] (hc : c) (h : A) : if decide c = true then A else B := by
  rw [if_pos (decide_eq_true hc)]
  exact h
theorem iteN {c A B : Prop} [Decidable c] (hc : ¬ c) (h : B) : if decide c = true then A else B := by
  rw [if_neg (by rw [decide_eq_false hc]; exact Bool.false_ne_true)]
  exact h
theorem take_succ_map {α β : Type} {l : List α} {i : Nat} {c : α} (f : α → β) (h : l[i]? = some c) : (l.take (i + 1)).map f = (l.take i).map f ++ [f c] := by
  rw [List.take_add_one, h, List.map_append]
  rfl
theorem cps_at {z : Str} {i : Nat} {c : Nat} (h : z.cps[i]? = some c) : z.cps.toList[i]? = some c := by simpa using h
theorem cps_len (z : Str) : z.cps.toList.length = z.cps.size := by simp
theorem strs_flat (E : List Str) : (E.map V.str).all flatV = true := by
  rw [List.all_map]
  exact List.all_eq_true.mpr fun _ _ => rfl
theorem inV_strs (x : Str) (E : List Str) : inV (.str x) (E.map V.str) = decide (x ∈ E) := by
  unfold inV
  rw [List.any_map]
  induction E with
  | nil => simp
  | cons y r ih =>
    rw [List.any_cons, ih]
    show ((y == x) || _) = _
    by_cases e : y = x
    · subst e; simp
    · have e' : ¬ x = y := fun z => e z.symm
      simp [e, e']
theorem strlen (a b : Str) : (a ++ b).length = a.length + b.length := strLen_append a b
theorem sum_le {α : Type} (f : α → Nat) {b : Nat} : ∀ l : List α, (∀ x ∈ l, f x ≤ b) → (l.map f).sum ≤ l.length * b
  | [], _ => by simp
  | x :: r, h => by
    have h1 := h x (List.mem_cons_self ..)
    have h2 := sum_le f r fun y hy => h y (List.mem_cons_of_mem _ hy)
    rw [List.map_cons, List.sum_cons, List.length_cons, Nat.succ_mul]
    omega
/-! ### names -/
def lettersOnly (x : Str) : Prop := ∀ c ∈ x.cps.toList, c ∈ letters.cps.toList
theorem nameOk_of {x : Str} (h1 : 1 ≤ x.length) (h2 : x.length ≤ 8) (h : lettersOnly x) : nameOk x = true := by
  unfold nameOk
  rw [decide_eq_true h1, decide_eq_true h2, Bool.true_and, Bool.true_and]
  exact List.all_eq_true.mpr fun c hc => by simpa [isL] using h c hc
theorem lo_of {x : Str} (h : nameOk x = true) : lettersOnly x := by
  unfold nameOk at h
  simp only [Bool.and_eq_true, decide_eq_true_eq] at h
  intro c hc
  simpa [isL] using List.all_eq_true.mp h.2.2 c hc
theorem lo_app {x y : Str} (h : lettersOnly x) (k : lettersOnly y) : lettersOnly (x ++ y) := by
  intro c hc
  rw [cps_app] at hc
  exact (List.mem_append.mp hc).elim (h c) (k c)
theorem lo_cut {x : Str} (h : lettersOnly x) (lo hi : Option Int) : lettersOnly (cutS x lo hi) := by
  intro c hc
  unfold cutS at hc
  exact h c (List.mem_of_mem_drop (List.mem_of_mem_take (by simpa using hc)))
theorem cut6 (x : Str) : (cutS x none (some 6)).length ≤ 6 := by
  rw [← len_cps]
  unfold cutS
  show (List.take _ _).toArray.toList.length ≤ 6
  rw [List.toList_toArray, List.length_take]
  have : HT.sIx x.length x.length (some ((6 : Nat) : Int)) = min 6 x.length := HT.sIx_nat _ _ _
  have this : HT.sIx x.length x.length (some 6) = min 6 x.length := this
  rw [this]
  omega
theorem z_len : ("z" : Str).length = 1 := by decide +kernel
theorem z_lo : lettersOnly ("z" : Str) := by unfold lettersOnly; decide +kernel
def cand (x : Str) (c : Nat) : Str := cutS x none (some 6) ++ "z" ++ oneS' c
  where oneS' (c : Nat) : Str := ⟨#[c]⟩
theorem one_len (c : Nat) : (cand.oneS' c).length = 1 := rfl
theorem one_lo {c : Nat} (h : c ∈ letters.cps.toList) : lettersOnly (cand.oneS' c) := by
  intro b hb
  have : b = c := by simpa [cand.oneS'] using hb
  rw [this]
  exact h
theorem cand_ok {x : Str} (h : lettersOnly x) {c : Nat} (hc : c ∈ letters.cps.toList) : nameOk (cand x c) = true := by
  have h6 := cut6 x
  refine nameOk_of ?_ ?_ (lo_app (lo_app (lo_cut h _ _) z_lo) (one_lo hc))
  · unfold cand
    rw [strlen, strlen, z_len, one_len]
    omega
  · unfold cand
    rw [strlen, strlen, z_len, one_len]
    omega
theorem cand_inj {x : Str} {c c' : Nat} (h : cand x c = cand x c') : c = c' := by
  have e : (cand x c).cps.toList = (cand x c').cps.toList := by rw [h]
  unfold cand at e
  rw [cps_app, cps_app, cps_app, cps_app] at e
  have e2 := List.append_cancel_left e
  simpa [cand.oneS'] using e2
def cands (x : Str) : List Str := letters.cps.toList.map (cand x)
theorem nodup_map {α β : Type} {f : α → β} (hf : ∀ a b, f a = f b → a = b) : ∀ {l : List α}, l.Nodup → (l.map f).Nodup
  | [], _ => by simp
  | a :: r, h => by
    obtain ⟨h1, h2⟩ := List.nodup_cons.mp h
    refine List.nodup_cons.mpr ⟨fun z => ?_, nodup_map hf h2⟩
    obtain ⟨b, hb, e⟩ := List.mem_map.mp z
    exact h1 (hf _ _ e ▸ hb)
theorem cands_nodup (x : Str) : (cands x).Nodup := nodup_map (fun _ _ h => cand_inj h) (by decide +kernel)
theorem cands_len (x : Str) : (cands x).length = 26 := by
  unfold cands
  rw [List.length_map]
  decide +kernel
theorem pigeon : ∀ {ws fs : List Str}, ws.Nodup → (∀ x ∈ ws, x ∈ fs) → ws.length ≤ fs.length
  | [], _, _, _ => Nat.zero_le _
  | x :: ws, fs, hn, hs => by
    obtain ⟨n1, n2⟩ := List.nodup_cons.mp hn
    have hx := hs x (List.mem_cons_self ..)
    have q := pigeon (fs := fs.erase x) n2 fun y hy => (List.mem_erase_of_ne (fun e => n1 (by rw [← e]; exact hy))).mpr (hs y (List.mem_cons_of_mem _ hy))
    have := List.length_erase_of_mem hx
    have := List.length_pos_of_mem hx
    rw [List.length_cons]
    omega
theorem fresh_cand (x : Str) {fs : List Str} (h : fs.length ≤ 8) : ∃ w r, (cands x).filter (fun y => !decide (y ∈ fs)) = w :: r ∧ w ∈ cands x ∧ w ∉ fs := by
  cases e : (cands x).filter (fun y => !decide (y ∈ fs)) with
  | nil =>
    exfalso
    have := pigeon (cands_nodup x) (fs := fs) fun y hy => by
      by_cases m : y ∈ fs
      · exact m
      · have : y ∈ (cands x).filter (fun y => !decide (y ∈ fs)) := List.mem_filter.mpr ⟨hy, by simp [m]⟩
        rw [e] at this
        cases this
    rw [cands_len] at this
    omega
  | cons w r =>
    have hw : w ∈ (cands x).filter (fun y => !decide (y ∈ fs)) := by rw [e]; exact List.mem_cons_self ..
    obtain ⟨a, b⟩ := List.mem_filter.mp hw
    exact ⟨w, r, rfl, a, by simpa using b⟩
theorem join_len (ys : List Str) : (Txt.join Str.empty ys).cps.toList = (ys.map fun y => y.cps.toList).flatten := by
  show TL.tl _ = _
  rw [TL.join_eq, TL.tl_join, e_tl]
  have : ∀ ls : List (List Nat), TL.joinL [] ls = ls.flatten := by
    intro ls
    induction ls with
    | nil => rfl
    | cons p r ih =>
      cases r with
      | nil => show p = _; simp
      | cons q r =>
        show p ++ ([] ++ TL.joinL [] (q :: r)) = _
        rw [ih]
        simp
  rw [this]
theorem join_signs (cs : List Nat) : (Txt.join Str.empty (cs.map cand.oneS')).cps.toList = cs := by
  rw [join_len, List.map_map]
  induction cs with
  | nil => rfl
  | cons c r ih =>
    rw [List.map_cons, List.flatten_cons, ih]
    rfl
def ownText : Str := "account in join ask deposit release send lose copy withdraw arrive spent ideal total over"
def owns : List Str := Txt.split ownText " "
theorem owns_ok : ∀ w ∈ owns, nameOk w = true := by decide +kernel
theorem owns_len : owns.length = 15 := by decide +kernel
theorem filter_take {α : Type} {l : List α} {i : Nat} {c : α} (p : α → Bool) (h : l[i]? = some c) : (l.take (i + 1)).filter p = (l.take i).filter p ++ (if p c = true then [c] else []) := by
  rw [List.take_add_one, h, List.filter_append]
  show _ ++ List.filter p [c] = _
  cases e : p c <;> simp [e]
theorem sizes1128 : ∀ x ∈ ([.int 1, .int 1, .int 2, .int 8] : List V), ∃ j : Int, x = .int j ∧ 1 ≤ j ∧ j ≤ 8 := by
  intro x hx
  simp only [List.mem_cons, List.not_mem_nil, or_false] at hx
  rcases hx with rfl | rfl | rfl | rfl <;> exact ⟨_, rfl, by decide, by decide⟩
end Lw

set_option Elab.async false
set_option linter.all false
set_option maxRecDepth 100000
set_option maxHeartbeats 4000000
namespace Lw
open L2 hiding Ext
open PySem PySem.Spec PyProof.Rows Gn Gr Gk Go Gt Gf
section
variable {P : Program} {w : World} {K : PySem.W.Frag} {mg : Str → Option Value} {base : Heap}
/-- the built-in names, and the module's numbers and letters -/
structure Names (mg : Str → Option Value) : Prop where
  isi : mg "isinstance" = none
  str : mg "str" = none
  int : mg "int" = none
  bool : mg "bool" = none
  list : mg "list" = none
  tuple : mg "tuple" = none
  dict : mg "dict" = none
  len : mg "len" = none
  all : mg "all" = none
  enum : mg "enumerate" = none
  range : mg "range" = none
  min : mg "min" = none
  zip : mg "zip" = none
  repr : mg "repr" = none
  letters : ∃ t, mg "LETTERS" = some (.str letters t)
  longest : ∃ t, mg "LONGEST" = some (.int 8 t)
  largest : ∃ t, mg "LARGEST" = some (.int 1000000000 t)
theorem scName : FnScope ["value", "letter"] ["value"] (defScope sName) := ⟨rfl, rfl, rfl, by decide +kernel, rfl, by decide +kernel, by decide +kernel⟩
theorem ok_name {f : Addr} {fd : FuncData} (F : Fun K "is_name" "is_name" sName f fd) (T : Names mg) : FnOk P w K mg base CX0 1 f fd ["value"] spName := by
  refine F.ok scName (fun vs H Q E h => ?_) (fun cdv A outer s H vs Q E hr h => ?_)
  · obtain ⟨v, r, rfl, _⟩ := h
    rfl
  · obtain ⟨v, r, rfl, hv, k⟩ := h
    have hu := hu_of hr
    have nd := scName.nd
    obtain ⟨t1, hL⟩ := T.letters
    obtain ⟨t2, hM⟩ := T.longest
    refine ⟨_, pss_cons (ps_if (pt_not (pt_val (pe_callB call_isi rfl T.isi (by decide +kernel) (pa_cons (pv 0) (pa_cons (pe_bltn (v := .ty "str") rfl T.str (by decide +kernel) rfl) pa_nil))))) (pss_one (ps_ret pe_bl)) pss_nil)
      (pss_cons (ps_if (PW.pt (pw_or (pt_cmpR op_lt (pe_callB call_len_str rfl T.len PySem.boot_len (pa_cons (pv 0) pa_nil)) pe_int (nomark _)) (pw_or1 (pt_cmpR op_gt (pe_callB call_len_str rfl T.len PySem.boot_len (pa_cons (pv 0) pa_nil)) (pe_glob (v := .int 8) rfl hM ⟨_, rfl⟩) (nomark _))))) (pss_one (ps_ret pe_bl)) pss_nil)
      (pss_one (ps_ret (pe_callB (cr_all rfl) rfl T.all (by decide +kernel) (pa_cons (pe_lc (own := [("letter", 1)]) (g := gName 1) (tt := tYes) rfl nd (pi_str (pv 0)) (blkOk_by (N := ["value", "letter"]) (sc := defScope sName) (by decide +kernel))
        (fun _ _ _ _ _ => pg_name (i := 1) nd rfl (.inl rfl)) (fun _ _ _ _ _ => pts_nil) (fun _ _ _ _ _ => pe_cmpR op_in_sign (pv 1) (pe_glob (v := .str letters) rfl hL ⟨_, rfl⟩) rfl)) pa_nil))))), ?_⟩
    rcases hv with ⟨x, rfl, hx, rfl⟩ | ⟨rfl, hv⟩
    · refine ⟨_, rfl, _, _, _, _, true, rfl, .ty _, (TyT.str x).x, kit_ty (by decide +kernel), true, rfl, iteF ?_⟩
      have hx1 := hx.1
      refine ⟨_, rfl, x, rfl, by rw [sizeLine_eq]; omega, _, _, rfl, rfl, _, rfl, ?_⟩
      unfold nameOk at k
      refine ite2 (fun e => ?_) (fun n1 => ?_)
      · refine iteT ?_
        have e : (x.length : Int) < 1 := of_decide_eq_true e
        rw [show decide (1 ≤ x.length) = false from decide_eq_false (by omega), Bool.false_and] at k
        exact k H Ext.refl
      · have n1 : ¬ (x.length : Int) < 1 := of_decide_eq_false (Bool.eq_false_iff.mpr n1)
        rw [show decide (1 ≤ x.length) = true from decide_eq_true (by omega), Bool.true_and] at k
        refine ⟨_, rfl, x, rfl, by rw [sizeLine_eq]; omega, _, _, rfl, rfl, _, rfl, ?_⟩
        refine ite2 (fun e => ?_) (fun n2 => ?_)
        · have e : (8 : Int) < x.length := of_decide_eq_true e
          rw [show decide (x.length ≤ 8) = false from decide_eq_false (by omega), Bool.false_and] at k
          exact k H Ext.refl
        · have n2 : ¬ (8 : Int) < x.length := of_decide_eq_false (Bool.eq_false_iff.mpr n2)
          rw [show decide (x.length ≤ 8) = true from decide_eq_true (by omega), Bool.true_and] at k
          refine ⟨_, rfl, x, rfl, fun D hD => ?_⟩
          refine lc_it walk_str (fun i H' => H' D = some (.lst (((x.cps.toList.take i).map isL).map V.bl)) ∧ Ext H H') ⟨upd_same, Ext.new hD⟩ (fun _ _ _ _ => trivial) ?_ ?_
          · rintro i y H1 H2 hi ⟨hd, he⟩ ⟨rfl, c, hc, rfl⟩
            refine ⟨rfl, yes_of ?_⟩
            refine ⟨_, rfl, c, _, rfl, rfl, _, hd, ?_, ?_, fun a o e => ?_⟩
            · have := len_cps x
              rw [List.length_map, List.length_map, List.length_take]
              exact small1000 (by omega)
            · rw [upd_same, take_succ_map isL (cps_at hc), List.map_append]
              rfl
            · rw [upd_ne (ne_of_none e hD)]
              exact he a o e
          · rintro H1 ⟨hd, he⟩
            refine ⟨D, _, rfl, SqL.of hd, ?_⟩
            rw [← cps_len, List.take_length, List.all_map]
            exact k H1 he
    · rcases hv with h | h | h | h | h | h <;> exact ⟨_, rfl, _, _, _, _, false, rfl, .ty _, h.x, kit_ty (by decide +kernel), false, rfl, iteT (k H Ext.refl)⟩
theorem scInt : FnScope ["value"] ["value"] (defScope sInt) := ⟨rfl, rfl, rfl, by decide +kernel, rfl, by decide +kernel, by decide +kernel⟩
theorem scAmount : FnScope ["value"] ["value"] (defScope sAmount) := ⟨rfl, rfl, rfl, by decide +kernel, rfl, by decide +kernel, by decide +kernel⟩
/-- what is_int tells of a value -/
def IntV (H : Hp) (v : V) (r : Bool) : Prop := (∃ i, v = .int i ∧ r = true) ∨ (r = false ∧ (TyT H v "NoneType" ∨ TyT H v "bool" ∨ TyT H v "str" ∨ TyT H v "list" ∨ TyT H v "tuple" ∨ TyT H v "dict"))
def spInt : Sp := fun vs H Q _ => ∃ v r, vs = [v] ∧ IntV H v r ∧ Q (.bl r) H
theorem ok_int {f : Addr} {fd : FuncData} (F : Fun K "is_int" "is_int" sInt f fd) (T : Names mg) : FnOk P w K mg base CX0 1 f fd ["value"] spInt := by
  refine F.ok scInt (fun vs H Q E h => ?_) (fun cdv A outer s H vs Q E hr h => ?_)
  · obtain ⟨v, r, rfl, _⟩ := h
    rfl
  · obtain ⟨v, r, rfl, hv, k⟩ := h
    refine ⟨_, pss_one (ps_ret (pe_and (pe_callB call_isi rfl T.isi (by decide +kernel) (pa_cons (pv 0) (pa_cons (pe_bltn (v := .ty "int") rfl T.int (by decide +kernel) rfl) pa_nil))) (pe_one (pe_not (pe_callB call_isi rfl T.isi (by decide +kernel) (pa_cons (pv 0) (pa_cons (pe_bltn (v := .ty "bool") rfl T.bool (by decide +kernel) rfl) pa_nil))))))), ?_⟩
    rcases hv with ⟨i, rfl, rfl⟩ | ⟨rfl, hv⟩
    · refine ⟨_, rfl, _, _, _, _, true, rfl, .ty _, (TyT.int i).x, kit_ty (by decide +kernel), true, rfl, iteT ?_⟩
      exact ⟨_, rfl, _, _, _, _, false, rfl, .ty _, (TyT.int i).x, kit_ty (by decide +kernel), _, rfl, k⟩
    · rcases hv with h | h | h | h | h | h
      all_goals first
        | exact ⟨_, rfl, _, _, _, _, true, rfl, .ty _, h.x, kit_ty (by decide +kernel), true, rfl, iteT ⟨_, rfl, _, _, _, _, true, rfl, .ty _, h.x, kit_ty (by decide +kernel), _, rfl, k⟩⟩
        | exact ⟨_, rfl, _, _, _, _, false, rfl, .ty _, h.x, kit_ty (by decide +kernel), false, rfl, iteF k⟩
theorem ok_amount {f fI : Addr} {fd fdI : FuncData} (F : Fun K "is_amount" "is_amount" sAmount f fd) (T : Names mg) (GI : FnOk P w K mg base CX0 1 fI fdI ["value"] spInt) (bI : Binds K fdI ["value"] []) (kI : PySem.W.keepIn K (.ref fI) = true) (mI : mg "is_int" = some (.ref fI)) :
    FnOk P w K mg base CX0 2 f fd ["value"] spAmt := by
  refine F.ok scAmount (fun vs H Q E h => ?_) (fun cdv A outer s H vs Q E hr h => ?_)
  · obtain ⟨v, r, rfl, _⟩ := h
    rfl
  · obtain ⟨v, r, rfl, hv, k⟩ := h
    obtain ⟨t3, hG⟩ := T.largest
    refine ⟨_, pss_one (ps_ret (pe_and (pe_call GI hr rfl mI kI bI .nil pass0 (pa_cons (pv 0) pa_nil)) (pe_one (pe_chain op_le op_le pe_int (pv 0) (pe_glob (v := .int 1000000000) rfl hG ⟨_, rfl⟩))))), ?_⟩
    rcases hv with ⟨i, rfl, rfl⟩ | ⟨rfl, hv⟩
    · refine ⟨_, rfl, _, _, rfl, .inl ⟨i, rfl, rfl⟩, true, rfl, iteT ?_⟩
      refine ⟨_, rfl, _, _, rfl, rfl, _, rfl, ?_⟩
      unfold amtOk at k
      refine ite2 (fun e => ?_) (fun e => ?_)
      · refine ⟨_, _, rfl, rfl, ?_⟩
        rw [e, Bool.true_and] at k
        exact k H Ext.refl
      · rw [Bool.eq_false_iff.mpr e, Bool.false_and] at k
        exact k H Ext.refl
    · exact ⟨_, rfl, _, _, rfl, .inr ⟨rfl, hv⟩, false, rfl, iteF (k H Ext.refl)⟩
/-! ### is_row, of a row that may stand there -/
def RowAt (H : Hp) (v : V) (r : FRow) : Prop := ∃ p, v = V.ref p ∧ H p = some (.tup [.str r.1, parV r.2])
def RowsAt (H : Hp) (vs : List V) (rs : List FRow) : Prop := vs.length = rs.length ∧ ∀ (i : Nat) (r : FRow), rs[i]? = some r → ∃ p, vs[i]? = some (V.ref p) ∧ H p = some (.tup [.str r.1, parV r.2])
theorem RowsAt.ext {H H' : Hp} {vs : List V} {rs : List FRow} (h : RowsAt H vs rs) (k : Ext H H') : RowsAt H' vs rs :=
  ⟨h.1, fun i r hr => by obtain ⟨p, a, b⟩ := h.2 i r hr; exact ⟨p, a, k _ _ b⟩⟩
def spRow : Sp := fun vs H Q _ => ∃ (v : V) (e : Addr) (r : FRow) (E : List Str), vs = [v, .ref e] ∧ RowAt H v r ∧ H e = some (.lst (E.map V.str)) ∧ RowOk E r ∧ ∀ H', Ext H H' → Q (.bl true) H'
theorem scRow : FnScope ["value", "earlier", "name", "parent"] ["value", "earlier"] (defScope sRow) := ⟨rfl, rfl, rfl, by decide +kernel, rfl, by decide +kernel, by decide +kernel⟩
theorem ok_row {f fN : Addr} {fd fdN : FuncData} (F : Fun K "is_row" "is_row" sRow f fd) (T : Names mg) (GN : FnOk P w K mg base CX0 1 fN fdN ["value"] spName) (bN : Binds K fdN ["value"] []) (kN : PySem.W.keepIn K (.ref fN) = true) (mN : mg "is_name" = some (.ref fN)) :
    FnOk P w K mg base CX0 2 f fd ["value", "earlier"] spRow := by
  refine F.ok scRow (fun vs H Q E h => ?_) (fun cdv A outer s H vs Q E hr h => ?_)
  · obtain ⟨v, e, r, E, rfl, _⟩ := h
    rfl
  · obtain ⟨v, e, r, E, rfl, ⟨p, rfl, hp⟩, he, ⟨r1, r2, r3⟩, k⟩ := h
    have hu := hu_of hr
    have nd := scRow.nd
    refine ⟨_, pss_cons (ps_if (PW.pt (pw_or (pt_not (pt_val (pe_callB call_isi rfl T.isi (by decide +kernel) (pa_cons (pv 0) (pa_cons (pe_bltn (v := .ty "tuple") rfl T.tuple (by decide +kernel) rfl) pa_nil))))) (pw_or1 (pt_cmpR op_ne (pe_callB call_len_seq rfl T.len PySem.boot_len (pa_cons (pv 0) pa_nil)) pe_int (nomark _))))) (pss_one (ps_ret pe_bl)) pss_nil)
      (pss_cons (ps_asg (pv 0) (by exact (pg_tup rfl (pgs_cons (pg_name (i := 2) nd rfl (.inl rfl)) (pgs_cons (pg_name (i := 3) nd rfl (.inl rfl)) pgs_nil)))))
      (pss_cons (ps_if (PW.pt (pw_or (pt_not (pt_val (pe_call GN hr rfl mN kN bN .nil pass0 (pa_cons (pv 2) pa_nil)))) (pw_or1 (pt_cmpR op_in_seq (pv 2) (pv 1) rfl)))) (pss_one (ps_ret pe_bl)) pss_nil)
      (pss_one (ps_ret (pe_or (pe_cmpR op_isN (pv 3) pe_non (nomark _)) (pe_one (pe_cmpR op_in_seq (pv 3) (pv 1) rfl))))))), ?_⟩
    refine ⟨_, rfl, _, _, _, _, true, rfl, .ty _, (TyT.tup hp).x, kit_ty (by decide +kernel), true, rfl, iteF ?_⟩
    refine ⟨_, rfl, p, _, rfl, .inr (SqT.of hp), rfl, _, rfl, iteNS rfl ?_⟩
    refine ⟨_, rfl, p, _, rfl, SqT.of hp, rfl, _, _, rfl, _, _, rfl, rfl, ?_⟩
    refine ⟨_, rfl, _, _, rfl, .inl ⟨r.1, rfl, name_asc19 r1, rfl⟩, fun H1 k1 => ?_⟩
    rw [r1]
    refine ⟨true, rfl, iteF ?_⟩
    refine ⟨_, rfl, _, rfl, e, _, rfl, .inl (SqL.of (k1 _ _ he)), rfl, strs_flat E, _, rfl, ?_⟩
    rw [inV_strs, decide_eq_false r2]
    refine iteF ?_
    refine ⟨_, rfl, rfl, ?_⟩
    cases e2 : r.2 with
    | none =>
      refine ⟨true, rfl, iteT ?_⟩
      exact k _ k1
    | some m =>
      refine ⟨false, rfl, iteF ?_⟩
      refine ⟨_, rfl, _, rfl, e, _, rfl, .inl (SqL.of (k1 _ _ he)), rfl, strs_flat E, ?_⟩
      show Q (.bl (inV (.str m) (E.map V.str))) H1
      rw [inV_strs, decide_eq_true (r3 m e2)]
      exact k _ k1
/-! ### first_wrong, of rows of a forest -/
def spWrong (K : PySem.W.Frag) : Sp := fun vs H Q _ => ∃ (l : Addr) (xs : List V) (rs : List FRow), vs = [.ref l] ∧ SqL K H l xs ∧ (∀ H', Ext H H' → SqL K H' l xs) ∧ RowsAt H xs rs ∧ GoodF [] rs ∧ rs.length ≤ 1000 ∧ ∀ H', Ext H H' → Q (.int rs.length) H'
theorem scWrong : FnScope ["rows", "earlier", "at", "row"] ["rows"] (defScope sWrong) := ⟨rfl, rfl, rfl, by decide +kernel, rfl, by decide +kernel, by decide +kernel⟩
theorem ok_wrong {f fR : Addr} {fd fdR : FuncData} (F : Fun K "first_wrong" "first_wrong" sWrong f fd) (T : Names mg) (GR : FnOk P w K mg base CX0 2 fR fdR ["value", "earlier"] spRow) (bR : Binds K fdR ["value", "earlier"] []) (kR : PySem.W.keepIn K (.ref fR) = true) (mR : mg "is_row" = some (.ref fR)) :
    FnOk P w K mg base CX0 3 f fd ["rows"] (spWrong K) := by
  refine F.ok scWrong (fun vs H Q E h => ?_) (fun cdv A outer s H vs Q E hr h => ?_)
  · obtain ⟨l, xs, rs, rfl, _⟩ := h
    rfl
  · obtain ⟨l, xs, rs, rfl, hl, hlk, hR, hg, hn, k⟩ := h
    have hu := hu_of hr
    have nd := scWrong.nd
    refine ⟨_, pss_cons (ps_set (i := 1) nd rfl (.inl rfl) (pe_lst pa_nil))
      (pss_cons (ps_for PassesOwn.never rfl (pi_enum rfl T.enum (pa_cons (pv 0) pa_nil)) (by exact (pg_tup rfl (pgs_cons (pg_name (i := 2) nd rfl (.inl rfl)) (pgs_cons (pg_name (i := 3) nd rfl (.inl rfl)) pgs_nil))))
        (pss_cons (ps_if (pt_not (pt_val (pe_call GR hr rfl mR kR bR .nil pass0 (pa_cons (pv 3) (pa_cons (pv 1) pa_nil))))) (pss_one (ps_ret (pv 2))) pss_nil)
        (pss_one (ps_expr (pe_bm PySem.F.plainAttrs_list PySem.F.slot_list_append PySem.F.type_list_append mt_append (pv 1) (pa_cons (pe_ix ix_tup (pv 3) pe_int (fun _ _ => rfl)) pa_nil))))))
      (pss_one (ps_ret (pe_callB call_len_seq rfl T.len PySem.boot_len (pa_cons (pv 0) pa_nil))))), ?_⟩
    refine ⟨Nat.zero_le _, fun e he => ?_⟩
    refine ⟨_, rfl, l, xs, rfl, hlk _ (Ext.new he), ?_⟩
    refine for_it walk_enum (fun i σ H' => ∃ (v2 v3 : Option V), σ = [some (.ref l), some (.ref e), v2, v3] ∧ H' e = some (.lst ((fNames (rs.take i)).map V.str)) ∧ Ext H H') ⟨none, none, rfl, upd_same, Ext.new he⟩ (fun i σ H' _ ⟨_, _, _, _, k1⟩ => hlk _ k1) ?_ ?_
    · rintro i x σ H1 H2 hi ⟨v2, v3, rfl, e1, k1⟩ ⟨t, a, b, rfl, ht, rfl, ea, eb⟩
      have ea : some (V.int (i : Nat)) = some a := ea
      cases ea
      have hir : i < rs.length := by have := hR.1; omega
      obtain ⟨p, h1, h2⟩ := hR.2 i _ (List.getElem?_eq_getElem hir)
      have eb : xs[i]? = some b := eb
      rw [h1] at eb
      cases eb
      have ok := good_at hg (List.getElem?_eq_getElem hir)
      rw [List.nil_append] at ok
      have k2 : Ext H (upd H1 t (.tup [.int (i : Nat), .ref p])) := k1.trans (Ext.new ht)
      have e2 : (upd H1 t (.tup [.int (i : Nat), .ref p])) e = some (.lst ((fNames (rs.take i)).map V.str)) := new_same ht _ _ e1
      refine ⟨t, _, rfl, SqT.of upd_same, rfl, _, _, rfl, _, _, rfl, rfl, ?_⟩
      refine ⟨_, rfl, _, rfl, _, e, rs[i], fNames (rs.take i), rfl, ⟨p, rfl, k2 _ _ h2⟩, e2, ok, fun H3 k3 => ?_⟩
      refine ⟨true, rfl, iteF ?_⟩
      have e3 := k3 _ _ e2
      refine ⟨_, rfl, .inl ⟨rfl, _, SqL.of e3⟩, _, rfl, p, _, _, _, rfl, rfl, SqT.of ((k2.trans k3) _ _ h2), rfl, e, _, _, rfl, rfl, e3, ?_, ?_⟩
      · rw [sizeLine_eq, List.length_map, fNames, List.length_map, List.length_take]
        omega
      · refine ⟨_, _, rfl, ?_, fun a o ha => ?_⟩
        · rw [upd_same, names_take, names_take]
          show _ = some (HO.lst (((fNames rs).take (i + 1)).map V.str))
          rw [List.map_take, List.map_take, List.take_add_one]
          have : (List.map V.str (fNames rs))[i]? = some (V.str rs[i].1) := by
            rw [List.getElem?_map, fNames, List.getElem?_map, List.getElem?_eq_getElem hir]
            rfl
          rw [this]
          rfl
        · rw [upd_ne (ne_of_none ha he)]
          exact k3 _ _ (k2 _ _ ha)
    · rintro σ H1 ⟨v2, v3, rfl, e1, k1⟩
      refine ⟨_, rfl, l, xs, rfl, .inl (hlk _ k1), ?_⟩
      rw [hR.1]
      exact k _ k1
end
end Lw

set_option Elab.async false
set_option linter.all false
set_option maxRecDepth 100000
set_option maxHeartbeats 4000000
namespace Lw
open L2 hiding Ext
open PySem PySem.Spec PyProof.Rows Gn Gr Gk Go Gt Gf
/-- what of the text the class Forest has -/
structure FC (K : PySem.W.Frag) (mg : Str → Option Value) (C fI : Addr) (mc : Value) : Prop where
  cl : Cls K C
  make : Mk K C fI
  nP : NoAttr K C "_parents"
  cr : ClX.CRead K C mc
  most : ∃ u, ClX.CVal K C mc "MOST" (.int 8) u
  ha : PySem.W.findIn K (.ref C) "__class__" = some (some (.builtin "object.__class__"))
  hn : PySem.W.specialIn K (.builtin "object.__class__") "__get__" = some (some (.builtin "getset_descriptor.__get__"))
  htk : PySem.W.takesIn K (.builtin "object.__class__") = some true
  hm : PySem.W.mroIn K C (.type "object") = some true
  self : PySem.W.kitOne K (.ref C) (.ref C) = some true
  g : mg "Forest" = some (.ref C)
def kvs (rs : List FRow) : List (Key × V) := rs.map kvOf
def FoAt (C : Addr) (H : Hp) (a : Addr) (rs : List FRow) : Prop := ∃ dx q, H a = some (.ins C dx [("_parents", .ref q)]) ∧ H q = some (.dK (kvs rs))
theorem FoAt.ext {C a : Addr} {H H' : Hp} {rs : List FRow} (h : FoAt C H a rs) (k : Ext H H') : FoAt C H' a rs := by
  obtain ⟨dx, q, h1, h2⟩ := h
  exact ⟨dx, q, k _ _ h1, k _ _ h2⟩
def Good (rs : List FRow) : Prop := 1 ≤ rs.length ∧ rs.length ≤ 8 ∧ GoodF [] rs
theorem kvs_none {rs : List FRow} {n : Str} (h : n ∉ fNames rs) : valV (kvs rs) (Sum.inr n : Key) = none := by
  induction rs with
  | nil => rfl
  | cons r t ih =>
    have h1 : ¬ r.1 = n := fun e => h (by simp [fNames, e])
    have h2 : n ∉ fNames t := fun e => h (List.mem_cons_of_mem _ e)
    show valV ((Sum.inr r.1, parV r.2) :: kvs t) (Sum.inr n : Key) = none
    rw [valV_neg (fun e => h1 (Sum.inr.inj e))]
    exact ih h2
theorem kvs_some : ∀ {rs : List FRow} {r : FRow}, (fNames rs).Nodup → r ∈ rs → valV (kvs rs) (Sum.inr r.1 : Key) = some (parV r.2)
  | [], _, _, h => by cases h
  | x :: t, r, hn, h => by
    have hn' : (x.1 :: fNames t).Nodup := hn
    obtain ⟨n1, n2⟩ := List.nodup_cons.mp hn'
    show valV ((Sum.inr x.1, parV x.2) :: kvs t) (Sum.inr r.1 : Key) = _
    rcases List.mem_cons.mp h with rfl | h
    · exact valV_pos rfl
    · have ne : ¬ x.1 = r.1 := fun e => n1 (by rw [e]; exact List.mem_map.mpr ⟨r, h, rfl⟩)
      rw [valV_neg (fun e => ne (Sum.inr.inj e))]
      exact kvs_some n2 h
section
variable {P : Program} {w : World} {K : PySem.W.Frag} {mg : Str → Option Value} {base : Heap} {C fI : Addr} {mc : Value}
theorem FC.ty (T : FC K mg C fI mc) {H : Hp} {a dx : Addr} {fs : List (Str × V)} (h : H a = some (.ins C dx fs)) : TyX K H (.ref a) (.ref C) := .base (.ins h T.cl T.ha T.hn T.htk T.hm)
/-! ### Forest.__init__ -/
def spInit (C : Addr) : Sp := fun vs H Q _ => ∃ (x l dx : Addr) (xs : List V) (rs : List FRow), vs = [.ref x, .ref l] ∧ H x = some (.ins C dx []) ∧ H l = some (.lst xs) ∧ RowsAt H xs rs ∧ Good rs ∧
  ∀ H' D, (∀ a o, a ≠ x → H a = some o → H' a = some o) → H' x = some (.ins C dx [("_parents", .ref D)]) → H' D = some (.dK (kvs rs)) → Q .non H'
theorem scInit : FnScope ["self", "rows", "name", "parent"] ["self", "rows"] (defScope sInit) := ⟨rfl, rfl, rfl, by decide +kernel, rfl, by decide +kernel, by decide +kernel⟩
theorem ok_init {f fW : Addr} {fd fdW : FuncData} (F : Fun K "__init__" "Forest.__init__" sInit f fd) (T : Names mg) (Z : FC K mg C fI mc) (GW : FnOk P w K mg base CX0 3 fW fdW ["rows"] (spWrong K)) (bW : Binds K fdW ["rows"] []) (kW : PySem.W.keepIn K (.ref fW) = true) (mW : mg "first_wrong" = some (.ref fW)) :
    FnOk P w K mg base CX0 4 f fd ["self", "rows"] (spInit C) := by
  refine F.ok scInit (fun vs H Q E h => ?_) (fun cdv A outer s H vs Q E hr h => ?_)
  · obtain ⟨x, l, dx, xs, rs, rfl, _⟩ := h
    rfl
  · obtain ⟨x, l, dx, xs, rs, rfl, hx, hl, hR, ⟨g1, g8, hg⟩, k⟩ := h
    have hu := hu_of hr
    have nd := scInit.nd
    obtain ⟨um, hM⟩ := Z.most
    refine ⟨_, pss_cons (ps_if (pt_not (pt_val (pe_callB call_isiT rfl T.isi (by decide +kernel) (pa_cons (pv 1) (pa_cons (pe_tup (pa_cons (pe_bltn (v := .ty "list") rfl T.list (by decide +kernel) rfl) (pa_cons (pe_bltn (v := .ty "tuple") rfl T.tuple (by decide +kernel) rfl) pa_nil))) pa_nil))))) pss_never pss_nil)
      (pss_cons (ps_if (PW.pt (pw_or (pt_cmpR op_lt (pe_callB call_len_seq rfl T.len PySem.boot_len (pa_cons (pv 1) pa_nil)) pe_int (nomark _)) (pw_or1 (pt_cmpR op_gt (pe_callB call_len_seq rfl T.len PySem.boot_len (pa_cons (pv 1) pa_nil)) (ClX.pe_cval (pe_glob (v := .ref C) rfl Z.g rfl)) (nomark _))))) pss_never pss_nil)
      (pss_cons (ps_if (pt_cmpR op_lt (pe_call GW hr rfl mW kW bW .nil pass0 (pa_cons (pv 1) pa_nil)) (pe_callB call_len_seq rfl T.len PySem.boot_len (pa_cons (pv 1) pa_nil)) (nomark _)) pss_never pss_nil)
      (pss_one (ps_fld (pv 0) (pe_dc (own := [("name", 2), ("parent", 3)]) (g := gTup K 2 (gCons (gName 2) (gCons (gName 3) gNil))) (tt := tYes) rfl nd (pi_list (pv 1)) (blkOk_by (N := ["self", "rows", "name", "parent"]) (sc := defScope sInit) (by decide +kernel))
        (fun _ _ _ _ _ => by exact (pg_tup rfl (pgs_cons (pg_name (i := 2) nd rfl (.inl rfl)) (pgs_cons (pg_name (i := 3) nd rfl (.inl rfl)) pgs_nil)))) (fun _ _ _ _ _ => pts_nil) (fun _ _ _ _ _ => pv 2) (fun _ _ _ _ _ => pv 3)) rfl)))), ?_⟩
    have hlen : xs.length = rs.length := hR.1
    refine ⟨_, rfl, by show 2 ≤ sizeLine; decide, fun tp htp => ?_⟩
    have hx1 := new_same (o := .tup [.ty "list", .ty "tuple"]) htp _ _ hx
    have hl1 := new_same (o := .tup [.ty "list", .ty "tuple"]) htp _ _ hl
    have k1 : Ext H (upd H tp (.tup [.ty "list", .ty "tuple"])) := Ext.new htp
    have ht1 : (upd H tp (.tup [.ty "list", .ty "tuple"])) tp = some (.tup [.ty "list", .ty "tuple"]) := upd_same
    generalize upd H tp (.tup [.ty "list", .ty "tuple"]) = H1 at hx1 hl1 k1 ht1 ⊢
    refine ⟨_, tp, _, _, [.type "list", .type "tuple"], true, rfl, ht1, .cons (.ty _) (.cons (.ty _) .nil), (TyT.lst hl1).x, kitAny_cons (b := true) (kit_ty (by decide +kernel)) (fun z => by cases z) (fun _ => rfl), true, rfl, iteF ?_⟩
    refine ⟨_, rfl, l, _, rfl, .inl (SqL.of hl1), _, _, rfl, rfl, _, rfl, iteN (by omega) ?_⟩
    refine ⟨_, rfl, l, _, rfl, .inl (SqL.of hl1), C, mc, _, um, rfl, Z.cr, hM, _, _, rfl, rfl, _, rfl, iteN (by omega) ?_⟩
    refine ⟨_, rfl, l, xs, rs, rfl, SqL.of hl1, fun H' k' => SqL.of (k' _ _ hl1), hR.ext k1, hg, by omega, fun H2 k2 => ?_⟩
    have hl2 := k2 _ _ hl1
    have hx2 := k2 _ _ hx1
    refine ⟨_, rfl, l, _, rfl, .inl (SqL.of hl2), _, _, rfl, rfl, _, rfl, iteN (by omega) ?_⟩
    refine ⟨_, rfl, l, rfl, ⟨_, SqL.of hl2⟩, fun D hD => ?_⟩
    refine dc_it walk_list (fun i H' => H' D = some (.dK (kvs (rs.take i))) ∧ Ext H2 H') ⟨upd_same, Ext.new hD⟩ (fun i H' _ ⟨_, e⟩ => SqL.of (e _ _ hl2)) ?_ ?_
    · rintro i y H3 H4 hi ⟨d3, k3⟩ ⟨rfl, hy⟩
      have hir : i < rs.length := by omega
      obtain ⟨p, h1, h2⟩ := hR.2 i _ (List.getElem?_eq_getElem hir)
      rw [h1] at hy
      cases hy
      have ok := good_at hg (List.getElem?_eq_getElem hir)
      rw [List.nil_append] at ok
      refine ⟨p, _, rfl, SqT.of (k3 _ _ (k2 _ _ (k1 _ _ h2))), rfl, _, _, rfl, _, _, rfl, rfl, rfl, yes_of ?_⟩
      refine ⟨_, rfl, _, rfl, kvs (rs.take i), (Sum.inr rs[i].1 : Key), rfl, d3, ?_, ?_, fun a o ha => ?_⟩
      · rw [sizeLine_eq, kvs, List.length_map, List.length_take]
        omega
      · rw [upd_same, putK_new _ (kvs_none ok.2.1)]
        show _ = some (HO.dK ((rs.take (i + 1)).map kvOf))
        rw [take_succ_map kvOf (List.getElem?_eq_getElem hir)]
        rfl
      · rw [upd_ne (ne_of_none ha hD)]
        exact k3 _ _ ha
    · rintro H3 ⟨d3, k3⟩
      rw [hlen, List.take_length] at d3
      refine ⟨_, rfl, x, C, dx, [], rfl, k3 _ _ hx2, Z.cl, Z.nP, by decide, ?_⟩
      refine k _ D (fun a o na ha => ?_) upd_same ?_
      · rw [upd_ne na]
        exact k3 _ _ (k2 _ _ (k1 _ _ ha))
      · rw [upd_ne (ne_of_none hx2 hD).symm]
        exact d3
theorem keys_strs (rs : List FRow) : ((kvs rs).map fun kv => kV kv.1) = (fNames rs).map V.str := by
  unfold kvs fNames
  rw [List.map_map, List.map_map]
  rfl
/-! ### names -/
def spNames (C : Addr) : Sp := fun vs H Q _ => ∃ (a : Addr) (rs : List FRow), vs = [.ref a] ∧ FoAt C H a rs ∧ ∀ H' t, Ext H H' → H t = none → H' t = some (.tup ((fNames rs).map V.str)) → Q (.ref t) H'
theorem scNames : FnScope ["self"] ["self"] (defScope sNames) := ⟨rfl, rfl, rfl, by decide +kernel, rfl, by decide +kernel, by decide +kernel⟩
theorem ok_names {f : Addr} {fd : FuncData} (F : Fun K "names" "Forest.names" sNames f fd) (T : Names mg) (Z : FC K mg C fI mc) : FnOk P w K mg base CX0 1 f fd ["self"] (spNames C) := by
  refine F.ok scNames (fun vs H Q E h => ?_) (fun cdv A outer s H vs Q E hr h => ?_)
  · obtain ⟨a, rs, rfl, _⟩ := h
    rfl
  · obtain ⟨a, rs, rfl, ⟨dx, q, h1, h2⟩, k⟩ := h
    refine ⟨_, pss_one (ps_ret (pe_callTy (call_tuple_dK rfl) rfl T.tuple (by decide +kernel) (pa_cons (pe_fld (pv 0) rfl) pa_nil))), ?_⟩
    refine ⟨_, rfl, a, C, dx, _, _, rfl, h1, Z.cl, Z.nP, rfl, q, _, rfl, h2, fun t ht => ?_⟩
    rw [keys_strs]
    exact k _ t (Ext.new ht) ht upd_same
end
def parOf (rs : List FRow) (n : Str) : Option Str := (rs.find? fun r => decide (r.1 = n)).bind (·.2)
theorem parOf_at : ∀ {rs : List FRow} {r : FRow}, (fNames rs).Nodup → r ∈ rs → parOf rs r.1 = r.2
  | [], _, _, h => by cases h
  | x :: t, r, hn, h => by
    have hn' : (x.1 :: fNames t).Nodup := hn
    obtain ⟨n1, n2⟩ := List.nodup_cons.mp hn'
    unfold parOf
    rcases List.mem_cons.mp h with rfl | h
    · rw [List.find?_cons_of_pos (by simp)]
      rfl
    · have ne : ¬ x.1 = r.1 := fun e => n1 (by rw [e]; exact List.mem_map.mpr ⟨r, h, rfl⟩)
      rw [List.find?_cons_of_neg (by simpa using ne)]
      exact parOf_at n2 h
def ancF (rs : List FRow) : Nat → Str → List Str
  | 0, _ => []
  | k + 1, n => n :: match parOf rs n with
    | none => []
    | some m => ancF rs k m
def ancR (rs : List FRow) (k : Nat) : Option Str → List Str
  | none => []
  | some m => ancF rs k m
theorem ancF_s (rs : List FRow) (k : Nat) (n : Str) : ancF rs (k + 1) n = n :: ancR rs k (parOf rs n) := by
  show n :: _ = n :: _
  cases parOf rs n <;> rfl
section
variable {P : Program} {w : World} {K : PySem.W.Frag} {mg : Str → Option Value} {base : Heap} {C fI : Addr} {mc : Value}
/-! ### ancestors -/
theorem par_idx {rs : List FRow} (hg : GoodF [] rs) {j : Nat} {r : FRow} (h : rs[j]? = some r) {m : Str} (hm : r.2 = some m) : ∃ j' r', j' < j ∧ rs[j']? = some r' ∧ r'.1 = m := by
  have ok := (good_at hg h).2.2 m hm
  rw [List.nil_append] at ok
  obtain ⟨r', h1, h2⟩ := List.mem_map.mp ok
  obtain ⟨j', hj⟩ := List.mem_iff_getElem?.mp h1
  have hlt : j' < j := by
    have := (List.getElem?_eq_some_iff.mp hj).1
    rw [List.length_take] at this
    omega
  rw [List.getElem?_take_of_lt hlt] at hj
  exact ⟨j', r', hlt, hj, h2⟩
def spAnc (C : Addr) : Sp := fun vs H Q _ => ∃ (a : Addr) (rs : List FRow) (i : Nat) (r : FRow), vs = [.ref a, .str r.1] ∧ FoAt C H a rs ∧ Good rs ∧ rs[i]? = some r ∧
  ∀ H' l, Ext H H' → H l = none → H' l = some (.lst ((ancF rs (i + 1) r.1).map V.str)) → Q (.ref l) H'
theorem scAnc : FnScope ["self", "name", "found", "above"] ["self", "name"] (defScope sAnc) := ⟨rfl, rfl, rfl, by decide +kernel, rfl, by decide +kernel, by decide +kernel⟩
theorem ok_anc {f pN fN : Addr} {fd fdN : FuncData} (F : Fun K "ancestors" "Forest.ancestors" sAnc f fd) (T : Names mg) (Z : FC K mg C fI mc) (hpN : PropOf K C "names" pN fN) (GN : FnOk P w K mg base CX0 1 fN fdN ["self"] (spNames C)) (bN : Binds K fdN ["self"] []) :
    FnOk P w K mg base CX0 3 f fd ["self", "name"] (spAnc C) := by
  refine F.ok scAnc (fun vs H Q E h => ?_) (fun cdv A outer s H vs Q E hr h => ?_)
  · obtain ⟨a, rs, i, r, rfl, _⟩ := h
    rfl
  · obtain ⟨a, rs, i, r, rfl, ⟨dx, q, h1, h2⟩, ⟨g1, g8, hg⟩, hi, k⟩ := h
    have hu := hu_of hr
    have nd := scAnc.nd
    have hnd := (good_nodup hg).1
    refine ⟨_, pss_cons (ps_if (pt_cmpR op_notIn_seq (pv 1) (pe_prop (pv 0) Z.cl hpN GN hr bN .nil pass0 rfl) rfl) pss_never pss_nil)
      (pss_cons (ps_set (i := 2) nd rfl (.inl rfl) (pe_lst (pa_cons (pv 1) pa_nil)))
      (pss_cons (ps_set (i := 3) nd rfl (.inl rfl) (pe_dget hu (pe_fld (pv 0) rfl) (pv 1) (fun _ _ => rfl)))
      (pss_cons (ps_while PassesOwn.never (pt_cmpR op_notN (pv 3) pe_non (nomark _))
        (pss_cons (ps_expr (pe_bm PySem.F.plainAttrs_list PySem.F.slot_list_append PySem.F.type_list_append mt_append (pv 2) (pa_cons (pv 3) pa_nil)))
        (pss_one (ps_set (i := 3) nd rfl (.inl rfl) (pe_dget hu (pe_fld (pv 0) rfl) (pv 3) (fun _ _ => rfl))))))
      (pss_one (ps_ret (pv 2)))))), ?_⟩
    have hrm : r ∈ rs := List.mem_of_getElem? hi
    have hin : r.1 ∈ fNames rs := List.mem_map.mpr ⟨r, hrm, rfl⟩
    have hil : i < rs.length := (List.getElem?_eq_some_iff.mp hi).1
    refine ⟨_, rfl, _, rfl, a, dx, _, rfl, h1, a, rs, rfl, ⟨dx, q, h1, h2⟩, fun H1 t k1 ht0 ht => ?_⟩
    refine ⟨t, _, rfl, .inr (SqT.of ht), rfl, strs_flat _, _, rfl, ?_⟩
    rw [inV_strs, decide_eq_true hin]
    refine iteF ?_
    refine ⟨_, rfl, by show 1 ≤ sizeLine; decide, fun l hl => ?_⟩
    have hlH : H l = none := by
      cases e : H l with
      | none => rfl
      | some u => rw [k1 _ _ e] at hl; cases hl
    have k2 : Ext H (upd H1 l (.lst [.str r.1])) := k1.trans (Ext.new hl)
    have hl2 : (upd H1 l (.lst [.str r.1])) l = some (.lst ([r.1].map V.str)) := upd_same
    generalize upd H1 l (.lst [.str r.1]) = H2 at k2 hl2 ⊢
    have get : ∀ {H' : Hp} {x : FRow}, Ext H H' → x ∈ rs → DGet H' q (.str x.1) (some (parV x.2)) := by
      intro H' x kk hx
      rw [← kvs_some hnd hx]
      exact DGet.k (k := Sum.inr x.1) (kk _ _ h2)
    refine ⟨_, rfl, a, C, dx, _, _, rfl, k2 _ _ h1, Z.cl, Z.nP, rfl, _, rfl, q, _, rfl, get k2 hrm, ?_⟩
    refine while_by (fun σ H' => ∃ (pq : Option Str) (pre : List Str) (kk : Nat), σ = [some (.ref a), some (.str r.1), some (.ref l), some (parV pq)] ∧ H' l = some (.lst (pre.map V.str)) ∧ pre.length + kk = i + 1 ∧
        (∀ m, pq = some m → ∃ (j : Nat) (r' : FRow), j < kk ∧ rs[j]? = some r' ∧ r'.1 = m) ∧ pre ++ ancR rs kk pq = ancF rs (i + 1) r.1 ∧ Ext H H')
      (fun _ H' => match H' l with | some (.lst xs) => 100 - xs.length | _ => 0) ⟨r.2, [r.1], i, rfl, hl2, by simp; omega, fun m hm => ?_, ?_, k2⟩ ?_ ?_
    · obtain ⟨j', r', a1, a2, a3⟩ := par_idx hg hi hm
      exact ⟨j', r', a1, a2, a3⟩
    · rw [ancF_s, parOf_at hnd hrm]
      rfl
    · rintro σ H3 ⟨pq, pre, kk, rfl, e3, hk, hm, he, k3⟩
      cases pq with
      | none =>
        refine ⟨_, rfl, rfl, _, rfl, iteNS rfl ?_⟩
        refine ⟨_, rfl, k _ l k3 hlH ?_⟩
        rw [e3]
        have : pre = ancF rs (i + 1) r.1 := by rw [← he]; simp [ancR]
        rw [this]
      | some m =>
        obtain ⟨j, r', j1, j2, rfl⟩ := hm m rfl
        have hr' : r' ∈ rs := List.mem_of_getElem? j2
        refine ⟨_, rfl, rfl, _, rfl, ?_⟩
        show if (!decide (V.str r'.1 = V.non)) = true then _ else _
        rw [decide_eq_false (by intro z; cases z)]
        refine iteT ?_
        refine ⟨_, rfl, .inl ⟨rfl, _, SqL.of e3⟩, _, rfl, l, _, _, rfl, rfl, e3, ?_, ?_⟩
        · rw [sizeLine_eq, List.length_map]
          omega
        have k4 : Ext H (upd H3 l (.lst (pre.map V.str ++ [.str r'.1]))) := fun b o hb => by
          rw [upd_ne (ne_of_none hb hlH)]
          exact k3 _ _ hb
        refine ⟨_, rfl, a, C, dx, _, _, rfl, k4 _ _ h1, Z.cl, Z.nP, rfl, _, rfl, q, _, rfl, get k4 hr', ?_⟩
        obtain ⟨kp, rfl⟩ : ∃ kp, kk = kp + 1 := ⟨kk - 1, by omega⟩
        refine ⟨⟨r'.2, pre ++ [r'.1], kp, rfl, by rw [upd_same, List.map_append]; rfl, by rw [List.length_append]; show pre.length + 1 + kp = _; omega, fun m' hm' => ?_, ?_, k4⟩, ?_⟩
        · obtain ⟨j', r'', a1, a2, a3⟩ := par_idx hg j2 hm'
          exact ⟨j', r'', by omega, a2, a3⟩
        · rw [← he]
          show pre ++ [r'.1] ++ ancR rs kp r'.2 = pre ++ ancF rs (kp + 1) r'.1
          rw [ancF_s, parOf_at hnd hr', List.append_assoc]
          rfl
        · show (match (upd H3 l (.lst (pre.map V.str ++ [.str r'.1]))) l with | some (.lst xs) => 100 - xs.length | _ => 0) < (match H3 l with | some (.lst xs) => 100 - xs.length | _ => 0)
          rw [upd_same, e3]
          show 100 - (pre.map V.str ++ [V.str r'.1]).length < 100 - (pre.map V.str).length
          rw [List.length_append, List.length_map]
          show 100 - (pre.length + 1) < _
          omega
    · exact fun σ H Q Q' hq ⟨v, e1, e2, b, e3, h⟩ => ⟨v, e1, e2, b, e3, hq _ _ h⟩
end
end Lw

set_option Elab.async false
set_option linter.all false
set_option maxRecDepth 100000
set_option maxHeartbeats 4000000
namespace Lw
open L2 hiding Ext
open PySem PySem.Spec PyProof.Rows Gn Gr Gk Go Gt Gf
section
variable {P : Program} {w : World} {K : PySem.W.Frag} {mg : Str → Option Value} {base : Heap}
/-- the two defs that draw, as they stand -/
structure Draw (P : Program) (w : World) (K : PySem.W.Frag) (mg : Str → Option Value) (base : Heap) (ns : List Int) (fT fP : Addr) (fdT fdP : FuncData) : Prop where
  GT : FnOk P w K mg base CX0 2 fT fdT ["_law_state", "_law_size"] (spTake ns)
  bT : Binds K fdT ["_law_state", "_law_size"] []
  kT : PySem.W.keepIn K (.ref fT) = true
  mT : mg "_law_take" = some (.ref fT)
  GP : FnOk P w K mg base CX0 3 fP fdP ["_law_state", "_law_some"] (spPick K ns)
  bP : Binds K fdP ["_law_state", "_law_some"] []
  kP : PySem.W.keepIn K (.ref fP) = true
  mP : mg "_law_pick" = some (.ref fP)
  len : mg "len" = none
  range : mg "range" = none
/-! ### _law_words -/
abbrev nWords : List Str := ["_law_state", "_law_size", "_law_own", "_law_letters", "_law_found", "_law_k", "_law_word", "_law_j", "_law_letter", "_law_other"]
def spWords (ns : List Int) : Sp := fun vs H Q _ => ∃ (d g c : Addr) (b : Nat) (z : Int), vs = [.ref d, .int z] ∧ Dw ns d g c b H ∧ b ≤ 900000000 ∧ 0 ≤ z ∧ z ≤ 8 ∧
  ∀ (l : Addr) (ws : List Str) (H' : Hp), H l = none → l ≠ d → l ≠ g → H' l = some (.lst (ws.map V.str)) → ws.length = z.toNat → ws.Nodup → (∀ x ∈ ws, nameOk x = true) → Dw ns d g c (b + 200) H' → Kp d g H H' → Q (.ref l) H'
theorem scWords : FnScope nWords ["_law_state", "_law_size"] (defScope sWords) := ⟨rfl, rfl, rfl, by decide +kernel, rfl, by decide +kernel, by decide +kernel⟩
theorem ok_words {f fT fP : Addr} {fd fdT fdP : FuncData} (ns : List Int) (F : Fun K "_law_words" "_law_words" sWords f fd) (R : Draw P w K mg base ns fT fP fdT fdP) : FnOk P w K mg base CX0 4 f fd ["_law_state", "_law_size"] (spWords ns) := by
  refine F.ok scWords (fun vs H Q E h => ?_) (fun cdv A outer s H vs Q E hr h => ?_)
  · obtain ⟨d, g, c, b, z, rfl, _⟩ := h
    rfl
  · obtain ⟨d, g, c, b, z, rfl, D, hb, z0, z8, k⟩ := h
    have hu := hu_of hr
    have nd := scWords.nd
    have hr2 : Room 2 (A.deeper (envOfC "_law_words" (defScope sWords) s.heap.objs.size f cdv)) := hr.mono (by decide)
    refine ⟨_, pss_cons (ps_set (i := 2) nd rfl (.inl rfl) (pe_split pe_str pe_str))
      (pss_cons (ps_asg (pe_tup (pa_cons pe_str (pa_cons (pe_lst pa_nil) pa_nil))) (by exact (pg_tup rfl (pgs_cons (pg_name (i := 3) nd rfl (.inr rfl)) (pgs_cons (pg_name (i := 4) nd rfl (.inr rfl)) pgs_nil)))))
      (pss_cons (ps_for PassesOwn.never rfl (pi_range1 rfl R.range (pa_cons (pv 1) pa_nil)) (pg_name (i := 5) nd rfl (.inl rfl))
        (pss_cons (ps_set (i := 6) nd rfl (.inr rfl) (pe_call R.GP hr rfl R.mP R.kP R.bP .nil pass0 (pa_cons (pv 0) (pa_cons (pv 2) pa_nil))))
        (pss_cons (ps_if (pt_cmpR op_gt (pe_call R.GT hr2 rfl R.mT R.kT R.bT .nil pass0 (pa_cons (pv 0) (pa_cons pe_int pa_nil))) pe_int (nomark _))
          (pss_one (ps_set (i := 6) nd rfl (.inr rfl) (pe_join pe_str (pe_lc (own := [("_law_j", 7)]) (g := gName 7) (tt := tYes) rfl nd (pi_range1 rfl R.range (pa_cons (pe_call R.GP hr rfl R.mP R.kP R.bP .nil pass0 (pa_cons (pv 0) (pa_cons (pe_lst (pa_cons pe_int (pa_cons pe_int (pa_cons pe_int (pa_cons pe_int pa_nil))))) pa_nil))) pa_nil)) (blkOk_by (N := nWords) (sc := defScope sWords) (by decide +kernel))
            (fun _ _ _ _ _ => pg_name (i := 7) nd rfl (.inl rfl)) (fun _ _ _ _ _ => pts_nil) (fun _ _ _ _ _ => pe_call R.GP hr rfl R.mP R.kP R.bP .nil pass0 (pa_cons (pv 0) (pa_cons (pv 3) pa_nil))))))) pss_nil)
        (pss_cons (ps_if (pt_cmpR op_in_seq (pv 6) (pv 4) rfl)
          (pss_one (ps_set (i := 6) nd rfl (.inr rfl) (pe_ix ix_list (pe_lc (own := [("_law_other", 9)]) (g := gName 9) rfl nd (pi_list
              (pe_lc (own := [("_law_letter", 8)]) (g := gName 8) (tt := tYes) rfl nd (pi_str (pv 3)) (blkOk_by (N := nWords) (sc := defScope sWords) (by decide +kernel))
                (fun _ _ _ _ _ => pg_name (i := 8) nd rfl (.inl rfl)) (fun _ _ _ _ _ => pts_nil) (fun _ _ _ _ _ => pe_op op_add_str (pe_op op_add_str (pe_slice sl_str (pv 6) po_none (po_some pe_int)) pe_str) (pv 8)))) (blkOk_by (N := nWords) (sc := defScope sWords) (by decide +kernel))
              (fun _ _ _ _ _ => pg_name (i := 9) nd rfl (.inl rfl)) (fun _ _ _ _ _ => pts_one (pt_cmpR (r := rIn K true) op_notIn_seq (pv 9) (pv 4) rfl)) (fun _ _ _ _ _ => pv 9)) pe_int (fun _ _ => rfl)))) pss_nil)
        (pss_one (ps_expr (pe_bm PySem.F.plainAttrs_list PySem.F.slot_list_append PySem.F.type_list_append mt_append (pv 4) (pa_cons (pv 6) pa_nil))))))))
      (pss_one (ps_ret (pv 4))))), ?_⟩
    have ho1 : (ownText.length : Nat) ≤ 100 := by decide +kernel
    refine ⟨⟨_, rfl⟩, ownText, _, rfl, rfl, by decide +kernel, by rw [sizeLine_eq]; omega, fun o hoN => ?_⟩
    have Do := D.new (o := .lst (owns.map V.str)) hoN
    have hno : o ≠ d := D.nd hoN
    have hgo : o ≠ g := D.ng hoN
    have ho : (upd H o (.lst (owns.map V.str))) o = some (.lst (owns.map V.str)) := upd_same
    have ko : Kp d g H (upd H o (.lst (owns.map V.str))) := Kp.new hoN
    show tSeq _ _ _ _ (upd H o (.lst (owns.map V.str)))
    generalize upd H o (.lst (owns.map V.str)) = H1 at Do ho ko ⊢
    refine ⟨Nat.zero_le _, fun l hl => ?_⟩
    have Dl := Do.new (o := .lst []) hl
    have hnl : l ≠ d := Do.nd hl
    have hgl : l ≠ g := Do.ng hl
    have hcl : l ≠ c := fun e => by rw [e, Do.cl] at hl; cases hl
    have hol : l ≠ o := (ne_of_none ho hl).symm
    have hlH : H l = none := D.free Do ko hl
    have kl : Kp d g H (upd H1 l (.lst [])) := ko.trans (Kp.new hl)
    have ho2 := new_same (o := .lst []) hl _ _ ho
    have hl2 : (upd H1 l (.lst [])) l = some (.lst (([] : List Str).map V.str)) := upd_same
    generalize upd H1 l (.lst []) = H2 at Dl kl ho2 hl2 ⊢
    refine ⟨by show 2 ≤ sizeLine; decide, fun t ht => ?_⟩
    have Dt := Dl.new (o := .tup [.str letters, .ref l]) ht
    have kt : Kp d g H (upd H2 t (.tup [.str letters, .ref l])) := kl.trans (Kp.new ht)
    have ho3 := new_same (o := .tup [.str letters, .ref l]) ht _ _ ho2
    have hl3 := new_same (o := .tup [.str letters, .ref l]) ht _ _ hl2
    refine ⟨t, _, rfl, SqT.of upd_same, rfl, _, _, rfl, _, _, rfl, rfl, ?_⟩
    show tSeq _ _ _ _ (upd H2 t (.tup [.str letters, .ref l]))
    generalize upd H2 t (.tup [.str letters, .ref l]) = H3 at Dt kt ho3 hl3 ⊢
    refine ⟨_, rfl, z, rfl, by omega, by omega, for_range (lo := 0) (n := z.toNat) (fun i σ H' => ∃ (v5 v6 : Option V) (ws : List Str), σ = [some (.ref d), some (.int z), some (.ref o), some (.str letters), some (.ref l), v5, v6, none, none, none] ∧
        H' o = some (.lst (owns.map V.str)) ∧ H' l = some (.lst (ws.map V.str)) ∧ ws.length = i ∧ ws.Nodup ∧ (∀ x ∈ ws, nameOk x = true) ∧ Dw ns d g c (b + 20 * i) H' ∧ Kp d g H H')
      ⟨none, none, [], rfl, ho3, hl3, rfl, List.nodup_nil, (fun x hx => by cases hx), Dt, kt⟩ ?_ ?_⟩
    · rintro i σ H4 hi ⟨v5, v6, ws, rfl, o4, l4, wl, wn, wok, D4, k4⟩
      refine ⟨_, rfl, _, rfl, d, g, c, _, D4, by omega, .inl ⟨o, _, rfl, o4, hno, hgo, by rw [List.length_map, owns_len]; decide, by rw [List.length_map, owns_len]; decide, fun y H5 hy D5 k5 => ?_⟩⟩
      obtain ⟨w0, hw0, rfl⟩ := List.mem_map.mp hy
      have hw0 := owns_ok w0 hw0
      refine ⟨_, rfl, d, g, c, _, 3, rfl, D5, by omega, by decide, by decide, fun r H6 r0 r1 D6 k6 => ?_⟩
      have l6 := k6 _ _ hnl hgl (k5 _ _ hnl hgl l4)
      have o6 := k6 _ _ hno hgo (k5 _ _ hno hgo o4)
      have k46 : Kp d g H H6 := (k4.trans k5).trans k6
      have fin : ∀ (wd : Str) (H' : Hp) (v5' : Option V), nameOk wd = true → wd ∉ ws → H' o = some (.lst (owns.map V.str)) → H' l = some (.lst (ws.map V.str)) → Dw ns d g c (b + 20 * i + 20) H' → Kp d g H H' →
          ∃ (v5 v6 : Option V) (ws' : List Str), [some (.ref d), some (.int z), some (.ref o), some (.str letters), some (.ref l), v5', some (.str wd), none, none, none] = [some (.ref d), some (.int z), some (.ref o), some (.str letters), some (.ref l), v5, v6, none, none, none] ∧
            (upd H' l (.lst (ws.map V.str ++ [V.str wd]))) o = some (.lst (owns.map V.str)) ∧ (upd H' l (.lst (ws.map V.str ++ [V.str wd]))) l = some (.lst (ws'.map V.str)) ∧ ws'.length = i + 1 ∧ ws'.Nodup ∧ (∀ x ∈ ws', nameOk x = true) ∧ Dw ns d g c (b + 20 * (i + 1)) (upd H' l (.lst (ws.map V.str ++ [V.str wd]))) ∧ Kp d g H (upd H' l (.lst (ws.map V.str ++ [V.str wd]))) := by
        intro wd H' v5' h1 h2 h3 h4 h5 h6
        refine ⟨_, _, ws ++ [wd], rfl, by rw [upd_ne hol.symm]; exact h3, by rw [upd_same, List.map_append]; rfl, by rw [List.length_append, wl]; rfl, ?_, fun x hx => ?_, (h5.put h4 hnl hgl hcl).mono (by omega), fun a u n1 n2 ha => ?_⟩
        · refine List.nodup_append.mpr ⟨wn, by simp, fun a ha a' ha' => ?_⟩
          rw [List.mem_singleton] at ha'
          subst ha'
          exact fun e => h2 (e ▸ ha)
        · rcases List.mem_append.mp hx with hx | hx
          · exact wok x hx
          · rw [List.mem_singleton.mp hx]
            exact h1
        · rw [upd_ne (ne_of_none ha hlH)]
          exact h6 a u n1 n2 ha
      refine ⟨_, _, rfl, rfl, _, rfl, ?_⟩
      refine ite2 (fun e => ?A) (fun e => ?B)
      case' A =>
        refine ⟨⟨_, rfl⟩, _, rfl, by show 4 ≤ sizeLine; decide, fun q hq => ?_⟩
        have D7 := D6.new (o := .lst [.int 1, .int 1, .int 2, .int 8]) hq
        refine ⟨d, g, c, _, D7, by omega, .inl ⟨q, _, rfl, upd_same, D6.nd hq, D6.ng hq, by show 0 < 4; decide, by show 4 ≤ 1000000; decide, fun y2 H8 hy2 D8 k8 => ?_⟩⟩
        obtain ⟨j, rfl, j1, j8⟩ := sizes1128 _ hy2
        have l8 := k8 _ _ hnl hgl (new_same (o := .lst [.int 1, .int 1, .int 2, .int 8]) hq _ _ l6)
        have o8 := k8 _ _ hno hgo (new_same (o := .lst [.int 1, .int 1, .int 2, .int 8]) hq _ _ o6)
        have k48 : Kp d g H H8 := (k46.trans (Kp.new hq)).trans k8
        refine ⟨j, rfl, by omega, by omega, fun L hL => ?_⟩
        have nL : L ≠ d := D8.nd hL
        have gL : L ≠ g := D8.ng hL
        have cL : L ≠ c := fun e => by rw [e, D8.cl] at hL; cases hL
        refine lc_range (lo := 0) (n := j.toNat) (fun i' H' => ∃ cs : List Nat, H' L = some (.lst ((cs.map cand.oneS').map V.str)) ∧ cs.length = i' ∧ (∀ x ∈ cs, x ∈ letters.cps.toList) ∧ Dw ns d g c (b + 20 * i + 3 + i') H' ∧ Kp d g H8 H')
          ⟨[], upd_same, rfl, (fun x hx => by cases hx), (D8.new hL).mono (by omega), Kp.new hL⟩ ?_ ?_
        · rintro i' H9 hi' ⟨cs, d9, cl, cok, D9, k9⟩
          refine ⟨rfl, yes_of ?_⟩
          refine ⟨_, rfl, _, rfl, d, g, c, _, D9, by omega, .inr ⟨_, rfl, by decide +kernel, by decide +kernel, fun y3 H10 hy3 D10 k10 => ?_⟩⟩
          have d10 := k10 _ _ nL gL d9
          refine ⟨_, d10, ?_, cs ++ [y3], ?_, by rw [List.length_append, cl]; rfl, fun x hx => ?_, (D10.put d10 nL gL cL).mono (by omega), fun a u n1 n2 ha => ?_⟩
          · rw [List.length_map, List.length_map]
            exact small1000 (by omega)
          · rw [upd_same, List.map_append, List.map_append]
            rfl
          · rcases List.mem_append.mp hx with hx | hx
            · exact cok x hx
            · rw [List.mem_singleton.mp hx]
              exact hy3
          · rw [upd_ne (ne_of_none ha hL)]
            exact k10 _ _ n1 n2 (k9 _ _ n1 n2 ha)
        rintro H9 ⟨cs, d9, cl, cok, D9, k9⟩
        have jw : nameOk (Txt.join Str.empty (cs.map cand.oneS')) = true := by
          have e9 := join_signs cs
          refine nameOk_of ?_ ?_ (fun x hx => ?_)
          · rw [← len_cps, e9]; omega
          · rw [← len_cps, e9]; omega
          · rw [e9] at hx
            exact cok x hx
        refine ⟨_, L, cs.map cand.oneS', rfl, rfl, .inl (SqL.of d9), ?_, ?_⟩
        · have e0 : ("" : Str).length = 0 := by decide +kernel
          have hs := sum_le (fun y : Str => y.length) (b := 1) (cs.map cand.oneS') fun x hx => by
            obtain ⟨x', _, rfl⟩ := List.mem_map.mp hx
            exact Nat.le_refl 1
          rw [List.length_map] at hs ⊢
          rw [e0]
          omega
        rw [e_eq]
        obtain ⟨wd, hwd, hwk⟩ : ∃ wd, wd = Txt.join Str.empty (cs.map cand.oneS') ∧ nameOk wd = true := ⟨_, rfl, jw⟩
        rw [← hwd]
        have lT := k9 _ _ hnl hgl l8
        have oT := k9 _ _ hno hgo o8
        have kT : Kp d g H H9 := k48.trans k9
        have DT : Dw ns d g c (b + 20 * i + 15) H9 := D9.mono (by omega)
        generalize H9 = HT at lT oT kT DT ⊢
      case' B =>
        obtain ⟨wd, hwd, hwk⟩ : ∃ wd, wd = w0 ∧ nameOk wd = true := ⟨_, rfl, hw0⟩
        rw [← hwd]
        have lT := l6
        have oT := o6
        have kT := k46
        have DT : Dw ns d g c (b + 20 * i + 15) H6 := D6.mono (by omega)
        generalize H6 = HT at lT oT kT DT ⊢
      all_goals
        refine ⟨_, rfl, _, rfl, l, _, rfl, .inl (SqL.of lT), rfl, strs_flat ws, _, rfl, ?_⟩
        rw [inV_strs]
        refine ite2 (fun e => ?_) (fun e => ?_)
        · have hwl := (name_len hwk).2
          refine ⟨_, rfl, letters, rfl, fun D1 hD1 => ?_⟩
          refine lc_it walk_str (fun i' H' => H' D1 = some (.lst (((letters.cps.toList.take i').map (cand wd)).map V.str)) ∧ Ext HT H') ⟨upd_same, Ext.new hD1⟩ (fun _ _ _ _ => trivial) ?_ ?_
          · rintro i' y H1' H2' hi' ⟨hd', he'⟩ ⟨rfl, c', hc', rfl⟩
            have hc2 := cps_at hc'
            refine ⟨rfl, yes_of ?_⟩
            have h6 := cut6 wd
            refine ⟨_, rfl, 6, rfl, wd, rfl, by rw [sizeLine_eq]; omega, _, _, rfl, rfl, by rw [z_len, sizeLine_eq]; omega, _, rfl, _, _, rfl, rfl, by rw [strlen, z_len, sizeLine_eq]; show _ + 1 + 1 ≤ _; omega, _, hd', ?_, ?_, fun a u ha => ?_⟩
            · have : letters.cps.toList.length = 26 := by decide +kernel
              rw [List.length_map, List.length_map, List.length_take]
              exact small1000 (by omega)
            · rw [upd_same, take_succ_map (cand wd) hc2, List.map_append]
              rfl
            · rw [upd_ne (ne_of_none ha hD1)]
              exact he' _ _ ha
          rintro H1' ⟨hd', he'⟩
          rw [← cps_len, List.take_length] at hd'
          have hd' : H1' D1 = some (.lst ((cands wd).map V.str)) := hd'
          have oT1 := he' _ _ oT
          have lT1 := he' _ _ lT
          refine ⟨D1, rfl, ⟨_, SqL.of hd'⟩, fun D2 hD2 => ?_⟩
          refine lc_it walk_list (fun i' H' => H' D2 = some (.lst ((((cands wd).take i').filter (fun y => !decide (y ∈ ws))).map V.str)) ∧ Ext H1' H') ⟨upd_same, Ext.new hD2⟩ (fun i H' _ ⟨_, e⟩ => SqL.of (e _ _ hd')) ?_ ?_
          · rintro i' y H2' H3' hi' ⟨d2, k2⟩ ⟨rfl, hy⟩
            rw [List.getElem?_map] at hy
            obtain ⟨x, hx, rfl⟩ := Option.map_eq_some_iff.mp hy
            have ef := filter_take (fun y => !decide (y ∈ ws)) hx
            refine ⟨rfl, _, rfl, _, rfl, l, _, rfl, .inl (SqL.of (k2 _ _ lT1)), rfl, strs_flat ws, ?_⟩
            show ∃ b, V.bl (!inV (.str x) (ws.map V.str)) = V.bl b ∧ _
            rw [inV_strs]
            refine ⟨_, rfl, ite2 (fun e => ?_) (fun e => ?_)⟩
            · rw [if_pos e] at ef
              refine ⟨_, rfl, _, d2, ?_, ?_, fun a u ha => ?_⟩
              · have h1 := List.length_filter_le (fun y => !decide (y ∈ ws)) ((cands wd).take i')
                rw [List.length_take, cands_len] at h1
                rw [List.length_map]
                exact small1000 (by omega)
              · rw [upd_same, ef, List.map_append]
                rfl
              · rw [upd_ne (ne_of_none ha hD2)]
                exact k2 _ _ ha
            · rw [if_neg e, List.append_nil] at ef
              exact ⟨by rw [ef]; exact d2, k2⟩
          rintro H2' ⟨d2, k2⟩
          rw [List.length_map, List.take_length] at d2
          obtain ⟨w1, rst, e1, m1, n1⟩ := fresh_cand wd (fs := ws) (by omega)
          rw [e1] at d2
          have w1ok : nameOk w1 = true := by
            obtain ⟨c', hc', rfl⟩ := List.mem_map.mp m1
            exact cand_ok (lo_of hwk) hc'
          refine ⟨D2, _, _, V.str w1, rfl, rfl, SqL.of d2, (show atI (V.str w1 :: rst.map V.str) ((0 : Nat) : Int) = some (V.str w1) from atI_nat rfl), ?_⟩
          have lT2 := k2 _ _ lT1
          refine ⟨_, rfl, .inl ⟨rfl, _, SqL.of lT2⟩, _, rfl, l, _, _, rfl, rfl, lT2, by rw [List.length_map]; exact small1000 (by omega), ?_⟩
          exact fin _ _ _ w1ok n1 (k2 _ _ oT1) lT2 ((DT.keep fun a u ha => k2 _ _ (he' _ _ ha)).mono (by omega)) (kT.trans (Kp.of fun a u ha => k2 _ _ (he' _ _ ha)))
        · have e : wd ∉ ws := fun m => e (decide_eq_true m)
          refine ⟨_, rfl, .inl ⟨rfl, _, SqL.of lT⟩, _, rfl, l, _, _, rfl, rfl, lT, by rw [List.length_map]; exact small1000 (by omega), ?_⟩
          exact fin _ _ _ hwk e oT lT (DT.mono (by omega)) kT
    · rintro σ H4 ⟨v5, v6, ws, rfl, o4, l4, wl, wn, wok, D4, k4⟩
      exact ⟨_, rfl, k l ws H4 hlH hnl hgl l4 wl wn wok (D4.mono (by omega)) k4⟩
end
theorem RowsAt.kp {ns : List Int} {d g c : Addr} {b : Nat} {H H' : Hp} {vs : List V} {rs : List FRow} (h : RowsAt H vs rs) (D : Dw ns d g c b H) (k : Kp d g H H') : RowsAt H' vs rs := by
  obtain ⟨⟨gs, l, t, hd, hg, _, _⟩, _⟩ := D
  exact ⟨h.1, fun i r hr => by
    obtain ⟨p, a, e⟩ := h.2 i r hr
    exact ⟨p, a, k _ _ (ne_of e hd (by intro z; cases z)) (ne_of e hg (by intro z; cases z)) e⟩⟩
theorem RowsAt.snoc {H : Hp} {vs : List V} {rs : List FRow} {p : Addr} {r : FRow} (h : RowsAt H vs rs) (hp : H p = some (.tup [.str r.1, parV r.2])) : RowsAt H (vs ++ [V.ref p]) (rs ++ [r]) := by
  refine ⟨by rw [List.length_append, List.length_append, h.1]; rfl, fun i x hx => ?_⟩
  by_cases e : i < rs.length
  · rw [List.getElem?_append_left e] at hx
    rw [List.getElem?_append_left (by rw [h.1]; exact e)]
    exact h.2 i x hx
  · rw [List.getElem?_append_right (by omega)] at hx
    rw [List.getElem?_append_right (by rw [h.1]; omega), h.1]
    have z : i - rs.length = 0 := by
      have := (List.getElem?_eq_some_iff.mp hx).1
      simpa using this
    rw [z] at hx ⊢
    cases hx
    exact ⟨p, rfl, hp⟩
section
variable {P : Program} {w : World} {K : PySem.W.Frag} {mg : Str → Option Value} {base : Heap}
/-! ### _law_forest -/
def spForest (ns : List Int) : Sp := fun vs H Q _ => ∃ (d g c : Addr) (b : Nat) (m : Int), vs = [.ref d, .int m] ∧ Dw ns d g c b H ∧ b ≤ 800000000 ∧ 1 ≤ m ∧ m ≤ 8 ∧
  ∀ (l : Addr) (xs : List V) (rs : List FRow) (H' : Hp), H l = none → l ≠ d → l ≠ g → H' l = some (.lst xs) → RowsAt H' xs rs → Good rs → Dw ns d g c (b + 300) H' → Kp d g H H' → Q (.ref l) H'
abbrev nForest : List Str := ["_law_state", "_law_most", "_law_rows", "_law_name", "_law_parents", "_law_row"]
theorem scForest : FnScope nForest ["_law_state", "_law_most"] (defScope sForest) := ⟨rfl, rfl, rfl, by decide +kernel, rfl, by decide +kernel, by decide +kernel⟩
theorem ok_forest {f fT fP fW : Addr} {fd fdT fdP fdW : FuncData} (ns : List Int) (F : Fun K "_law_forest" "_law_forest" sForest f fd) (R : Draw P w K mg base ns fT fP fdT fdP)
    (GW : FnOk P w K mg base CX0 4 fW fdW ["_law_state", "_law_size"] (spWords ns)) (bW : Binds K fdW ["_law_state", "_law_size"] []) (kW : PySem.W.keepIn K (.ref fW) = true) (mW : mg "_law_words" = some (.ref fW)) :
    FnOk P w K mg base CX0 5 f fd ["_law_state", "_law_most"] (spForest ns) := by
  refine F.ok scForest (fun vs H Q E h => ?_) (fun cdv A outer s H vs Q E hr h => ?_)
  · obtain ⟨d, g, c, b, m, rfl, _⟩ := h
    rfl
  · obtain ⟨d, g, c, b, m, rfl, D, hb, m1, m8, k⟩ := h
    have hu := hu_of hr
    have nd := scForest.nd
    have hr2 : Room 2 (A.deeper (envOfC "_law_forest" (defScope sForest) s.heap.objs.size f cdv)) := hr.mono (by decide)
    have hr3 : Room 3 (A.deeper (envOfC "_law_forest" (defScope sForest) s.heap.objs.size f cdv)) := hr.mono (by decide)
    refine ⟨_, pss_cons (ps_set (i := 2) nd rfl (.inl rfl) (pe_lst pa_nil))
      (pss_cons (ps_for PassesOwn.never rfl (pi_list (pe_call GW hr rfl mW kW bW .nil pass0 (pa_cons (pv 0) (pa_cons (pe_op op_add pe_int (pe_call R.GT hr2 rfl R.mT R.kT R.bT .nil pass0 (pa_cons (pv 0) (pa_cons (pv 1) pa_nil)))) pa_nil)))) (pg_name (i := 3) nd rfl (.inl rfl))
        (pss_cons (ps_set (i := 4) nd rfl (.inl rfl) (pe_op op_cat (pe_lst (pa_cons pe_non pa_nil)) (pe_lc (own := [("_law_row", 5)]) (g := gName 5) (tt := tYes) rfl nd (pi_list (pv 2)) (blkOk_by (N := nForest) (sc := defScope sForest) (by decide +kernel))
            (fun _ _ _ _ _ => pg_name (i := 5) nd rfl (.inl rfl)) (fun _ _ _ _ _ => pts_nil) (fun _ _ _ _ _ => pe_ix (r := rIxT K) ix_tup (pv 5) pe_int (fun _ _ => rfl)))))
        (pss_one (ps_expr (pe_bm PySem.F.plainAttrs_list PySem.F.slot_list_append PySem.F.type_list_append mt_append (pv 2) (pa_cons (pe_tup (pa_cons (pv 3) (pa_cons (pe_call R.GP hr3 rfl R.mP R.kP R.bP .nil pass0 (pa_cons (pv 0) (pa_cons (pv 4) pa_nil))) pa_nil))) pa_nil))))))
      (pss_one (ps_ret (pv 2)))), ?_⟩
    refine ⟨Nat.zero_le _, fun l hl => ?_⟩
    have Dl := D.new (o := .lst []) hl
    have hnl : l ≠ d := D.nd hl
    have hgl : l ≠ g := D.ng hl
    have hcl : l ≠ c := fun e => by rw [e, D.cl] at hl; cases hl
    have kl : Kp d g H (upd H l (.lst [])) := Kp.new hl
    have hl1 : (upd H l (.lst [])) l = some (.lst []) := upd_same
    show tSeq _ _ _ _ (upd H l (.lst []))
    generalize upd H l (.lst []) = H1 at Dl kl hl1 ⊢
    refine ⟨_, rfl, _, rfl, _, rfl, d, g, c, _, m, rfl, Dl, by omega, by omega, by omega, fun r H2 r0 r1 D2 k2 => ?_⟩
    refine ⟨1, r, rfl, rfl, d, g, c, _, 1 + r, rfl, D2, by omega, by omega, by omega, fun lw ws H3 lw0 lwd lwg hlw wl wn wok D3 k3 => ?_⟩
    have l3 := k3 _ _ hnl hgl (k2 _ _ hnl hgl hl1)
    have k03 : Kp d g H H3 := (kl.trans k2).trans k3
    refine ⟨lw, rfl, ⟨_, SqL.of hlw⟩, for_it walk_list (fun i σ H' => ∃ (v3 v4 : Option V) (xs : List V) (rs : List FRow), σ = [some (.ref d), some (.int m), some (.ref l), v3, v4, none] ∧ H' l = some (.lst xs) ∧ H' lw = some (.lst (ws.map V.str)) ∧
        RowsAt H' xs rs ∧ fNames rs = ws.take i ∧ GoodF [] rs ∧ Dw ns d g c (b + 1 + 200 + 2 * i) H' ∧ Kp d g H H')
      ⟨none, none, [], [], rfl, l3, hlw, ⟨rfl, fun i r h => by simp at h⟩, rfl, trivial, D3, k03⟩ (fun i σ H' _ ⟨_, _, _, _, _, _, e, _⟩ => SqL.of e) ?_ ?_⟩
    · rintro i y σ H4 H5 hi ⟨v3, v4, xs, rs, rfl, l4, lw4, R4, fn, gf, D4, k4⟩ ⟨rfl, hy⟩
      rw [List.length_map] at hi
      rw [List.getElem?_map, List.getElem?_eq_getElem hi] at hy
      cases hy
      have hrl : rs.length = i := by
        have := congrArg List.length fn
        rw [fNames, List.length_map, List.length_take] at this
        omega
      have hi8 : i ≤ 8 := by omega
      refine ⟨by show 1 ≤ sizeLine; decide, fun a ha => ?_⟩
      have Da := D4.new (o := .lst [.non]) ha
      have nda : a ≠ d := D4.nd ha
      have nga : a ≠ g := D4.ng ha
      have ka : Ext H5 (upd H5 a (.lst [.non])) := Ext.new ha
      have ha1 : (upd H5 a (.lst [.non])) a = some (.lst [.non]) := upd_same
      have l5 := ka _ _ l4
      have R5 := R4.ext ka
      refine ⟨_, rfl, l, rfl, ⟨_, SqL.of l5⟩, fun D' hD' => ?_⟩
      refine lc_it walk_list (fun i' H' => H' D' = some (.lst (((fNames rs).take i').map V.str)) ∧ Ext (upd H5 a (.lst [.non])) H') ⟨upd_same, Ext.new hD'⟩ (fun i' H' _ ⟨_, e⟩ => SqL.of (e _ _ l5)) ?_ ?_
      · rintro i' y H6 H7 hi' ⟨d6, k6⟩ ⟨rfl, hy⟩
        have hir : i' < rs.length := by have := R4.1; omega
        obtain ⟨p, h1, h2⟩ := R5.2 i' _ (List.getElem?_eq_getElem hir)
        rw [h1] at hy
        cases hy
        refine ⟨rfl, yes_of ?_⟩
        refine ⟨_, rfl, p, _, _, _, rfl, rfl, SqT.of (k6 _ _ h2), (show atI [V.str rs[i'].1, parV rs[i'].2] ((0 : Nat) : Int) = some (V.str rs[i'].1) from atI_nat rfl), _, d6, ?_, ?_, fun b' o hb' => ?_⟩
        · rw [List.length_map, List.length_take, fNames, List.length_map]
          exact small1000 (by omega)
        · rw [upd_same, List.take_add_one, List.map_append]
          have : (fNames rs)[i']? = some rs[i'].1 := by rw [fNames, List.getElem?_map, List.getElem?_eq_getElem hir]; rfl
          rw [this]
          rfl
        · rw [upd_ne (ne_of_none hb' hD')]
          exact k6 _ _ hb'
      rintro H6 ⟨d6, k6⟩
      have e0 : (fNames rs).take xs.length = fNames rs := by
        rw [R4.1]
        exact List.take_of_length_le (by rw [fNames, List.length_map]; exact Nat.le_refl _)
      rw [e0] at d6
      refine ⟨a, D', _, _, rfl, rfl, k6 _ _ ha1, d6, ?_, fun q hq => ?_⟩
      · rw [List.length_map, fNames, List.length_map, sizeLine_eq]
        show 1 + _ ≤ _
        omega
      have D6 : Dw ns d g c (b + 1 + 200 + 2 * i) H6 := Da.keep k6
      have k56 : Ext H5 H6 := ka.trans k6
      have Dq := D6.new (o := .lst ([.non] ++ (fNames rs).map V.str)) hq
      have hq1 : (upd H6 q (.lst ([.non] ++ (fNames rs).map V.str))) q = some (.lst ([.non] ++ (fNames rs).map V.str)) := upd_same
      have kq : Ext H5 (upd H6 q (.lst ([.non] ++ (fNames rs).map V.str))) := k56.trans (Ext.new hq)
      have ndq : q ≠ d := D6.nd hq
      have ngq : q ≠ g := D6.ng hq
      show tSeq _ _ _ _ (upd H6 q (.lst ([.non] ++ (fNames rs).map V.str)))
      generalize upd H6 q (.lst ([.non] ++ (fNames rs).map V.str)) = H7 at Dq hq1 kq ⊢
      refine ⟨_, rfl, .inl ⟨rfl, _, SqL.of (kq _ _ l4)⟩, _, rfl, _, rfl, _, rfl, d, g, c, _, Dq, by omega, .inl ⟨q, _, rfl, hq1, ndq, ngq, ?_, ?_, fun x H8 hx D8 k8 => ?_⟩⟩
      · show 0 < _ + 1
        omega
      · rw [List.length_append, List.length_map, fNames, List.length_map]
        show 1 + _ ≤ _
        omega
      obtain ⟨pq, rfl, hpq⟩ : ∃ pq : Option Str, x = parV pq ∧ ∀ mm, pq = some mm → mm ∈ fNames rs := by
        rcases List.mem_append.mp hx with hx | hx
        · rw [List.mem_singleton.mp hx]
          exact ⟨none, rfl, fun mm e => by cases e⟩
        · obtain ⟨mm, hm, rfl⟩ := List.mem_map.mp hx
          exact ⟨some mm, rfl, fun m' e => by cases e; exact hm⟩
      refine ⟨by show 2 ≤ sizeLine; decide, fun t ht => ?_⟩
      have R8 : RowsAt H8 xs rs := (R4.ext kq).kp Dq k8
      have R9 := RowsAt.snoc (r := (ws[i], pq)) (R8.ext (Ext.new (o := .tup [.str ws[i], parV pq]) ht)) upd_same
      have l8 := k8 _ _ hnl hgl (kq _ _ l4)
      have l9 := new_same (o := .tup [.str ws[i], parV pq]) ht _ _ l8
      have lw8 := k8 _ _ lwd lwg (kq _ _ lw4)
      have lw9 := new_same (o := .tup [.str ws[i], parV pq]) ht _ _ lw8
      have D9 := D8.new (o := .tup [.str ws[i], parV pq]) ht
      have nlw : lw ≠ l := fun e => by rw [e] at lw0; rw [k2 _ _ hnl hgl hl1] at lw0; cases lw0
      have k9 : Kp d g H (upd H8 t (.tup [.str ws[i], parV pq])) := ((k4.trans (Kp.of kq)).trans k8).trans (Kp.new ht)
      generalize upd H8 t (.tup [.str ws[i], parV pq]) = H9 at R9 l9 lw9 D9 k9 ⊢
      have xl : xs.length = rs.length := R4.1
      refine ⟨l, _, _, rfl, rfl, l9, small1000 (by omega), ?_⟩
      refine ⟨_, _, xs ++ [.ref t], rs ++ [(ws[i], pq)], rfl, upd_same, by rw [upd_ne nlw]; exact lw9, ⟨R9.1, fun j r' hj => ?_⟩, ?_, good_snoc gf ?_, (D9.put l9 hnl hgl hcl).mono (by omega), fun a' o n1 n2 ha' => ?_⟩
      · obtain ⟨p, b1, b2⟩ := R9.2 j r' hj
        refine ⟨p, b1, ?_⟩
        rw [upd_ne (ne_of b2 l9 (by intro z; cases z))]
        exact b2
      · show fNames (rs ++ [(ws[i], pq)]) = _
        rw [fNames, List.map_append, List.take_add_one, List.getElem?_eq_getElem hi]
        show fNames rs ++ [ws[i]] = _
        rw [fn]
        rfl
      · rw [List.nil_append, fn]
        refine ⟨wok _ (List.getElem_mem hi), fun hm => ?_, fun mm e => by rw [← fn]; exact hpq mm e⟩
        have hm : ws[i] ∈ ws.take i := hm
        obtain ⟨j, hj⟩ := List.mem_iff_getElem?.mp hm
        have hji : j < i := by
          have := (List.getElem?_eq_some_iff.mp hj).1
          rw [List.length_take] at this
          omega
        rw [List.getElem?_take_of_lt hji] at hj
        have hjl : j < ws.length := by omega
        rw [List.getElem?_eq_getElem hjl] at hj
        exact (List.pairwise_iff_getElem.mp wn) j i hjl hi hji (Option.some.inj hj)
      · rw [upd_ne (ne_of_none ha' hl)]
        exact k9 _ _ n1 n2 ha'
    · rintro σ H4 ⟨v3, v4, xs, rs, rfl, l4, lw4, R4, fn, gf, D4, k4⟩
      refine ⟨_, rfl, ?_⟩
      have hrl : rs.length = ws.length := by
        have := congrArg List.length fn
        rw [fNames, List.length_map, List.length_take, List.length_map] at this
        omega
      rw [List.length_map] at D4
      exact k l xs rs H4 hl hnl hgl l4 R4 ⟨by omega, by omega, gf⟩ (D4.mono (by omega)) k4
end
end Lw

set_option Elab.async false
set_option linter.all false
set_option maxRecDepth 100000
set_option maxHeartbeats 4000000
/-! readings that ask more than they need; a list or a tuple walked; dicts of numbers by names -/
namespace Gu
open L2 hiding Ext
open PySem PySem.Spec PyProof.Rows Gn Gk
theorem wT {X : Cx} {e : Expr} {t t' : TT} (h : PT X e t) (w : ∀ σ H k, t' σ H k → t σ H k) : PT X e t' :=
  ⟨fun pins s σ H Q I z => h.run pins s σ H Q I (w _ _ _ z)⟩
theorem wE {X : Cx} {e : Expr} {t t' : TE} (h : PE X e t) (w : ∀ σ H k, t' σ H k → t σ H k) : PE X e t' :=
  ⟨fun pins s σ H Q I z => h.run pins s σ H Q I (w _ _ _ z)⟩
theorem wS {X : Cx} {e : Stmt} {t t' : TS} (h : PS X e t) (w : ∀ D σ H, t' D σ H → t D σ H) : PS X e t' :=
  ⟨fun pins s σ H D I z => h.run pins s σ H D I (w _ _ _ z)⟩
theorem wI {X : Cx} {tg e : Expr} {t t' : TI} (h : PI X tg e t) (w : ∀ σ H R, t' σ H R → t σ H R) : PI X tg e t' :=
  ⟨fun pins s σ H R I z => h.run pins s σ H R I (w _ _ _ z)⟩
theorem iOr {X : Cx} {tg e : Expr} {t t' : TI} (h : PI X tg e t) (h' : PI X tg e t') : PI X tg e (fun σ H R => t σ H R ∨ t' σ H R) :=
  ⟨fun pins s σ H R I z => z.elim (h.run pins s σ H R I) (h'.run pins s σ H R I)⟩
/-- a list or a tuple -/
def ClAt (H : Hp) (a : Addr) (xs : List V) : Prop := H a = some (.lst xs) ∨ H a = some (.tup xs)
theorem ClAt.ext {H H' : Hp} {a : Addr} {xs : List V} (h : ClAt H a xs) (k : Ext H H') : ClAt H' a xs := h.elim (fun e => .inl (k _ _ e)) (fun e => .inr (k _ _ e))
theorem ClAt.sq {K : PySem.W.Frag} {H : Hp} {a : Addr} {xs : List V} (h : ClAt H a xs) : SqL K H a xs ∨ SqT K H a xs := h.elim (fun e => .inl (SqL.of e)) (fun e => .inr (SqT.of e))
theorem wW {J : It} {n : Nat} {G G' : Hp → Prop} {Y : Nat → Hp → V → Hp → Prop} (h : Walk J n G Y) (k : ∀ H, G' H → G H) : Walk J n G' Y :=
  ⟨fun i H hi g => h.goes i H hi (k H g), fun H g => h.stops H (k H g), fun i H x H' hi g y => h.yields i H x H' hi (k H g) y⟩
/-- what a walk over it gives, wherever it stands as it did -/
def iSeqV (i : Nat) : TI := fun σ H R => ∃ (a : Addr) (xs : List V), σ[i]? = some (some (.ref a)) ∧ ClAt H a xs ∧ ∀ J, Walk J xs.length (fun H' => H' a = H a) (YAt xs) → R J H
theorem pi_seqV {X : Cx} {tg e : Expr} {i : Nat} (h : PE X e (tVar i)) : PI X tg e (iSeqV i) := by
  refine wI (iOr (pi_list h) (pi_tup h)) fun σ H R ⟨a, xs, hi, hc, k⟩ => ?_
  rcases hc with hc | hc
  · exact .inl ⟨_, hi, a, rfl, ⟨_, SqL.of hc⟩, k _ (wW walk_list fun H' e => SqL.of (e.trans hc))⟩
  · exact .inr ⟨_, hi, a, rfl, ⟨_, SqT.of hc⟩, k _ (wW walk_tup fun H' e => SqT.of (e.trans hc))⟩
/-- a dict of numbers, by the names in their order -/
def dN (ns : List Str) (t : Str → Int) : List (Key × V) := ns.map fun n => ((Sum.inr n : Key), V.int (t n))
def at_ (t : Str → Int) (n : Str) (z : Int) : Str → Int := fun m => if m = n then z else t m
theorem at_same {t : Str → Int} {n : Str} {z : Int} : at_ t n z n = z := if_pos rfl
theorem at_ne {t : Str → Int} {n m : Str} {z : Int} (h : m ≠ n) : at_ t n z m = t m := if_neg h
theorem dN_get {t : Str → Int} {n : Str} : ∀ {ns : List Str}, n ∈ ns → valV (dN ns t) (Sum.inr n : Key) = some (.int (t n))
  | [], h => by cases h
  | m :: r, h => by
    show valV (((Sum.inr m : Key), V.int (t m)) :: dN r t) _ = _
    by_cases e : m = n
    · subst e; exact valV_pos rfl
    · rw [valV_neg (fun z => e (Sum.inr.inj z))]
      exact dN_get ((List.mem_cons.mp h).resolve_left fun z => e z.symm)
theorem dN_put {t : Str → Int} {n : Str} {z : Int} {ns : List Str} (h : n ∈ ns) : putK (dN ns t) (Sum.inr n : Key) (.int z) = dN ns (at_ t n z) := by
  have e : ((dN ns t).any fun kv => decide (kv.1 = (Sum.inr n : Key))) = true := by
    unfold dN
    rw [List.any_map, List.any_eq_true]
    exact ⟨n, h, by simp⟩
  unfold putK
  rw [if_pos e]
  unfold dN
  rw [List.map_map]
  refine List.map_congr_left fun m hm => ?_
  show (if (Sum.inr m : Key) = Sum.inr n then ((Sum.inr m : Key), V.int z) else ((Sum.inr m : Key), V.int (t m))) = _
  by_cases em : m = n
  · subst em
    rw [if_pos rfl, at_same]
  · rw [if_neg (fun z => em (Sum.inr.inj z)), at_ne em]
theorem dN_len {ns : List Str} {t : Str → Int} : (dN ns t).length = ns.length := by unfold dN; rw [List.length_map]
/-- a dict of numbers, by some names -/
def dB (bs : List (Str × Int)) : List (Key × V) := bs.map fun p => ((Sum.inr p.1 : Key), V.int p.2)
theorem dB_dN (ns : List Str) (t : Str → Int) : dB (ns.map fun n => (n, t n)) = dN ns t := by unfold dB dN; rw [List.map_map]; rfl
theorem dB_get : ∀ {bs : List (Str × Int)} {p : Str × Int}, (bs.map (·.1)).Nodup → p ∈ bs → valV (dB bs) (Sum.inr p.1 : Key) = some (.int p.2)
  | [], _, _, h => by cases h
  | q :: r, p, hn, h => by
    show valV (((Sum.inr q.1 : Key), V.int q.2) :: dB r) _ = _
    obtain ⟨n1, n2⟩ := List.nodup_cons.mp (show (q.1 :: r.map (·.1)).Nodup from hn)
    rcases List.mem_cons.mp h with rfl | h
    · exact valV_pos rfl
    · have ne : ¬ q.1 = p.1 := fun e => n1 (by rw [e]; exact List.mem_map.mpr ⟨p, h, rfl⟩)
      rw [valV_neg (fun z => ne (Sum.inr.inj z))]
      exact dB_get n2 h
theorem dB_none {n : Str} : ∀ {bs : List (Str × Int)}, n ∉ bs.map (·.1) → valV (dB bs) (Sum.inr n : Key) = none
  | [], _ => rfl
  | q :: r, h => by
    show valV (((Sum.inr q.1 : Key), V.int q.2) :: dB r) _ = _
    have ne : ¬ q.1 = n := fun e => h (by rw [← e]; exact List.mem_cons_self ..)
    rw [valV_neg (fun z => ne (Sum.inr.inj z))]
    exact dB_none fun m => h (List.mem_cons_of_mem _ m)
/-- pairs of a name and a number, as tuples in the heap -/
def CsAt (H : Hp) (vs : List V) (cs : List (Str × Int)) : Prop := vs.length = cs.length ∧ ∀ (i : Nat) (c : Str × Int), cs[i]? = some c → ∃ p, vs[i]? = some (V.ref p) ∧ H p = some (.tup [.str c.1, .int c.2])
theorem CsAt.ext {H H' : Hp} {vs : List V} {cs : List (Str × Int)} (h : CsAt H vs cs) (k : Ext H H') : CsAt H' vs cs :=
  ⟨h.1, fun i c hc => by obtain ⟨p, a, b⟩ := h.2 i c hc; exact ⟨p, a, k _ _ b⟩⟩
theorem CsAt.get {H : Hp} {vs : List V} {cs : List (Str × Int)} (h : CsAt H vs cs) {i : Nat} {x : V} (hx : vs[i]? = some x) : ∃ (c : Str × Int) (p : Addr), cs[i]? = some c ∧ x = .ref p ∧ H p = some (.tup [.str c.1, .int c.2]) := by
  have hi : i < cs.length := by rw [← h.1]; exact (List.getElem?_eq_some_iff.mp hx).1
  obtain ⟨p, a, b⟩ := h.2 i _ (List.getElem?_eq_getElem hi)
  rw [hx] at a
  cases a
  exact ⟨_, p, List.getElem?_eq_getElem hi, rfl, b⟩
theorem CsAt.nil {H : Hp} : CsAt H [] [] := ⟨rfl, fun i c h => by cases h⟩
theorem CsAt.snoc {H : Hp} {vs : List V} {cs : List (Str × Int)} {p : Addr} {c : Str × Int} (h : CsAt H vs cs) (hp : H p = some (.tup [.str c.1, .int c.2])) : CsAt H (vs ++ [V.ref p]) (cs ++ [c]) := by
  refine ⟨by rw [List.length_append, List.length_append, h.1]; rfl, fun i c' hc => ?_⟩
  rcases Nat.lt_or_ge i cs.length with hi | hi
  · rw [List.getElem?_append_left hi] at hc
    rw [List.getElem?_append_left (by rw [h.1]; exact hi)]
    exact h.2 i c' hc
  · rw [List.getElem?_append_right hi] at hc
    rw [List.getElem?_append_right (by rw [h.1]; exact hi), h.1]
    cases e : i - cs.length with
    | zero => rw [e] at hc; cases hc; exact ⟨p, rfl, hp⟩
    | succ k => rw [e] at hc; cases hc
theorem CsAt.kp {ns : List Int} {d g c : Addr} {b : Nat} {H H' : Hp} {vs : List V} {cs : List (Str × Int)} (h : CsAt H vs cs) (D : Dw ns d g c b H) (k : Kp d g H H') : CsAt H' vs cs := by
  obtain ⟨⟨gs, l, t, hd, hg, _, _⟩, _⟩ := D
  exact ⟨h.1, fun i r hr => by
    obtain ⟨p, a, e⟩ := h.2 i r hr
    exact ⟨p, a, k _ _ (ne_of e hd (by intro z; cases z)) (ne_of e hg (by intro z; cases z)) e⟩⟩
/-- a dict that is walked is locked meanwhile -/
theorem lock_ext {H H' : Hp} {d : Addr} {u : HO} {od : Obj} (hd : H d = some u) (k : Ext (upd H d (.frz od u)) H') : Ext H (upd H' d u) := fun a o e => by
  by_cases n : a = d
  · subst n
    rw [upd_same, ← hd, e]
  · rw [upd_ne n]
    exact k _ _ (by rw [upd_ne n]; exact e)
theorem lock_in {H : Hp} {d a : Addr} {u o : HO} {od : Obj} (n : a ≠ d) (e : H a = some o) : upd H d (.frz od u) a = some o := by rw [upd_ne n]; exact e
theorem keys_none : ∀ {kvs : List (Key × V)} {k : Key}, k ∉ kvs.map (·.1) → valV kvs k = none
  | [], _, _ => rfl
  | p :: r, k, h => by
    have h1 : ¬ p.1 = k := fun e => h (by rw [← e]; exact List.mem_cons_self ..)
    rw [valV_neg h1]
    exact keys_none fun m => h (List.mem_cons_of_mem _ m)
theorem merge_app : ∀ (more acc : List (Key × V)), ((acc ++ more).map (·.1)).Nodup → mergeK acc more = acc ++ more
  | [], acc, _ => by rw [List.append_nil]; rfl
  | p :: r, acc, h => by
    have hn : p.1 ∉ acc.map (·.1) := by
      intro m
      rw [List.map_append] at h
      exact (List.nodup_append.mp h).2.2 _ m p.1 (List.mem_cons_self ..) rfl
    show mergeK (putK acc p.1 p.2) r = _
    rw [putK_new _ (keys_none hn), merge_app r (acc ++ [(p.1, p.2)]) (by rw [List.append_assoc]; exact h), List.append_assoc]
    rfl
theorem merge_self {kvs : List (Key × V)} (h : (kvs.map (·.1)).Nodup) : mergeK [] kvs = kvs := merge_app kvs [] h
theorem nodup_inr {α : Type} (f : α → Str) : ∀ {l : List α}, (l.map f).Nodup → (l.map fun x => (Sum.inr (f x) : Key)).Nodup
  | [], _ => List.nodup_nil
  | a :: r, h => by
    obtain ⟨h1, h2⟩ := List.nodup_cons.mp (show (f a :: r.map f).Nodup from h)
    refine List.nodup_cons.mpr ⟨fun m => ?_, nodup_inr f h2⟩
    obtain ⟨b, hb, e⟩ := List.mem_map.mp m
    exact h1 (List.mem_map.mpr ⟨b, hb, Sum.inr.inj e⟩)
theorem ix_pos {n : Nat} {r : Int} (h0 : 0 ≤ r) (h1 : r < n) : seqIndex? r n = some r.toNat := (ixN_seq (by unfold ixN; rw [if_pos h0, if_pos h1])).1
end Gu

set_option Elab.async false
set_option linter.all false
set_option maxRecDepth 100000
set_option maxHeartbeats 4000000
/-! y = {k: v for ..}: a dict comprehension whose name is stored within its frame -/
namespace Gd
open L2 hiding Ext
open PySem PySem.Spec PyProof.Rows Gn Gk Gu
theorem ps_setDc {X : Cx} {i : Nat} {y : Str} {py : Pos} {kx vx tg iter : Expr} {ifs : List Expr} {scope : Scope} {own : List (Str × Nat)} {pos spos : Pos} {wi : TI} {g : TG} {tt : TT} {tk tv : TE}
    (hc : X.calm = true) (hN : X.N.Nodup) (hy : X.N[i]? = some y) (hyl : X.env.scope.names.lookup y = some .local)
    (hsw : swapsWith (.DictComp kx vx [{ target := tg, iter := iter, ifs := ifs, is_async := 0 }] scope pos) (some (.Name y py)) spos.line X.env = pure true)
    (hi : PI X tg iter wi) (ok : BlkOk X.N X.env.scope scope own)
    (hg : ∀ (s : Shared) (H : Hp) (C : Addr) (cl : List (Str × Addr)) (fp : List Addr), PG (X.blk s H scope (compEnvC scope cl C X.env) fp) tg g)
    (ht : ∀ (s : Shared) (H : Hp) (C : Addr) (cl : List (Str × Addr)) (fp : List Addr), PTs (X.blk s H scope (compEnvC scope cl C X.env) fp) ifs tt)
    (hk : ∀ (s : Shared) (H : Hp) (C : Addr) (cl : List (Str × Addr)) (fp : List Addr), PE (X.blk s H scope (compEnvC scope cl C X.env) fp) kx tk)
    (hv : ∀ (s : Shared) (H : Hp) (C : Addr) (cl : List (Str × Addr)) (fp : List Addr), PE (X.blk s H scope (compEnvC scope cl C X.env) fp) vx tv)
    (hf : ∀ (x : Value), foldedSetIterable iter X.env x = pure x := by intro x; rfl) :
    PS X (.Assign [.Name y py] (.DictComp kx vx [{ target := tg, iter := iter, ifs := ifs, is_async := 0 }] scope pos) spos) (tAsg (tDc wi g tt tk tv (own.map (·.2))) (gName i)) := by
  refine ⟨fun pins s σ H D I h => ?_⟩
  rw [exec_Assign_Name_used _ _ _ _ hsw]
  refine wpAny_bind (wpAny_standAt ?_)
  refine wpAny_bind ?_
  rw [arm_evalThenUse_DictComp]
  refine wpAny_bind ?_
  refine dc_core (Q := fun v H' => D.nx (σ.set i (some v)) H') hc hN I hi ok hg ht hk hv hf h fun Da C s' m H' J q hm fp => ?_
  obtain ⟨o, es, ep, ho, hd, r⟩ := id hm
  obtain ⟨f1, f2, f3, f4, f5, f6⟩ := fp
  have J' : L2.Inv X ((C, o) :: pins) σ H' s' := J.pins_of fun p hp => by
    rcases List.mem_cons.mp hp with rfl | hp
    · exact ⟨ho, f1, f2, f3, fun v e => by
        have e : o.data = Data.cell v := e
        rw [hd] at e; cases e⟩
    · exact J.pin p (List.mem_append.mpr (.inr hp))
  have G := (pg_name (X := X) (pos := py) (i := i) hN hy (.inl hyl) (.inr hyl)).run ((C, o) :: pins) s' σ H' (.ref Da) (.ref Da) D.nx J' rfl q
  refine wpAny_mono G (fun x s'' hh => ?_) (fun _ _ h => h)
  obtain ⟨σ2, H2, J2, q2⟩ := hh
  obtain ⟨p1, p2, _⟩ := J2.pin (C, o) (List.mem_append.mpr (.inr (List.mem_cons_self ..)))
  refine ⟨m, ⟨o, es, ep, p1, hd, r⟩, fun h' sb => ?_⟩
  have J3 : L2.Inv X pins σ2 H2 s'' := J2.pins_of fun p hp => J2.pin p (List.mem_append.mpr (.inr (List.mem_cons_of_mem _ hp)))
  refine wpAny_pure (wpAny_pure ⟨σ2, H2, ?_, q2⟩)
  exact J3.turned (it := C) (fun b u n e => by rw [sb.2 b n]; exact e) p2 f2 f4 f5 f6
/-- when the name is stored within -/
theorem sw_trueD {kx vx : Expr} {gs : List Comprehension} {scope : Scope} {pos py : Pos} {y : Str} {l : Nat} {env : Env}
    (hk : env.scope.kind = ScopeKind.function) (hy : env.scope.names.lookup y = some .local) (hl : (py.line == pos.line) = true)
    (ha : (scope.names.any fun x => match x with | (n, k) => n == y && (k == NameKind.local || k == NameKind.cell)) = false) :
    swapsWith (.DictComp kx vx gs scope pos) (some (.Name y py)) l env = pure true := by
  have h := sw_true (elt := kx) (gs := gs) (scope := scope) (pos := pos) (py := py) (y := y) (l := l) (env := env) hk hy hl ha
  exact h
end Gd

set_option Elab.async false
set_option linter.all false
set_option maxRecDepth 100000
set_option maxHeartbeats 4000000
namespace Lw
open L2 hiding Ext
open PySem PySem.Spec PyProof.Rows Gn Gr Gk Go Gt Gf Gu
/-! ### the mathematics: ancestors, totals, entitlements -/
def anc (rs : List FRow) (n : Str) : List Str := ancF rs 8 n
theorem ancF_fuel {rs : List FRow} (g : GoodF [] rs) : ∀ (k k' i : Nat) (r : FRow), rs[i]? = some r → i < k → i < k' → ancF rs k r.1 = ancF rs k' r.1
  | 0, _, _, _, _, h, _ => by omega
  | _ + 1, 0, _, _, _, _, h => by omega
  | k + 1, k' + 1, i, r, hi, h1, h2 => by
    rw [ancF_s, ancF_s, parOf_at (good_nodup g).1 (List.mem_of_getElem? hi)]
    cases e : r.2 with
    | none => rfl
    | some m =>
      obtain ⟨j, r', hj, hr, rfl⟩ := par_idx g hi e
      show r.1 :: ancF rs k r'.1 = r.1 :: ancF rs k' r'.1
      rw [ancF_fuel g k k' j r' hr (by omega) (by omega)]
theorem anc_call {rs : List FRow} (g : Good rs) {n : Str} (h : n ∈ fNames rs) : ∃ (i : Nat) (r : FRow), rs[i]? = some r ∧ r.1 = n ∧ ancF rs (i + 1) r.1 = anc rs n := by
  obtain ⟨r, hr, e⟩ := List.mem_map.mp h
  obtain ⟨i, hi⟩ := List.mem_iff_getElem?.mp hr
  have hl := (List.getElem?_eq_some_iff.mp hi).1
  refine ⟨i, r, hi, e, ?_⟩
  rw [← e]
  exact ancF_fuel g.2.2 _ _ i r hi (by omega) (by have := g.2.1; omega)
theorem ancF_mem {rs : List FRow} (g : GoodF [] rs) : ∀ (k : Nat) (r : FRow), r ∈ rs → ∀ m ∈ ancF rs k r.1, m ∈ fNames rs
  | 0, _, _, m, hm => by cases hm
  | k + 1, r, hr, m, hm => by
    rw [ancF_s, parOf_at (good_nodup g).1 hr] at hm
    rcases List.mem_cons.mp hm with rfl | hm
    · exact List.mem_map.mpr ⟨r, hr, rfl⟩
    · cases e : r.2 with
      | none => rw [e] at hm; cases hm
      | some p =>
        rw [e] at hm
        obtain ⟨i, hi⟩ := List.mem_iff_getElem?.mp hr
        obtain ⟨j, r', _, hr', rfl⟩ := par_idx g hi e
        exact ancF_mem g k r' (List.mem_of_getElem? hr') m hm
theorem anc_mem {rs : List FRow} (g : Good rs) {n m : Str} (h : n ∈ fNames rs) (hm : m ∈ anc rs n) : m ∈ fNames rs := by
  obtain ⟨r, hr, rfl⟩ := List.mem_map.mp h
  exact ancF_mem g.2.2 _ r hr m hm
theorem ancF_len (rs : List FRow) : ∀ (k : Nat) (n : Str), (ancF rs k n).length ≤ k
  | 0, _ => Nat.le_refl _
  | k + 1, n => by
    rw [ancF_s, List.length_cons]
    cases parOf rs n with
    | none => exact Nat.succ_le_succ (Nat.zero_le _)
    | some m => exact Nat.succ_le_succ (ancF_len rs k m)
theorem anc_len (rs : List FRow) (n : Str) : (anc rs n).length ≤ 8 := ancF_len rs 8 n
def addL (t : Str → Int) (ns : List Str) (z : Int) : Str → Int := ns.foldl (fun t n => at_ t n (t n + z)) t
theorem take_snoc {α : Type} {l : List α} {i : Nat} {c : α} (h : l[i]? = some c) : l.take (i + 1) = l.take i ++ [c] := by
  rw [List.take_add_one, h]; rfl
theorem addL_take {t : Str → Int} {ns : List Str} {z : Int} {i : Nat} {n : Str} (h : ns[i]? = some n) : addL t (ns.take (i + 1)) z = at_ (addL t (ns.take i) z) n (addL t (ns.take i) z n + z) := by
  rw [take_snoc h]
  unfold addL
  rw [List.foldl_append]
  rfl
def totF (rs : List FRow) (bs : List (Str × Int)) : Str → Int := bs.foldl (fun t p => addL t (anc rs p.1) p.2) (fun _ => 0)
theorem totF_take {rs : List FRow} {bs : List (Str × Int)} {i : Nat} {p : Str × Int} (h : bs[i]? = some p) : totF rs (bs.take (i + 1)) = addL (totF rs (bs.take i)) (anc rs p.1) p.2 := by
  rw [take_snoc h]
  unfold totF
  rw [List.foldl_append]
  rfl
def minL (c : Int) (l : List Int) : Int := l.foldl min c
theorem minL_mem : ∀ (l : List Int) (c : Int), minL c l = c ∨ minL c l ∈ l
  | [], c => .inl rfl
  | x :: r, c => by
    show minL (min c x) r = c ∨ minL (min c x) r ∈ x :: r
    rcases minL_mem r (min c x) with e | e
    · rw [e]
      by_cases h : c ≤ x
      · exact .inl (Int.min_eq_left h)
      · exact .inr (by rw [Int.min_eq_right (by omega)]; exact List.mem_cons_self ..)
    · exact .inr (List.mem_cons_of_mem _ e)
theorem minL_le : ∀ (l : List Int) (c : Int), minL c l ≤ c ∧ ∀ x ∈ l, minL c l ≤ x
  | [], c => ⟨Int.le_refl _, fun x h => by cases h⟩
  | y :: r, c => by
    obtain ⟨h1, h2⟩ := minL_le r (min c y)
    have a : min c y ≤ c := Int.min_le_left ..
    have b : min c y ≤ y := Int.min_le_right ..
    refine ⟨Int.le_trans h1 a, fun x hx => ?_⟩
    rcases List.mem_cons.mp hx with rfl | hx
    · exact Int.le_trans h1 b
    · exact h2 x hx
theorem minL_is {c m : Int} {l : List Int} (h : m ∈ c :: l) (k : ∀ y ∈ c :: l, m ≤ y) : m = minL c l := by
  obtain ⟨a, b⟩ := minL_le l c
  have h1 : minL c l ≤ m := by
    rcases List.mem_cons.mp h with rfl | h
    · exact a
    · exact b m h
  have h2 : m ≤ minL c l := by
    rcases minL_mem l c with e | e
    · rw [e]; exact k c (List.mem_cons_self ..)
    · exact k _ (List.mem_cons_of_mem _ e)
  omega
def eStep (rs : List FRow) (s : (Str → Int) × List Int) (c : Str × Int) : (Str → Int) × List Int :=
  (addL s.1 (anc rs c.1) (-minL c.2 ((anc rs c.1).map s.1)), s.2 ++ [minL c.2 ((anc rs c.1).map s.1)])
def eRun (rs : List FRow) (t : Str → Int) (cs : List (Str × Int)) : (Str → Int) × List Int := cs.foldl (eStep rs) (t, [])
theorem eRun_take {rs : List FRow} {t : Str → Int} {cs : List (Str × Int)} {i : Nat} {c : Str × Int} (h : cs[i]? = some c) : eRun rs t (cs.take (i + 1)) = eStep rs (eRun rs t (cs.take i)) c := by
  rw [take_snoc h]
  unfold eRun
  rw [List.foldl_append]
  rfl
theorem eRun_len {rs : List FRow} {t : Str → Int} : ∀ {cs : List (Str × Int)} {o : List Int}, (cs.foldl (eStep rs) (t, o)).2.length = o.length + cs.length := by
  intro cs
  induction cs generalizing t with
  | nil => intro o; rfl
  | cons c r ih =>
    intro o
    show (r.foldl (eStep rs) (eStep rs (t, o) c)).2.length = _
    have := ih (t := (eStep rs (t, o) c).1) (o := (eStep rs (t, o) c).2)
    rw [this]
    show (o ++ [_]).length + r.length = _
    rw [List.length_append, List.length_cons, List.length_cons]
    show o.length + (0 + 1) + _ = _
    omega
def entF (rs : List FRow) (bs : List (Str × Int)) (cs : List (Str × Int)) : List Int := (eRun rs (totF rs bs) cs).2
theorem ent_len {rs : List FRow} {bs cs : List (Str × Int)} : (entF rs bs cs).length = cs.length := by
  unfold entF eRun
  rw [eRun_len]
  simp
/-- claims and balances as the document has them -/
def CsOk (rs : List FRow) (cs : List (Str × Int)) : Prop := cs.length ≤ 20 ∧ ∀ c ∈ cs, c.1 ∈ fNames rs ∧ 0 ≤ c.2 ∧ c.2 ≤ 1000000000
def BsN (rs : List FRow) (bs : List (Str × Int)) : Prop := (bs.map (·.1)).Nodup ∧ ∀ p ∈ bs, p.1 ∈ fNames rs
def BsOk (rs : List FRow) (bs : List (Str × Int)) : Prop := BsN rs bs ∧ ∀ p ∈ bs, 0 ≤ p.2 ∧ p.2 ≤ 1000000000000
theorem dN_none {t : Str → Int} {n : Str} {ns : List Str} (h : n ∉ ns) : valV (dN ns t) (Sum.inr n : Key) = none := by
  rw [← dB_dN]
  exact dB_none fun m => h (by rw [List.map_map] at m; simpa using m)
theorem dN_snoc {t : Str → Int} {n : Str} {ns : List Str} : dN (ns ++ [n]) t = dN ns t ++ [((Sum.inr n : Key), V.int (t n))] := by
  unfold dN; rw [List.map_append]; rfl
theorem nodup_at {ns : List Str} (h : ns.Nodup) {i : Nat} {n : Str} (hi : ns[i]? = some n) : n ∉ ns.take i := by
  intro hm
  obtain ⟨j, hj⟩ := List.mem_iff_getElem?.mp hm
  have hl := (List.getElem?_eq_some_iff.mp hj).1
  rw [List.length_take] at hl
  have hji : j < i := by omega
  rw [List.getElem?_take_of_lt hji] at hj
  obtain ⟨hil, ei⟩ := List.getElem?_eq_some_iff.mp hi
  obtain ⟨hjl, ej⟩ := List.getElem?_eq_some_iff.mp hj
  exact (List.pairwise_iff_getElem.mp h) j i hjl hil hji (by rw [ei, ej])
/-- all but one stands -/
def ExtD (D : Addr) (H H' : Hp) : Prop := ∀ x o, x ≠ D → H x = some o → H' x = some o
theorem ExtD.refl {D : Addr} {H : Hp} : ExtD D H H := fun _ _ _ e => e
theorem ExtD.trans {D : Addr} {H H' H2 : Hp} (h : ExtD D H H') (k : ExtD D H' H2) : ExtD D H H2 := fun x o n e => k x o n (h x o n e)
theorem ExtD.of {D : Addr} {H H' : Hp} (h : Ext H H') : ExtD D H H' := fun x o _ e => h x o e
theorem ExtD.at {D : Addr} {H : Hp} {o : HO} : ExtD D H (upd H D o) := fun x u n e => by rw [upd_ne n]; exact e
/-- the class Forest, its names and ancestors, as they stand -/
structure Fo (P : Program) (w : World) (K : PySem.W.Frag) (mg : Str → Option Value) (base : Heap) (C fI pN fN fA : Addr) (mc : Value) (fdN fdA : FuncData) : Prop where
  Z : FC K mg C fI mc
  hpN : PropOf K C "names" pN fN
  GN : FnOk P w K mg base CX0 1 fN fdN ["self"] (spNames C)
  bN : Binds K fdN ["self"] []
  mA : Meth K C "ancestors" fA
  GA : FnOk P w K mg base CX0 3 fA fdA ["self", "name"] (spAnc C)
  bA : Binds K fdA ["self", "name"] []
theorem fo_ne {H : Hp} {q b : Addr} {rs : List FRow} {bs : List (Str × Int)} (g : Good rs) (h1 : H q = some (.dK (kvs rs))) (h2 : H b = some (.dK (dB bs))) : q ≠ b := fun e => by
  rw [e, h2] at h1
  injection h1 with h1
  injection h1 with h1
  cases rs with
  | nil => have := g.1; simp at this
  | cons r rs =>
    cases bs with
    | nil => cases h1
    | cons p bs =>
      have h1 : ((Sum.inr p.1 : Key), V.int p.2) = (Sum.inr r.1, parV r.2) := (List.cons.inj h1).1
      have h3 : V.int p.2 = parV r.2 := (Prod.mk.inj h1).2
      cases e2 : r.2 with
      | none => rw [e2] at h3; cases h3
      | some m => rw [e2] at h3; cases h3
theorem fo_keep {C : Addr} {H H' : Hp} {a b D : Addr} {rs : List FRow} {bs : List (Str × Int)} (h : FoAt C H a rs) (g : Good rs) (hb : H b = some (.dK (dB bs))) (hD : H D = none) (k : ∀ x o, x ≠ b → x ≠ D → H x = some o → H' x = some o) : FoAt C H' a rs := by
  obtain ⟨dx, q, h1, h2⟩ := h
  exact ⟨dx, q, k _ _ (ne_of h1 hb (by intro z; cases z)) (ne_of_none h1 hD) h1, k _ _ (fo_ne g h2 hb) (ne_of_none h2 hD) h2⟩
theorem get_dN {H : Hp} {D : Addr} {ns : List Str} {t : Str → Int} {n : Str} (h : H D = some (.dK (dN ns t)) ∨ ∃ o, H D = some (.frz o (.dK (dN ns t)))) (hn : n ∈ ns) : DGet H D (.str n) (some (.int (t n))) := by
  rw [← dN_get (t := t) hn]
  exact .inl ⟨_, Sum.inr n, h, rfl, rfl⟩
theorem get_dB {H : Hp} {D : Addr} {bs : List (Str × Int)} {p : Str × Int} (h : H D = some (.dK (dB bs)) ∨ ∃ o, H D = some (.frz o (.dK (dB bs)))) (hn : (bs.map (·.1)).Nodup) (hp : p ∈ bs) : DGet H D (.str p.1) (some (.int p.2)) := by
  rw [← dB_get hn hp]
  exact .inl ⟨_, Sum.inr p.1, h, rfl, rfl⟩
theorem put_dN {H : Hp} {D : Addr} {ns : List Str} {t : Str → Int} {n : Str} {z : Int} (h : H D = some (.dK (dN ns t))) (hn : n ∈ ns) (hl : ns.length ≤ 8) : DPut H D (.str n) (.int z) (upd H D (.dK (dN ns (at_ t n z)))) := by
  rw [← dN_put hn]
  exact .inl ⟨_, Sum.inr n, h, rfl, by rw [dN_len, sizeLine_eq]; omega, rfl⟩
theorem item_dB {bs : List (Str × Int)} {i : Nat} {x1 x2 : V} (e1 : Option.map (fun kv : Key × V => kV kv.1) (dB bs)[i]? = some x1) (e2 : Option.map Prod.snd (dB bs)[i]? = some x2) : ∃ p, bs[i]? = some p ∧ V.str p.1 = x1 ∧ V.int p.2 = x2 := by
  obtain ⟨kv, hk, e⟩ := Option.map_eq_some_iff.mp e1
  rw [hk] at e2
  cases e2
  unfold dB at hk
  rw [List.getElem?_map] at hk
  obtain ⟨p, hp, rfl⟩ := Option.map_eq_some_iff.mp hk
  exact ⟨p, hp, e, rfl⟩
end Lw

set_option Elab.async false
set_option linter.all false
set_option maxRecDepth 100000
set_option maxHeartbeats 4000000
namespace Lw
open L2 hiding Ext
open PySem PySem.Spec PyProof.Rows Gn Gr Gk Go Gt Gf Gu
section
variable {P : Program} {w : World} {K : PySem.W.Frag} {mg : Str → Option Value} {base : Heap} {C fI pN fN fA : Addr} {mc : Value} {fdN fdA : FuncData}
/-! ### totals_of -/
abbrev nTotOf : List Str := ["forest", "balances", "found", "account", "balance", "name"]
def spTotOf (C : Addr) : Sp := fun vs H Q _ => ∃ (a b : Addr) (rs : List FRow) (bs : List (Str × Int)), vs = [.ref a, .ref b] ∧ FoAt C H a rs ∧ Good rs ∧ H b = some (.dK (dB bs)) ∧ BsN rs bs ∧
  ∀ H' q, Ext H H' → H q = none → H' q = some (.dK (dN (fNames rs) (totF rs bs))) → Q (.ref q) H'
theorem scTotOf : FnScope nTotOf ["forest", "balances"] (defScope sTotalsOf) := ⟨rfl, rfl, rfl, by decide +kernel, rfl, by decide +kernel, by decide +kernel⟩
theorem ok_totOf {f : Addr} {fd : FuncData} (F : Fun K "totals_of" "totals_of" sTotalsOf f fd) (Z : Fo P w K mg base C fI pN fN fA mc fdN fdA) : FnOk P w K mg base CX0 4 f fd ["forest", "balances"] (spTotOf C) := by
  refine F.ok scTotOf (fun vs H Q E h => ?_) (fun cdv A outer s H vs Q E hr h => ?_)
  · obtain ⟨a, b, rs, bs, rfl, _⟩ := h
    rfl
  · obtain ⟨a, b, rs, bs, rfl, hF, hG, hb, ⟨bn, bm⟩, k⟩ := h
    have hu := hu_of hr
    have nd := scTotOf.nd
    have hrA := hr
    have hrN : Room 2 (A.deeper (envOfC "totals_of" (defScope sTotalsOf) s.heap.objs.size f cdv)) := hr.mono (by decide)
    refine ⟨_, pss_cons (Gd.ps_setDc (i := 2) (own := [("name", 5)]) (g := gName 5) (tt := tYes) rfl nd rfl rfl (Gd.sw_trueD rfl rfl rfl (by decide +kernel)) (pi_tup (pe_prop (pv 0) Z.Z.cl Z.hpN Z.GN hrN Z.bN .nil pass0 rfl)) (blkOk_by (N := nTotOf) (sc := defScope sTotalsOf) (by decide +kernel))
(fun _ _ _ _ _ => pg_name (i := 5) nd rfl (.inl rfl)) (fun _ _ _ _ _ => pts_nil) (fun _ _ _ _ _ => pv 5) (fun _ _ _ _ _ => pe_int))
(pss_cons (ps_lock (ps_for PassesOwn.never rfl (pi_items (pv 1)) (by exact (pg_tup rfl (pgs_cons (pg_name (i := 3) nd rfl (.inl rfl)) (pgs_cons (pg_name (i := 4) nd rfl (.inl rfl)) pgs_nil))))
(pss_one (ps_for PassesOwn.never rfl (pi_list (pe_meth (pv 0) Z.Z.cl Z.mA Z.GA hrA Z.bA .nil pass0 (pa_cons (pv 3) pa_nil))) (pg_name (i := 5) nd rfl (.inl rfl))
(pss_one (ps_dput hu (pv 2) (pv 5) (pe_op op_add (pe_dget hu (pv 2) (pv 5) (fun _ _ => rfl)) (pv 4)) rfl))))))
(pss_one (ps_ret (pv 2)))), ?_⟩
    have hnd : (fNames rs).Nodup := (good_nodup hG.2.2).1
    have hlen : (fNames rs).length ≤ 8 := by rw [fNames, List.length_map]; exact hG.2.1
    obtain ⟨dx, q0, h1, h2⟩ := id hF
    refine ⟨_, rfl, a, dx, _, rfl, h1, a, rs, rfl, hF, fun H1 t k1 _ ht => ?_⟩
    refine ⟨t, rfl, ⟨_, SqT.of ht⟩, fun D hD => ?_⟩
    have hDH : H D = none := by
      cases e : H D with
      | none => rfl
      | some u => rw [k1 _ _ e] at hD; cases hD
    refine dc_it walk_tup (fun i H' => H' D = some (.dK (dN ((fNames rs).take i) fun _ => 0)) ∧ Ext H1 H') ⟨upd_same, Ext.new hD⟩ (fun i H' _ ⟨_, e⟩ => SqT.of (e _ _ ht)) ?_ ?_
    · rintro i y H3 H4 hi ⟨d3, k3⟩ ⟨rfl, hy⟩
      rw [List.getElem?_map] at hy
      obtain ⟨n, hn, rfl⟩ := Option.map_eq_some_iff.mp hy
      refine ⟨rfl, yes_of ?_⟩
      refine ⟨_, rfl, _, (Sum.inr n : Key), rfl, d3, ?_, ?_, fun x o e => ?_⟩
      · rw [dN_len, List.length_take, sizeLine_eq]
        omega
      · rw [upd_same, putK_new _ (dN_none (nodup_at hnd hn)), take_snoc hn, dN_snoc]
      · rw [upd_ne (ne_of_none e hD)]
        exact k3 _ _ e
    rintro H3 ⟨d3, k3⟩
    rw [List.length_map, List.take_length] at d3
    have k03 := k1.trans k3
    have hb3 := k03 _ _ hb
    have hbD : b ≠ D := ne_of_none hb hDH
    refine ⟨b, _, hb3, trivial, fun od => ?_⟩
    refine ⟨_, rfl, b, od, _, rfl, upd_same, ?_⟩
    have d4 : (upd H3 b (.frz od (.dK (dB bs)))) D = some (.dK (dN (fNames rs) (totF rs (bs.take 0)))) := by rw [upd_ne hbD.symm]; exact d3
    have fo : ∀ {H' : Hp}, ExtD D (upd H3 b (.frz od (.dK (dB bs)))) H' → FoAt C H' a rs := fun {H'} e => fo_keep hF hG hb hDH fun x o n1 n2 hx => e x o n2 (lock_in n1 (k03 _ _ hx))
    refine for_it walk_items (fun i σ H' => ∃ (v3 v4 v5 : Option V), σ = [some (.ref a), some (.ref b), some (.ref D), v3, v4, v5] ∧ H' D = some (.dK (dN (fNames rs) (totF rs (bs.take i)))) ∧ ExtD D (upd H3 b (.frz od (.dK (dB bs)))) H')
      ⟨none, none, none, rfl, d4, ExtD.refl⟩ (fun i σ H' _ ⟨_, _, _, _, _, e⟩ => e b _ hbD upd_same) ?_ ?_
    · rintro i x σ H5 H6 hi ⟨v3, v4, v5, rfl, d5, k5⟩ ⟨T, x1, x2, rfl, hT, rfl, e1, e2⟩
      obtain ⟨p, hp, rfl, rfl⟩ := item_dB e1 e2
      have hpm := bm p (List.mem_of_getElem? hp)
      have kT : ExtD D (upd H3 b (.frz od (.dK (dB bs)))) (upd H5 T (.tup [.str p.1, .int p.2])) := k5.trans (ExtD.of (Ext.new hT))
      have dT := new_same (o := .tup [.str p.1, .int p.2]) hT _ _ d5
      refine ⟨T, _, rfl, SqT.of upd_same, rfl, _, _, rfl, _, _, rfl, rfl, ?_⟩
      generalize upd H5 T (.tup [.str p.1, .int p.2]) = H6 at kT dT ⊢
      obtain ⟨dx6, q6, g1, g2⟩ := id (fo kT)
      obtain ⟨j, r, hj, hr1, hanc⟩ := anc_call hG hpm
      refine ⟨_, rfl, a, dx6, _, rfl, g1, rfl, _, rfl, a, rs, j, r, by rw [hr1]; rfl, fo kT, hG, hj, fun H7 l k7 hl0 hl => ?_⟩
      rw [hanc] at hl
      have k67 : ExtD D (upd H3 b (.frz od (.dK (dB bs)))) H7 := kT.trans (ExtD.of k7)
      have d7 := k7 _ _ dT
      have hlD : l ≠ D := fun e => by rw [e, dT] at hl0; cases hl0
      refine ⟨l, rfl, ⟨_, SqL.of hl⟩, ?_⟩
      refine for_it walk_list (fun i' σ H' => ∃ (v5 : Option V), σ = [some (.ref a), some (.ref b), some (.ref D), some (.str p.1), some (.int p.2), v5] ∧ H' D = some (.dK (dN (fNames rs) (addL (totF rs (bs.take i)) ((anc rs p.1).take i') p.2))) ∧ ExtD D H7 H')
        ⟨v5, rfl, d7, ExtD.refl⟩ (fun i' σ H' _ ⟨_, _, _, e⟩ => SqL.of (e _ _ hlD hl)) ?_ ?_
      · rintro i' y σ H8 H9 hi' ⟨v5, rfl, d8, k8⟩ ⟨rfl, hy⟩
        rw [List.getElem?_map] at hy
        obtain ⟨m, hm, rfl⟩ := Option.map_eq_some_iff.mp hy
        have hmn := anc_mem hG hpm (List.mem_of_getElem? hm)
        refine ⟨_, rfl, _, rfl, D, _, rfl, get_dN (.inl d8) hmn, _, rfl, _, _, rfl, rfl, _, rfl, _, rfl, D, _, rfl, put_dN d8 hmn hlen, ?_⟩
        refine ⟨_, rfl, ?_, k8.trans ExtD.at⟩
        rw [upd_same, addL_take hm]
      · rintro σ H8 ⟨v5, rfl, d8, k8⟩
        rw [List.length_map, List.take_length] at d8
        refine ⟨_, _, _, rfl, ?_, k67.trans k8⟩
        rw [totF_take hp]
        exact d8
    · rintro σ H5 ⟨v3, v4, v5, rfl, d5, k5⟩
      have e5 : (dB bs).length = bs.length := by unfold dB; rw [List.length_map]
      rw [e5, List.take_length] at d5
      refine ⟨k5 b _ hbD upd_same, _, rfl, ?_⟩
      refine k _ D (fun x o hx => ?_) hDH (by rw [upd_ne hbD.symm]; exact d5)
      by_cases n : x = b
      · subst n
        rw [upd_same, ← hb, hx]
      · rw [upd_ne n]
        exact k5 x o (ne_of_none hx hDH) (lock_in n (k03 _ _ hx))
end
end Lw

set_option Elab.async false
set_option linter.all false
set_option maxRecDepth 100000
set_option maxHeartbeats 4000000
namespace Lw
open L2 hiding Ext
open PySem PySem.Spec PyProof.Rows Gn Gr Gk Go Gt Gf Gu
/-- all but two stand -/
def Ext2 (p q : Addr) (H H' : Hp) : Prop := ∀ x o, x ≠ p → x ≠ q → H x = some o → H' x = some o
theorem Ext2.refl {p q : Addr} {H : Hp} : Ext2 p q H H := fun _ _ _ _ e => e
theorem Ext2.trans {p q : Addr} {H H' H2 : Hp} (h : Ext2 p q H H') (k : Ext2 p q H' H2) : Ext2 p q H H2 := fun x o n m e => k x o n m (h x o n m e)
theorem Ext2.of {p q : Addr} {H H' : Hp} (h : Ext H H') : Ext2 p q H H' := fun x o _ _ e => h x o e
theorem Ext2.at1 {p q : Addr} {H : Hp} {o : HO} : Ext2 p q H (upd H p o) := fun x u n _ e => by rw [upd_ne n]; exact e
theorem Ext2.at2 {p q : Addr} {H : Hp} {o : HO} : Ext2 p q H (upd H q o) := fun x u _ n e => by rw [upd_ne n]; exact e
theorem none_of {H H' : Hp} {p : Addr} (k : Ext H H') (h : H' p = none) : H p = none := by
  cases e : H p with
  | none => rfl
  | some u => rw [k _ _ e] at h; cases h
section
variable {P : Program} {w : World} {K : PySem.W.Frag} {mg : Str → Option Value} {base : Heap} {C fI pN fN fA : Addr} {mc : Value} {fdN fdA : FuncData}
/-! ### grants -/
abbrev nGrants : List Str := ["forest", "claims", "balances", "left", "found", "account", "claim", "above", "granted", "name"]
def spGrants (C : Addr) : Sp := fun vs H Q _ => ∃ (a cl b : Addr) (rs : List FRow) (bs cs : List (Str × Int)) (xs : List V), vs = [.ref a, .ref cl, .ref b] ∧ FoAt C H a rs ∧ Good rs ∧ ClAt H cl xs ∧ CsAt H xs cs ∧ (∀ c ∈ cs, c.1 ∈ fNames rs) ∧ cs.length ≤ 1000 ∧ H b = some (.dK (dB bs)) ∧ BsN rs bs ∧
  ∀ H' p, Ext H H' → H p = none → H' p = some (.lst ((entF rs bs cs).map V.int)) → Q (.ref p) H'
theorem scGrants : FnScope nGrants ["forest", "claims", "balances"] (defScope sGrants) := ⟨rfl, rfl, rfl, by decide +kernel, rfl, by decide +kernel, by decide +kernel⟩
theorem ok_grants {f fT : Addr} {fd fdT : FuncData} (F : Fun K "grants" "grants" sGrants f fd) (T : Names mg) (Z : Fo P w K mg base C fI pN fN fA mc fdN fdA)
    (GT : FnOk P w K mg base CX0 4 fT fdT ["forest", "balances"] (spTotOf C)) (bT : Binds K fdT ["forest", "balances"] []) (kT : PySem.W.keepIn K (.ref fT) = true) (mT : mg "totals_of" = some (.ref fT)) :
    FnOk P w K mg base CX0 5 f fd ["forest", "claims", "balances"] (spGrants C) := by
  refine F.ok scGrants (fun vs H Q E h => ?_) (fun cdv A outer s H vs Q E hr h => ?_)
  · obtain ⟨a, cl, b, rs, bs, cs, xs, rfl, _⟩ := h
    rfl
  · obtain ⟨a, cl, b, rs, bs, cs, xs, rfl, hF, hG, hcl, hcs, hcn, hcl2, hb, hB, k⟩ := h
    have hu := hu_of hr
    have nd := scGrants.nd
    have hrT := hr
    have hrA : Room 3 (A.deeper (envOfC "grants" (defScope sGrants) s.heap.objs.size f cdv)) := hr.mono (by decide)
    refine ⟨_, pss_cons (ps_set (i := 3) nd rfl (.inr rfl) (pe_callTy call_dictD rfl T.dict (by decide +kernel) (pa_cons (pe_call GT hrT rfl mT kT bT .nil pass0 (pa_cons (pv 0) (pa_cons (pv 2) pa_nil))) pa_nil)))
(pss_cons (ps_set (i := 4) nd rfl (.inl rfl) (pe_lst pa_nil))
(pss_cons (ps_for PassesOwn.never rfl (pi_seqV (pv 1)) (by exact (pg_tup rfl (pgs_cons (pg_name (i := 5) nd rfl (.inl rfl)) (pgs_cons (pg_name (i := 6) nd rfl (.inl rfl)) pgs_nil))))
(pss_cons (ps_set (i := 7) nd rfl (.inl rfl) (pe_meth (pv 0) Z.Z.cl Z.mA Z.GA hrA Z.bA .nil pass0 (pa_cons (pv 5) pa_nil)))
(pss_cons (ps_set (i := 8) nd rfl (.inl rfl) (pe_callB (cr_min rfl) rfl T.min (by decide +kernel) (pa_cons (pe_op op_cat (pe_lst (pa_cons (pv 6) pa_nil)) (pe_lc (own := [("name", 9)]) (g := gName 9) (tt := tYes) rfl nd (pi_list (pv 7)) (blkOk_by (N := nGrants) (sc := defScope sGrants) (by decide +kernel))
(fun _ _ _ _ _ => pg_name (i := 9) nd rfl (.inl rfl)) (fun _ _ _ _ _ => pts_nil) (fun _ _ _ _ _ => pe_dget hu (pv 3) (pv 9) (fun _ _ => rfl)))) pa_nil)))
(pss_cons (ps_for PassesOwn.never rfl (pi_list (pv 7)) (pg_name (i := 9) nd rfl (.inl rfl))
(pss_one (ps_dput hu (pv 3) (pv 9) (pe_op op_sub (pe_dget hu (pv 3) (pv 9) (fun _ _ => rfl)) (pv 8)) rfl)))
(pss_one (ps_expr (pe_bm PySem.F.plainAttrs_list PySem.F.slot_list_append PySem.F.type_list_append mt_append (pv 4) (pa_cons (pv 8) pa_nil))))))))
(pss_one (ps_ret (pv 4))))), ?_⟩
    have hlen : (fNames rs).length ≤ 8 := by rw [fNames, List.length_map]; exact hG.2.1
    refine ⟨_, rfl, _, rfl, a, b, rs, bs, rfl, hF, hG, hb, hB, fun H0 r k0 hr0 hr0' => ?_⟩
    refine ⟨r, _, rfl, .inl hr0', fun q hq1 => ?_⟩
    have k1 : Ext H (upd H0 q (.dK (dN (fNames rs) (totF rs bs)))) := k0.trans (Ext.new hq1)
    have hq0 : H q = none := none_of k0 hq1
    have hq : (upd H0 q (.dK (dN (fNames rs) (totF rs bs)))) q = some (.dK (dN (fNames rs) (totF rs bs))) := upd_same
    generalize upd H0 q (.dK (dN (fNames rs) (totF rs bs))) = H1 at k1 hq ⊢
    refine ⟨Nat.zero_le _, fun L hL => ?_⟩
    have k2 : Ext H (upd H1 L (.lst [])) := k1.trans (Ext.new hL)
    have hL0 : H L = none := none_of k1 hL
    have hqL : q ≠ L := ne_of_none hq hL
    have q2 := new_same (o := .lst []) hL _ _ hq
    have L2' : (upd H1 L (.lst [])) L = some (.lst []) := upd_same
    generalize upd H1 L (.lst []) = H2 at k2 q2 L2' ⊢
    have keep : ∀ {H' : Hp}, Ext2 q L H2 H' → ∀ x o, H x = some o → H' x = some o := fun {H'} e x o hx => e x o (ne_of_none hx hq0) (ne_of_none hx hL0) (k2 _ _ hx)
    refine ⟨cl, xs, rfl, hcl.ext k2, fun J hJ => ?_⟩
    refine for_it hJ (fun i σ H' => ∃ (v5 v6 v7 v8 v9 : Option V), σ = [some (.ref a), some (.ref cl), some (.ref b), some (.ref q), some (.ref L), v5, v6, v7, v8, v9] ∧
        H' q = some (.dK (dN (fNames rs) (eRun rs (totF rs bs) (cs.take i)).1)) ∧ H' L = some (.lst ((eRun rs (totF rs bs) (cs.take i)).2.map V.int)) ∧ Ext2 q L H2 H')
      ⟨none, none, none, none, none, rfl, q2, L2', Ext2.refl⟩ (fun i σ H' _ ⟨_, _, _, _, _, _, _, _, e⟩ => ?_) ?_ ?_
    · rcases hcl with h | h
      · exact (keep e _ _ h).trans (k2 _ _ h).symm
      · exact (keep e _ _ h).trans (k2 _ _ h).symm
    · rintro i x σ H3 H3' hi ⟨v5, v6, v7, v8, v9, rfl, q3, L3, k3⟩ ⟨rfl, hx⟩
      obtain ⟨c, p, hc, rfl, hp⟩ := hcs.get hx
      have hcm := hcn c (List.mem_of_getElem? hc)
      have er := eRun_take (rs := rs) (t := totF rs bs) hc
      have el : (eRun rs (totF rs bs) (cs.take i)).2.length ≤ 1000 := by
        unfold eRun
        rw [eRun_len, List.length_take]
        show 0 + _ ≤ _
        omega
      generalize eRun rs (totF rs bs) (cs.take i) = st at q3 L3 er el
      obtain ⟨t, os⟩ := st
      refine ⟨p, _, rfl, SqT.of (keep k3 _ _ hp), rfl, _, _, rfl, _, _, rfl, rfl, ?_⟩
      obtain ⟨dx, q6, g1, g2⟩ := hF
      obtain ⟨j, r, hj, hr1, hanc⟩ := anc_call hG hcm
      have fo : ∀ {H' : Hp}, Ext2 q L H2 H' → FoAt C H' a rs := fun e => ⟨dx, q6, keep e _ _ g1, keep e _ _ g2⟩
      refine ⟨_, rfl, a, dx, _, rfl, keep k3 _ _ g1, rfl, _, rfl, a, rs, j, r, by rw [hr1]; rfl, fo k3, hG, hj, fun H4 l k4 hl0 hl => ?_⟩
      rw [hanc] at hl
      have hlq : l ≠ q := (ne_of_none q3 hl0).symm
      have hlL : l ≠ L := (ne_of_none L3 hl0).symm
      have q4 := k4 _ _ q3
      have al := anc_len rs c.1
      refine ⟨_, rfl, by show 1 ≤ sizeLine; decide, fun u hu => ?_⟩
      have k5 : Ext H4 (upd H4 u (.lst [.int c.2])) := Ext.new hu
      have u5 : (upd H4 u (.lst [.int c.2])) u = some (.lst [.int c.2]) := upd_same
      generalize upd H4 u (.lst [.int c.2]) = H5 at k5 u5 ⊢
      refine ⟨_, rfl, l, rfl, ⟨_, SqL.of (k5 _ _ hl)⟩, fun D hD => ?_⟩
      refine lc_it walk_list (fun i' H' => H' D = some (.lst ((((anc rs c.1).take i').map t).map V.int)) ∧ Ext H5 H') ⟨upd_same, Ext.new hD⟩ (fun i' H' _ ⟨_, e⟩ => SqL.of (e _ _ (k5 _ _ hl))) ?_ ?_
      · rintro i' y H6 H6' hi' ⟨d6, k6⟩ ⟨rfl, hy⟩
        rw [List.getElem?_map] at hy
        obtain ⟨m, hm, rfl⟩ := Option.map_eq_some_iff.mp hy
        have hmn := anc_mem hG hcm (List.mem_of_getElem? hm)
        refine ⟨rfl, yes_of ?_⟩
        refine ⟨_, rfl, _, rfl, q, _, rfl, get_dN (.inl (k6 _ _ (k5 _ _ q4))) hmn, _, d6, ?_, ?_, fun x o e => ?_⟩
        · rw [List.length_map, List.length_map, List.length_take]
          exact small1000 (by omega)
        · rw [upd_same, take_snoc hm, List.map_append, List.map_append]
          rfl
        · rw [upd_ne (ne_of_none e hD)]
          exact k6 _ _ e
      rintro H6 ⟨d6, k6⟩
      rw [List.length_map, List.take_length] at d6
      refine ⟨u, D, _, _, rfl, rfl, k6 _ _ u5, d6, ?_, fun v hv => ?_⟩
      · rw [List.length_map, List.length_map, sizeLine_eq]
        show 1 + _ ≤ _
        omega
      have k7 : Ext H4 (upd H6 v (.lst ([.int c.2] ++ ((anc rs c.1).map t).map V.int))) := (k5.trans k6).trans (Ext.new hv)
      refine ⟨v, c.2 :: (anc rs c.1).map t, rfl, SqL.of upd_same, by show 0 < _ + 1; omega, fun m hm hle => ?_⟩
      obtain rfl := minL_is hm hle
      generalize upd H6 v (.lst ([.int c.2] ++ ((anc rs c.1).map t).map V.int)) = H7 at k7 ⊢
      generalize hmm : minL c.2 ((anc rs c.1).map t) = mm at er ⊢
      refine ⟨_, rfl, l, rfl, ⟨_, SqL.of (k7 _ _ hl)⟩, ?_⟩
      refine for_it walk_list (fun i' σ H' => ∃ (v9 : Option V), σ = [some (.ref a), some (.ref cl), some (.ref b), some (.ref q), some (.ref L), some (.str c.1), some (.int c.2), some (.ref l), some (.int mm), v9] ∧
          H' q = some (.dK (dN (fNames rs) (addL t ((anc rs c.1).take i') (-mm)))) ∧ ExtD q H7 H') ⟨v9, rfl, k7 _ _ q4, ExtD.refl⟩ (fun i' σ H' _ ⟨_, _, _, e⟩ => SqL.of (e _ _ hlq (k7 _ _ hl))) ?_ ?_
      · rintro i' y σ H8 H8' hi' ⟨v9, rfl, q8, k8⟩ ⟨rfl, hy⟩
        rw [List.getElem?_map] at hy
        obtain ⟨m, hm, rfl⟩ := Option.map_eq_some_iff.mp hy
        have hmn := anc_mem hG hcm (List.mem_of_getElem? hm)
        refine ⟨_, rfl, _, rfl, q, _, rfl, get_dN (.inl q8) hmn, _, rfl, _, _, rfl, rfl, _, rfl, _, rfl, q, _, rfl, put_dN q8 hmn hlen, ?_⟩
        refine ⟨_, rfl, ?_, k8.trans ExtD.at⟩
        rw [upd_same, addL_take hm, ← Int.sub_eq_add_neg]
      · rintro σ H8 ⟨v9, rfl, q8, k8⟩
        rw [List.length_map, List.take_length] at q8
        have L8 : H8 L = some (.lst (os.map V.int)) := k8 _ _ hqL.symm (k7 _ _ (k4 _ _ L3))
        refine ⟨_, rfl, .inl ⟨rfl, _, SqL.of L8⟩, _, rfl, L, _, _, rfl, rfl, L8, ?_, ?_⟩
        · rw [List.length_map, sizeLine_eq]
          have el : os.length ≤ 1000 := el
          omega
        refine ⟨_, _, _, _, _, rfl, ?_, ?_, ?_⟩
        · rw [upd_ne hqL, er]
          show H8 q = some (.dK (dN (fNames rs) (addL t (anc rs c.1) (-minL c.2 ((anc rs c.1).map t)))))
          rw [hmm]
          exact q8
        · rw [upd_same, er]
          show _ = some (HO.lst ((os ++ [minL c.2 ((anc rs c.1).map t)]).map V.int))
          rw [hmm, List.map_append]
          rfl
        · refine (k3.trans ?_).trans Ext2.at2
          exact (Ext2.of (k4.trans k7)).trans fun x o n1 n2 e => k8 x o n1 e
    · rintro σ H3 ⟨v5, v6, v7, v8, v9, rfl, q3, L3, k3⟩
      rw [hcs.1, List.take_length] at L3
      refine ⟨_, rfl, k H3 L (fun x o hx => keep k3 x o hx) hL0 L3⟩
end
end Lw

set_option Elab.async false
set_option linter.all false
set_option maxRecDepth 100000
set_option maxHeartbeats 4000000
namespace Lw
open L2 hiding Ext
open PySem PySem.Spec PyProof.Rows Gn Gr Gk Go Gt Gf Gu
theorem ty_seq {K : PySem.W.Frag} {H : Hp} {cl : Addr} {xs : List V} (h : ClAt H cl xs) : ∃ ty, TyX K H (.ref cl) ty ∧ PySem.W.kitAny K ty [.type "list", .type "tuple"] = some true := by
  rcases h with h | h
  · exact ⟨_, (TyT.lst h).x, kitAny_cons (b := true) (kit_ty (by decide +kernel)) (fun z => by cases z) (fun _ => rfl)⟩
  · exact ⟨_, (TyT.tup h).x, kitAny_cons (b := false) (kit_ty (by decide +kernel)) (fun _ => kitAny_cons (b := true) (kit_ty (by decide +kernel)) (fun z => by cases z) (fun _ => rfl)) (fun z => by cases z)⟩
section
variable {P : Program} {w : World} {K : PySem.W.Frag} {mg : Str → Option Value} {base : Heap} {C fI pN fN fA : Addr} {mc : Value} {fdN fdA : FuncData}
/-! ### is_claim, check_claims -/
abbrev nIsClaim : List Str := ["forest", "value", "account", "claim"]
def spIsClaim (C : Addr) : Sp := fun vs H Q _ => ∃ (a p : Addr) (rs : List FRow) (c : Str × Int), vs = [.ref a, .ref p] ∧ FoAt C H a rs ∧ Good rs ∧ H p = some (.tup [.str c.1, .int c.2]) ∧ c.1 ∈ fNames rs ∧ 0 ≤ c.2 ∧ c.2 ≤ 1000000000 ∧ ∀ H', Ext H H' → Q (.bl true) H'
theorem scIsClaim : FnScope nIsClaim ["forest", "value"] (defScope sIsClaim) := ⟨rfl, rfl, rfl, by decide +kernel, rfl, by decide +kernel, by decide +kernel⟩
theorem ok_isClaim {f fJ fB : Addr} {fd fdJ fdB : FuncData} (F : Fun K "is_claim" "is_claim" sIsClaim f fd) (T : Names mg) (Z : Fo P w K mg base C fI pN fN fA mc fdN fdA)
    (GI : FnOk P w K mg base CX0 1 fJ fdJ ["value"] spInt) (bI : Binds K fdJ ["value"] []) (kI : PySem.W.keepIn K (.ref fJ) = true) (mI : mg "is_int" = some (.ref fJ))
    (GA : FnOk P w K mg base CX0 2 fB fdB ["value"] spAmt) (bA : Binds K fdB ["value"] []) (kA : PySem.W.keepIn K (.ref fB) = true) (mA : mg "is_amount" = some (.ref fB)) :
    FnOk P w K mg base CX0 3 f fd ["forest", "value"] (spIsClaim C) := by
  refine F.ok scIsClaim (fun vs H Q E h => ?_) (fun cdv A outer s H vs Q E hr h => ?_)
  · obtain ⟨a, p, rs, c, rfl, _⟩ := h
    rfl
  · obtain ⟨a, p, rs, c, rfl, hF, hG, hp, hn, c0, c1, k⟩ := h
    have hu := hu_of hr
    have nd := scIsClaim.nd
    have hr2 := hr
    have hrN := hr
    have hr1 : Room 1 (A.deeper (envOfC "is_claim" (defScope sIsClaim) s.heap.objs.size f cdv)) := hr.mono (by decide)
    refine ⟨_, pss_cons (ps_if (PW.pt (pw_or (pt_not (pt_val (pe_callB call_isi rfl T.isi (by decide +kernel) (pa_cons (pv 1) (pa_cons (pe_bltn (v := .ty "tuple") rfl T.tuple (by decide +kernel) rfl) pa_nil))))) (pw_or1 (pt_cmpR op_ne (pe_callB call_len_seq rfl T.len PySem.boot_len (pa_cons (pv 1) pa_nil)) pe_int (nomark _))))) (pss_one (ps_ret pe_bl)) pss_nil)
(pss_cons (ps_asg (pv 1) (by exact (pg_tup rfl (pgs_cons (pg_name (i := 2) nd rfl (.inl rfl)) (pgs_cons (pg_name (i := 3) nd rfl (.inl rfl)) pgs_nil)))))
(pss_one (ps_ret (pe_and (pe_cmpR op_in_seq (pv 2) (pe_prop (pv 0) Z.Z.cl Z.hpN Z.GN hrN Z.bN .nil pass0 rfl) rfl) (pe_and (pe_call GI hr1 rfl mI kI bI .nil pass0 (pa_cons (pv 3) pa_nil)) (pe_one (pe_or (pe_cmpR op_eq (pv 3) pe_int (nomark _)) (pe_one (pe_call GA hr2 rfl mA kA bA .nil pass0 (pa_cons (pv 3) pa_nil)))))))))), ?_⟩
    obtain ⟨dx, q0, h1, h2⟩ := id hF
    refine ⟨_, rfl, _, _, _, _, true, rfl, .ty _, (TyT.tup hp).x, kit_ty (by decide +kernel), true, rfl, iteF ?_⟩
    refine ⟨_, rfl, p, _, rfl, .inr (SqT.of hp), rfl, _, rfl, iteNS rfl ?_⟩
    refine ⟨_, rfl, p, _, rfl, SqT.of hp, rfl, _, _, rfl, _, _, rfl, rfl, ?_⟩
    refine ⟨_, rfl, _, rfl, a, dx, _, rfl, h1, a, rs, rfl, hF, fun H1 t k1 _ ht => ?_⟩
    refine ⟨t, _, rfl, .inr (SqT.of ht), rfl, strs_flat _, ?_⟩
    show ∃ b, V.bl (inV (.str c.1) ((fNames rs).map V.str)) = V.bl b ∧ _
    rw [inV_strs, decide_eq_true hn]
    refine ⟨true, rfl, iteT ?_⟩
    refine ⟨_, rfl, _, _, rfl, .inl ⟨c.2, rfl, rfl⟩, true, rfl, iteT ?_⟩
    refine ⟨_, rfl, rfl, _, rfl, ?_⟩
    refine ite2 (fun _ => k H1 k1) (fun e => ?_)
    have hz : c.2 ≠ 0 := fun z => e (by rw [z]; rfl)
    have ha : amtOk c.2 = true := by
      unfold amtOk
      rw [decide_eq_true (by omega), decide_eq_true c1]
      rfl
    refine ⟨_, rfl, _, _, rfl, .inl ⟨c.2, rfl, rfl⟩, fun H' k' => ?_⟩
    rw [ha]
    exact k H' (k1.trans k')
abbrev nCkClaims : List Str := ["forest", "claims", "pair"]
def spCkClaims (C : Addr) : Sp := fun vs H Q _ => ∃ (a cl : Addr) (rs : List FRow) (cs : List (Str × Int)) (xs : List V), vs = [.ref a, .ref cl] ∧ FoAt C H a rs ∧ Good rs ∧ ClAt H cl xs ∧ CsAt H xs cs ∧ CsOk rs cs ∧ ∀ H', Ext H H' → Q .non H'
theorem scCkClaims : FnScope nCkClaims ["forest", "claims"] (defScope sCheckClaims) := ⟨rfl, rfl, rfl, by decide +kernel, rfl, by decide +kernel, by decide +kernel⟩
theorem all_true (n : Nat) : (List.replicate n true).all id = true := by
  rw [List.all_eq_true]
  intro x hx
  exact List.eq_of_mem_replicate hx
theorem ok_ckClaims {f fJ : Addr} {fd fdJ : FuncData} (F : Fun K "check_claims" "check_claims" sCheckClaims f fd) (T : Names mg) (hM : ∃ t, mg "MOST_CLAIMS" = some (.int 20 t))
    (GC : FnOk P w K mg base CX0 3 fJ fdJ ["forest", "value"] (spIsClaim C)) (bC : Binds K fdJ ["forest", "value"] []) (kC : PySem.W.keepIn K (.ref fJ) = true) (mC : mg "is_claim" = some (.ref fJ)) :
    FnOk P w K mg base CX0 4 f fd ["forest", "claims"] (spCkClaims C) := by
  refine F.ok scCkClaims (fun vs H Q E h => ?_) (fun cdv A outer s H vs Q E hr h => ?_)
  · obtain ⟨a, cl, rs, cs, xs, rfl, _⟩ := h
    rfl
  · obtain ⟨a, cl, rs, cs, xs, rfl, hF, hG, hcl, hcs, ⟨hc20, hco⟩, k⟩ := h
    have hu := hu_of hr
    have nd := scCkClaims.nd
    obtain ⟨tM, hM⟩ := hM
    refine ⟨_, pss_cons (ps_if (pt_not (pt_val (pe_callB call_isiT rfl T.isi (by decide +kernel) (pa_cons (pv 1) (pa_cons (pe_tup (pa_cons (pe_bltn (v := .ty "list") rfl T.list (by decide +kernel) rfl) (pa_cons (pe_bltn (v := .ty "tuple") rfl T.tuple (by decide +kernel) rfl) pa_nil))) pa_nil))))) (pss_never) pss_nil)
(pss_cons (ps_if (pt_cmpR op_gt (pe_callB call_len_seq rfl T.len PySem.boot_len (pa_cons (pv 1) pa_nil)) (pe_glob (v := .int 20) rfl hM ⟨_, rfl⟩) (nomark _)) (pss_never) pss_nil)
(pss_one (ps_if (pt_not (pt_val (pe_callB (cr_all rfl) rfl T.all (by decide +kernel) (pa_cons (pe_lc (own := [("pair", 2)]) (g := gName 2) (tt := tYes) rfl nd (pi_seqV (pv 1)) (blkOk_by (N := nCkClaims) (sc := defScope sCheckClaims) (by decide +kernel))
(fun _ _ _ _ _ => pg_name (i := 2) nd rfl (.inl rfl)) (fun _ _ _ _ _ => pts_nil) (fun _ _ _ _ _ => pe_call GC hr rfl mC kC bC .nil pass0 (pa_cons (pv 0) (pa_cons (pv 2) pa_nil)))) pa_nil)))) (pss_never) pss_nil))), ?_⟩
    refine ⟨_, rfl, by show 2 ≤ sizeLine; decide, fun tp htp => ?_⟩
    have k1 : Ext H (upd H tp (.tup [.ty "list", .ty "tuple"])) := Ext.new htp
    have t1 : (upd H tp (.tup [.ty "list", .ty "tuple"])) tp = some (.tup [.ty "list", .ty "tuple"]) := upd_same
    generalize upd H tp (.tup [.ty "list", .ty "tuple"]) = H1 at k1 t1 ⊢
    have c1 := hcl.ext k1
    obtain ⟨ty, hty, hkit⟩ := ty_seq (K := K) c1
    refine ⟨_, tp, _, _, [.type "list", .type "tuple"], true, rfl, t1, .cons (.ty _) (.cons (.ty _) .nil), hty, hkit, true, rfl, iteF ?_⟩
    have hl := hcs.1
    refine ⟨_, rfl, cl, xs, rfl, c1.sq, _, _, rfl, rfl, _, rfl, iteN (by omega) ?_⟩
    refine ⟨cl, xs, rfl, c1, fun J hJ D hD => ?_⟩
    refine lc_it hJ (fun i H' => H' D = some (.lst ((List.replicate i true).map V.bl)) ∧ Ext H1 H') ⟨upd_same, Ext.new hD⟩ (fun i H' _ ⟨_, e⟩ => ?_) ?_ ?_
    · rcases c1 with h | h
      · exact (e _ _ h).trans h.symm
      · exact (e _ _ h).trans h.symm
    · rintro i y H2 H2' hi ⟨d2, k2⟩ ⟨rfl, hy⟩
      obtain ⟨c, p, hc, rfl, hp⟩ := hcs.get hy
      obtain ⟨o1, o2, o3⟩ := hco c (List.mem_of_getElem? hc)
      have k12 := k1.trans k2
      refine ⟨rfl, yes_of ?_⟩
      refine ⟨_, rfl, _, rfl, a, p, rs, c, rfl, hF.ext k12, hG, k12 _ _ hp, o1, o2, o3, fun H3 k3 => ?_⟩
      refine ⟨_, k3 _ _ d2, ?_, ?_, fun x o e => ?_⟩
      · rw [List.length_map, List.length_replicate]
        exact small1000 (by omega)
      · rw [upd_same, List.replicate_succ', List.map_append]
        rfl
      · rw [upd_ne (ne_of_none e hD)]
        exact k3 _ _ (k2 _ _ e)
    rintro H2 ⟨d2, k2⟩
    refine ⟨D, _, rfl, SqL.of d2, ?_⟩
    rw [all_true]
    exact ⟨true, rfl, iteF (k H2 (k1.trans k2))⟩
/-! ### check_balances -/
abbrev nCkBal : List Str := ["forest", "balances", "account", "balance"]
def spCkBal (C : Addr) : Sp := fun vs H Q _ => ∃ (a b : Addr) (rs : List FRow) (bs : List (Str × Int)), vs = [.ref a, .ref b] ∧ FoAt C H a rs ∧ Good rs ∧ H b = some (.dK (dB bs)) ∧ BsOk rs bs ∧ ∀ H', Ext H H' → Q .non H'
theorem scCkBal : FnScope nCkBal ["forest", "balances"] (defScope sCheckBalances) := ⟨rfl, rfl, rfl, by decide +kernel, rfl, by decide +kernel, by decide +kernel⟩
theorem ok_ckBal {f fJ : Addr} {fd fdJ : FuncData} (F : Fun K "check_balances" "check_balances" sCheckBalances f fd) (T : Names mg) (Z : Fo P w K mg base C fI pN fN fA mc fdN fdA) (hM : ∃ t, mg "MOST_BALANCE" = some (.int 1000000000000 t))
    (GI : FnOk P w K mg base CX0 1 fJ fdJ ["value"] spInt) (bI : Binds K fdJ ["value"] []) (kI : PySem.W.keepIn K (.ref fJ) = true) (mI : mg "is_int" = some (.ref fJ)) :
    FnOk P w K mg base CX0 3 f fd ["forest", "balances"] (spCkBal C) := by
  refine F.ok scCkBal (fun vs H Q E h => ?_) (fun cdv A outer s H vs Q E hr h => ?_)
  · obtain ⟨a, b, rs, bs, rfl, _⟩ := h
    rfl
  · obtain ⟨a, b, rs, bs, rfl, hF, hG, hb, ⟨⟨bn, bm⟩, bo⟩, k⟩ := h
    have hu := hu_of hr
    have nd := scCkBal.nd
    have hrN := hr
    have hr1 : Room 1 (A.deeper (envOfC "check_balances" (defScope sCheckBalances) s.heap.objs.size f cdv)) := hr.mono (by decide)
    obtain ⟨tM, hM⟩ := hM
    refine ⟨_, pss_cons (ps_if (pt_not (pt_val (pe_callB call_isi rfl T.isi (by decide +kernel) (pa_cons (pv 1) (pa_cons (pe_bltn (v := .ty "dict") rfl T.dict (by decide +kernel) rfl) pa_nil))))) (pss_never) pss_nil)
(pss_one (ps_lock (ps_for PassesOwn.never rfl (pi_items (pv 1)) (by exact (pg_tup rfl (pgs_cons (pg_name (i := 2) nd rfl (.inl rfl)) (pgs_cons (pg_name (i := 3) nd rfl (.inl rfl)) pgs_nil))))
(pss_cons (ps_if (pt_cmpR op_notIn_seq (pv 2) (pe_prop (pv 0) Z.Z.cl Z.hpN Z.GN hrN Z.bN .nil pass0 rfl) rfl) (pss_never) pss_nil)
(pss_one (ps_if (PW.pt (pw_or (pt_not (pt_val (pe_call GI hr1 rfl mI kI bI .nil pass0 (pa_cons (pv 3) pa_nil)))) (pw_or1 (pt_not (pt_chain op_le op_le pe_int (pv 3) (pe_glob (v := .int 1000000000000) rfl hM ⟨_, rfl⟩)))))) (pss_never) pss_nil)))))), ?_⟩
    refine ⟨_, rfl, _, _, _, _, true, rfl, .ty _, (TyT.dct hb).x, kit_ty (by decide +kernel), true, rfl, iteF ?_⟩
    refine ⟨b, _, hb, trivial, fun od => ?_⟩
    refine ⟨_, rfl, b, od, _, rfl, upd_same, ?_⟩
    obtain ⟨dx, q0, h1, h2⟩ := id hF
    have fo : ∀ {H' : Hp}, Ext (upd H b (.frz od (.dK (dB bs)))) H' → H' a = some (.ins C dx [("_parents", .ref q0)]) ∧ H' q0 = some (.dK (kvs rs)) := fun {H'} e =>
      ⟨e _ _ (lock_in (ne_of h1 hb (by intro z; cases z)) h1), e _ _ (lock_in (fo_ne hG h2 hb) h2)⟩
    refine for_it walk_items (fun i σ H' => ∃ (v2 v3 : Option V), σ = [some (.ref a), some (.ref b), v2, v3] ∧ Ext (upd H b (.frz od (.dK (dB bs)))) H') ⟨none, none, rfl, Ext.refl⟩ (fun i σ H' _ ⟨_, _, _, e⟩ => e b _ upd_same) ?_ ?_
    · rintro i x σ H5 H6 hi ⟨v2, v3, rfl, k5⟩ ⟨T, x1, x2, rfl, hT, rfl, e1, e2⟩
      obtain ⟨p, hp, rfl, rfl⟩ := item_dB e1 e2
      have hpm := bm p (List.mem_of_getElem? hp)
      obtain ⟨p0, p1⟩ := bo p (List.mem_of_getElem? hp)
      have k6 := k5.trans (Ext.new (o := .tup [.str p.1, .int p.2]) hT)
      refine ⟨T, _, rfl, SqT.of upd_same, rfl, _, _, rfl, _, _, rfl, rfl, ?_⟩
      generalize upd H5 T (.tup [.str p.1, .int p.2]) = H6 at k6 ⊢
      obtain ⟨g1, g2⟩ := fo k6
      refine ⟨_, rfl, _, rfl, a, dx, _, rfl, g1, a, rs, rfl, ⟨dx, q0, g1, g2⟩, fun H7 t k7 _ ht => ?_⟩
      refine ⟨t, _, rfl, .inr (SqT.of ht), rfl, strs_flat _, ?_⟩
      show ∃ b, V.bl (!inV (.str p.1) ((fNames rs).map V.str)) = V.bl b ∧ _
      rw [inV_strs, decide_eq_true hpm]
      refine ⟨false, rfl, iteF ?_⟩
      refine ⟨_, rfl, _, _, rfl, .inl ⟨p.2, rfl, rfl⟩, true, rfl, iteF ?_⟩
      refine ⟨_, rfl, _, _, rfl, rfl, _, rfl, iteS p0 ?_⟩
      refine ⟨_, _, rfl, rfl, _, rfl, ?_⟩
      show if (!decide (p.2 ≤ 1000000000000)) = true then _ else _
      rw [decide_eq_true p1]
      refine iteF ?_
      exact ⟨_, _, rfl, k6.trans k7⟩
    · rintro σ H5 ⟨v2, v3, rfl, k5⟩
      exact ⟨k5 b _ upd_same, k _ (lock_ext hb k5)⟩
end
end Lw

set_option Elab.async false
set_option linter.all false
set_option maxRecDepth 100000
set_option maxHeartbeats 4000000
namespace Lw
open L2 hiding Ext
open PySem PySem.Spec PyProof.Rows Gn Gr Gk Go Gt Gf Gu
theorem rows_refs {K : PySem.W.Frag} {H : Hp} : ∀ {xs : List V} {rs : List FRow}, RowsAt H xs rs → ∃ ps : List Addr, xs = ps.map V.ref ∧ Paired (fun p kv => SqT K H p [kV kv.1, kv.2]) ps (kvs rs)
  | [], [], _ => ⟨[], rfl, .nil⟩
  | [], _ :: _, h => by have := h.1; simp at this
  | _ :: _, [], h => by have := h.1; simp at this
  | x :: xs, r :: rs, h => by
    obtain ⟨p, h1, h2⟩ := h.2 0 r rfl
    have h1 : some x = some (V.ref p) := h1
    cases h1
    obtain ⟨ps, e, k⟩ := rows_refs (K := K) (H := H) (xs := xs) (rs := rs) ⟨by have := h.1; simpa using this, fun i r' hr => h.2 (i + 1) r' (by simpa using hr)⟩
    exact ⟨p :: ps, by rw [e]; rfl, .cons (SqT.of h2) k⟩
theorem merge_rows {rs : List FRow} (h : (fNames rs).Nodup) : mergeK [] (kvs rs) = kvs rs := merge_self (by
  unfold kvs
  rw [List.map_map]
  exact nodup_inr (fun r : FRow => r.1) h)
theorem merge_dN {ns : List Str} {t : Str → Int} (h : ns.Nodup) : mergeK [] (dN ns t) = dN ns t := merge_self (by
  unfold dN
  rw [List.map_map]
  exact nodup_inr (fun n : Str => n) (by rw [List.map_id']; exact h))
section
variable {P : Program} {w : World} {K : PySem.W.Frag} {mg : Str → Option Value} {base : Heap}
theorem RowsAt.get {H : Hp} {vs : List V} {rs : List FRow} (h : RowsAt H vs rs) {i : Nat} {x : V} (hx : vs[i]? = some x) : ∃ (r : FRow) (p : Addr), rs[i]? = some r ∧ x = .ref p ∧ H p = some (.tup [.str r.1, parV r.2]) := by
  have hi : i < rs.length := by rw [← h.1]; exact (List.getElem?_eq_some_iff.mp hx).1
  obtain ⟨p, a, b⟩ := h.2 i _ (List.getElem?_eq_getElem hi)
  rw [hx] at a
  cases a
  exact ⟨_, p, List.getElem?_eq_getElem hi, rfl, b⟩
end
end Lw

set_option Elab.async false
set_option linter.all false
set_option maxRecDepth 100000
set_option maxHeartbeats 4000000
namespace Lw
open L2 hiding Ext
open PySem PySem.Spec PyProof.Rows Gn Gr Gk Go Gt Gf Gu
section
variable {P : Program} {w : World} {K : PySem.W.Frag} {mg : Str → Option Value} {base : Heap}
/-! ### _law_order, of names -/
abbrev nOrder : List Str := ["_law_state", "_law_some", "_law_stock", "_law_found"]
def spOrder (ns : List Int) : Sp := fun vs H Q _ => ∃ (d g c l : Addr) (b : Nat) (ws : List Str), vs = [.ref d, .ref l] ∧ Dw ns d g c b H ∧ b ≤ 900000000 ∧ H l = some (.lst (ws.map V.str)) ∧ ws.length ≤ 8 ∧ (∀ x ∈ ws, nameOk x = true) ∧
  ∀ (p : Addr) (ys : List Str) (H' : Hp), H p = none → p ≠ d → p ≠ g → H' p = some (.lst (ys.map V.str)) → ys.Perm ws → Dw ns d g c (b + 8) H' → Kp d g H H' → Q (.ref p) H'
theorem scOrder : FnScope nOrder ["_law_state", "_law_some"] (defScope sLOrder) := ⟨rfl, rfl, rfl, by decide +kernel, rfl, by decide +kernel, by decide +kernel⟩
theorem perm_erase {α : Type} : ∀ {l : List α} {i : Nat} {x : α}, l[i]? = some x → (x :: l.eraseIdx i).Perm l
  | [], _, _, h => by cases h
  | a :: r, 0, x, h => by cases h; exact List.Perm.refl _
  | a :: r, i + 1, x, h => by
    show (x :: a :: r.eraseIdx i).Perm (a :: r)
    exact (List.Perm.swap a x _).trans ((perm_erase (l := r) (i := i) (x := x) (by simpa using h)).cons a)
theorem map_erase {α β : Type} (f : α → β) : ∀ (l : List α) (i : Nat), (l.map f).eraseIdx i = (l.eraseIdx i).map f
  | [], _ => rfl
  | _ :: _, 0 => rfl
  | a :: r, i + 1 => by
    show f a :: (r.map f).eraseIdx i = f a :: (r.eraseIdx i).map f
    rw [map_erase f r i]
theorem ok_order {f fT fP : Addr} {fd fdT fdP : FuncData} (ns : List Int) (F : Fun K "_law_order" "_law_order" sLOrder f fd) (T : Names mg) (R : Draw P w K mg base ns fT fP fdT fdP) : FnOk P w K mg base CX0 3 f fd ["_law_state", "_law_some"] (spOrder ns) := by
  refine F.ok scOrder (fun vs H Q E h => ?_) (fun cdv A outer s H vs Q E hr h => ?_)
  · obtain ⟨d, g, c, l, b, ws, rfl, _⟩ := h
    rfl
  · obtain ⟨d, g, c, l, b, ws, rfl, D, hb, hl, hw8, hwo, k⟩ := h
    have hu := hu_of hr
    have nd := scOrder.nd
    have hr2 := hr
    refine ⟨_, pss_cons (ps_par (i := 2) (j := 3) (by rfl) nd rfl rfl (by decide) rfl rfl (pa_cons (pe_callTy call_list_of rfl T.list (by decide +kernel) (pa_cons (pv 1) pa_nil)) (pa_cons (pe_lst pa_nil) pa_nil)) (by rfl))
(pss_cons (ps_while PassesOwn.never (pt_cmpR (op_neD hr.units) (pv 2) (pe_lst pa_nil) (nomark _))
(pss_one (ps_expr (pe_bm PySem.F.plainAttrs_list PySem.F.slot_list_append PySem.F.type_list_append mt_append (pv 3) (pa_cons (pe_bm PySem.F.plainAttrs_list PySem.F.slot_list_pop PySem.F.type_list_pop mt_popAt (pv 2) (pa_cons (pe_call R.GT hr2 rfl R.mT R.kT R.bT .nil pass0 (pa_cons (pv 0) (pa_cons (pe_callB call_len_seq rfl T.len PySem.boot_len (pa_cons (pv 2) pa_nil)) pa_nil))) pa_nil)) pa_nil)))))
(pss_one (ps_ret (pv 3)))), ?_⟩
    refine ⟨_, rfl, l, _, rfl, .inl (SqL.of hl), fun q hq => ?_⟩
    have Dq := D.new (o := .lst (ws.map V.str)) hq
    refine ⟨Nat.zero_le _, fun L hL => ?_⟩
    refine ⟨_, _, rfl, ?_⟩
    have DL := Dq.new (o := .lst []) hL
    have nqd := D.nd hq
    have nqg := D.ng hq
    have nqc : q ≠ c := fun e => by rw [e, D.cl] at hq; cases hq
    have nLd := Dq.nd hL
    have nLg := Dq.ng hL
    have nLc : L ≠ c := fun e => by rw [e, Dq.cl] at hL; cases hL
    have q1 := new_same (o := .lst []) hL _ _ (upd_same (H := H) (a := q) (o := .lst (ws.map V.str)))
    have L1 : (upd (upd H q (.lst (ws.map V.str))) L (.lst [])) L = some (.lst (([] : List Str).map V.str)) := upd_same
    have nqL : q ≠ L := fun e => by rw [← e] at hL; rw [upd_same] at hL; cases hL
    have hL0 : H L = none := none_of (Ext.new (o := .lst (ws.map V.str)) hq) hL
    have k1 : Kp d g H (upd (upd H q (.lst (ws.map V.str))) L (.lst [])) := (Kp.new hq).trans (Kp.new hL)
    generalize upd (upd H q (.lst (ws.map V.str))) L (.lst []) = H1 at DL q1 L1 k1 ⊢
    refine while_by (fun σ H' => ∃ (st ys : List Str), σ = [some (.ref d), some (.ref l), some (.ref q), some (.ref L)] ∧ H' q = some (.lst (st.map V.str)) ∧ H' L = some (.lst (ys.map V.str)) ∧ (ys ++ st).Perm ws ∧ Dw ns d g c (b + ys.length) H' ∧ Kp d g H H')
      (fun _ H' => match H' q with | some (.lst xs) => xs.length | _ => 0) ⟨ws, [], rfl, q1, L1, List.Perm.refl _, DL, k1⟩ ?_ ?_
    · rintro σ H2 ⟨st, ys, rfl, q2, L2, hp, D2, k2⟩
      have hlen : ys.length + st.length ≤ 8 := by
        have := hp.length_eq
        rw [List.length_append] at this
        omega
      have hsok : ∀ x ∈ st, PyData.strOk x = true := fun x hx => (name_asc19 (hwo x (hp.mem_iff.mp (List.mem_append.mpr (.inr hx))))).ok
      refine ⟨_, rfl, Nat.zero_le _, fun e he => ?_⟩
      have D3 := D2.new (o := .lst []) he
      have q3 := new_same (o := .lst []) he _ _ q2
      have L3 := new_same (o := .lst []) he _ _ L2
      have k3 : Kp d g H (upd H2 e (.lst [])) := k2.trans (Kp.new he)
      refine ⟨_, _, .lst (SqL.of q3) (dp_strs st), .lst (SqL.of upd_same) .nil, shaped_strs hsok, shaped_nil, _, rfl, ?_⟩
      rw [eqv_nil]
      have mq : (match H2 q with | some (.lst xs) => xs.length | _ => 0) = st.length := by rw [q2]; exact List.length_map ..
      generalize upd H2 e (.lst []) = H3 at D3 q3 L3 k3 ⊢
      cases st with
      | nil =>
        refine iteF ?_
        rw [List.append_nil] at hp
        exact ⟨_, rfl, k L ys H3 hL0 nLd nLg L3 hp (D3.mono (by omega)) k3⟩
      | cons s0 sr =>
        refine iteT ?_
        rw [List.length_cons] at hlen
        refine ⟨_, rfl, .inl ⟨rfl, _, SqL.of L3⟩, _, rfl, .inl ⟨rfl, _, SqL.of q3⟩, _, rfl, _, rfl, q, _, rfl, .inl (SqL.of q3), d, g, c, _, _, rfl, D3, by omega, by rw [List.length_map, List.length_cons]; omega, by rw [List.length_map, List.length_cons]; omega, fun r H4 r0 r1 D4 k4 => ?_⟩
        rw [List.length_map, List.length_cons] at r1
        have q4 := k4 _ _ nqd nqg q3
        have L4 := k4 _ _ nLd nLg L3
        have hri : r.toNat < (s0 :: sr).length := by rw [List.length_cons]; omega
        have hx := List.getElem?_eq_getElem hri
        generalize hxv : (s0 :: sr)[r.toNat] = x at hx
        refine ⟨q, _, r, r.toNat, V.str x, rfl, rfl, q4, by omega, by omega, ?_, ?_, ?_⟩
        · rw [List.length_map]
          exact ix_pos r0 (by rw [List.length_cons]; omega)
        · rw [List.getElem?_map, hx]; rfl
        have L5 : (upd H4 q (.lst ((((s0 :: sr).map V.str).eraseIdx r.toNat)))) L = some (.lst (ys.map V.str)) := by rw [upd_ne nqL.symm]; exact L4
        refine ⟨L, _, _, rfl, rfl, L5, small1000 (by rw [List.length_map]; omega), ?_⟩
        have D5 := (D4.put (o := .lst ((((s0 :: sr).map V.str).eraseIdx r.toNat))) q4 nqd nqg nqc)
        have D6 := D5.put (o := .lst (ys.map V.str ++ [V.str x])) L5 nLd nLg nLc
        refine ⟨⟨(s0 :: sr).eraseIdx r.toNat, ys ++ [x], rfl, ?_, by rw [upd_same, List.map_append]; rfl, ?_, ?_, ?_⟩, ?_⟩
        · rw [upd_ne nqL, upd_same, map_erase]
        · refine List.Perm.trans ?_ hp
          rw [List.append_assoc]
          exact (perm_erase hx).append_left ys
        · rw [List.length_append]
          exact D6.mono (by show _ ≤ b + (ys.length + 1); omega)
        · exact fun a o n1 n2 ha => by
            rw [upd_ne (ne_of_none ha hL0), upd_ne (ne_of_none ha hq)]
            exact (k3.trans k4) a o n1 n2 ha
        · show (match (upd (upd H4 q _) L _) q with | some (.lst xs) => xs.length | _ => 0) < _
          rw [mq, upd_ne nqL, upd_same]
          show (((s0 :: sr).map V.str).eraseIdx r.toNat).length < _
          rw [List.length_eraseIdx, List.length_map, if_pos hri, List.length_cons]
          omega
    · exact fun σ H Q Q' hq ⟨v, e1, e2, f⟩ => ⟨v, e1, e2, fun e he => by
        obtain ⟨dd, ee, a1, a2, a3, a4, b, e3, h⟩ := f e he
        exact ⟨dd, ee, a1, a2, a3, a4, b, e3, hq _ _ h⟩⟩
/-! ### _law_claims -/
abbrev nClaims : List Str := ["_law_state", "_law_names", "_law_numbers", "_law_found", "_law_k", "_law_claim"]
def Nm (H : Hp) (a : Addr) (ws : List Str) : Prop := H a = some (.lst (ws.map V.str)) ∧ ws ≠ [] ∧ ws.length ≤ 8 ∧ ∀ x ∈ ws, nameOk x = true
def spClaims (ns : List Int) : Sp := fun vs H Q _ => ∃ (d g c l : Addr) (b : Nat) (m : Int) (ws : List Str), vs = [.ref d, .ref l, .int m] ∧ Dw ns d g c b H ∧ b ≤ 800000000 ∧ l ≠ d ∧ l ≠ g ∧ Nm H l ws ∧ 1 ≤ m ∧ m ≤ 1000000000 ∧
  ∀ (p : Addr) (xs : List V) (cs : List (Str × Int)) (H' : Hp), H p = none → p ≠ d → p ≠ g → H' p = some (.lst xs) → CsAt H' xs cs → cs.length ≤ 20 → (∀ q ∈ cs, q.1 ∈ ws ∧ 0 ≤ q.2 ∧ q.2 ≤ m) → Dw ns d g c (b + 200) H' → Kp d g H H' → Q (.ref p) H'
theorem scClaims : FnScope nClaims ["_law_state", "_law_names", "_law_numbers"] (defScope sLClaims) := ⟨rfl, rfl, rfl, by decide +kernel, rfl, by decide +kernel, by decide +kernel⟩
theorem ok_claims {f fT fP : Addr} {fd fdT fdP : FuncData} (ns : List Int) (F : Fun K "_law_claims" "_law_claims" sLClaims f fd) (T : Names mg) (R : Draw P w K mg base ns fT fP fdT fdP) : FnOk P w K mg base CX0 4 f fd ["_law_state", "_law_names", "_law_numbers"] (spClaims ns) := by
  refine F.ok scClaims (fun vs H Q E h => ?_) (fun cdv A outer s H vs Q E hr h => ?_)
  · obtain ⟨d, g, c, l, b, m, ws, rfl, _⟩ := h
    rfl
  · obtain ⟨d, g, c, l, b, m, ws, rfl, D, hb, nld, nlg, ⟨hl, hw0, hw8, hwo⟩, m1, m9, k⟩ := h
    have hu := hu_of hr
    have nd := scClaims.nd
    have hr3 := hr
    have hr2 : Room 2 (A.deeper (envOfC "_law_claims" (defScope sLClaims) s.heap.objs.size f cdv)) := hr.mono (by decide)
    refine ⟨_, pss_cons (ps_set (i := 3) nd rfl (.inl rfl) (pe_lst pa_nil))
(pss_cons (ps_for PassesOwn.never rfl (pi_range1 rfl T.range (pa_cons (pe_call R.GP hr3 rfl R.mP R.kP R.bP .nil pass0 (pa_cons (pv 0) (pa_cons (pe_lst (pa_cons pe_int (pa_cons pe_int (pa_cons pe_int (pa_cons pe_int (pa_cons pe_int (pa_cons pe_int (pa_cons pe_int pa_nil)))))))) pa_nil))) pa_nil)) (pg_name (i := 4) nd rfl (.inl rfl))
(pss_cons (ps_set (i := 5) nd rfl (.inl rfl) (pe_call R.GP hr3 rfl R.mP R.kP R.bP .nil pass0 (pa_cons (pv 0) (pa_cons (pe_lst (pa_cons pe_int (pa_cons pe_int (pa_cons (pe_call R.GT hr2 rfl R.mT R.kT R.bT .nil pass0 (pa_cons (pv 0) (pa_cons (pv 2) pa_nil))) (pa_cons (pe_call R.GT hr2 rfl R.mT R.kT R.bT .nil pass0 (pa_cons (pv 0) (pa_cons (pv 2) pa_nil))) (pa_cons (pv 2) pa_nil)))))) pa_nil))))
(pss_one (ps_expr (pe_bm PySem.F.plainAttrs_list PySem.F.slot_list_append PySem.F.type_list_append mt_append (pv 3) (pa_cons (pe_tup (pa_cons (pe_call R.GP hr3 rfl R.mP R.kP R.bP .nil pass0 (pa_cons (pv 0) (pa_cons (pv 1) pa_nil))) (pa_cons (pv 5) pa_nil))) pa_nil))))))
(pss_one (ps_ret (pv 3)))), ?_⟩
    have wpos : 0 < (ws.map V.str).length := by rw [List.length_map]; exact List.length_pos_iff.mpr hw0
    have wlen : (ws.map V.str).length ≤ 1000000 := by rw [List.length_map]; omega
    refine ⟨Nat.zero_le _, fun L hL => ?_⟩
    have DL := D.new (o := .lst []) hL
    have nLd := D.nd hL
    have nLg := D.ng hL
    have nLc : L ≠ c := fun e => by rw [e, D.cl] at hL; cases hL
    have L1 : (upd H L (.lst [])) L = some (.lst []) := upd_same
    have k1 : Kp d g H (upd H L (.lst [])) := Kp.new hL
    generalize upd H L (.lst []) = H1 at DL L1 k1 ⊢
    refine ⟨_, rfl, by show 7 ≤ sizeLine; decide, fun q hq => ?_⟩
    refine ⟨d, g, c, _, DL.new hq, by omega, .inl ⟨q, _, rfl, upd_same, DL.nd hq, DL.ng hq, by show 0 < 7; decide, by show 7 ≤ 1000000; decide, fun x H2 hx D2 k2 => ?_⟩⟩
    obtain ⟨n, rfl, n0, n20⟩ : ∃ n : Int, x = .int n ∧ 0 ≤ n ∧ n ≤ 20 := by
      simp only [List.mem_cons, List.not_mem_nil, or_false] at hx
      rcases hx with rfl | rfl | rfl | rfl | rfl | rfl | rfl <;> exact ⟨_, rfl, by decide, by decide⟩
    have k12 : Kp d g H1 H2 := (Kp.new hq).trans k2
    refine ⟨n, rfl, by omega, by omega, for_range (lo := 0) (n := n.toNat) (fun i σ H' => ∃ (v4 v5 : Option V) (xs : List V) (cs : List (Str × Int)), σ = [some (.ref d), some (.ref l), some (.int m), some (.ref L), v4, v5] ∧ H' L = some (.lst xs) ∧ CsAt H' xs cs ∧ cs.length = i ∧ (∀ q ∈ cs, q.1 ∈ ws ∧ 0 ≤ q.2 ∧ q.2 ≤ m) ∧ Dw ns d g c (b + 1 + i * 8) H' ∧ Kp d g H H')
      ⟨none, none, [], [], rfl, k12 _ _ nLd nLg L1, .nil, rfl, fun q hq => (by cases hq), D2.mono (by omega), k1.trans k12⟩ ?_ ?_⟩
    · rintro i σ H3 hi ⟨v4, v5, xs, cs, rfl, L3, c3, cl, co, D3, k3⟩
      have hi20 : i < 20 := by omega
      refine ⟨_, rfl, _, rfl, _, rfl, d, g, c, _, m, rfl, D3, by omega, by omega, by omega, fun r1 H4 a0 a1 D4 k4 => ?_⟩
      refine ⟨_, rfl, _, rfl, d, g, c, _, m, rfl, D4, by omega, by omega, by omega, fun r2 H5 b0 b1 D5 k5 => ?_⟩
      refine ⟨_, rfl, by show 5 ≤ sizeLine; decide, fun q hq => ?_⟩
      refine ⟨d, g, c, _, D5.new hq, by omega, .inl ⟨q, _, rfl, upd_same, D5.nd hq, D5.ng hq, by show 0 < 5; decide, by show 5 ≤ 1000000; decide, fun x H6 hx D6 k6 => ?_⟩⟩
      obtain ⟨z, rfl, z0, z1⟩ : ∃ z : Int, x = .int z ∧ 0 ≤ z ∧ z ≤ m := by
        simp only [List.mem_cons, List.not_mem_nil, or_false] at hx
        rcases hx with rfl | rfl | rfl | rfl | rfl
        · exact ⟨_, rfl, by decide, by omega⟩
        · exact ⟨_, rfl, by decide, by omega⟩
        · exact ⟨_, rfl, a0, by omega⟩
        · exact ⟨_, rfl, b0, by omega⟩
        · exact ⟨_, rfl, by omega, by omega⟩
      have k36 : Kp d g H3 H6 := ((k4.trans k5).trans (Kp.new hq)).trans k6
      have L6 := k36 _ _ nLd nLg L3
      have l6 := k36 _ _ nld nlg (k3 _ _ nld nlg hl)
      refine ⟨_, rfl, .inl ⟨rfl, _, SqL.of L6⟩, _, rfl, _, rfl, d, g, c, _, D6, by omega, .inl ⟨l, _, rfl, l6, nld, nlg, wpos, wlen, fun x H7 hx D7 k7 => ?_⟩⟩
      obtain ⟨nm, hnm, rfl⟩ := List.mem_map.mp hx
      refine ⟨_, rfl, by show 2 ≤ sizeLine; decide, fun t ht => ?_⟩
      have L7 := k7 _ _ nLd nLg L6
      have L8 := new_same (o := .tup [.str nm, .int z]) ht _ _ L7
      have c8 : CsAt (upd H7 t (.tup [.str nm, .int z])) xs cs := ((c3.kp D3 k36).kp D6 k7).ext (Ext.new ht)
      have xl := c3.1
      refine ⟨L, _, _, rfl, rfl, L8, small1000 (by omega), ?_⟩
      have D8 := (D7.new (o := .tup [.str nm, .int z]) ht).put (o := .lst (xs ++ [.ref t])) L8 nLd nLg nLc
      have c9 : CsAt (upd (upd H7 t (.tup [.str nm, .int z])) L (.lst (xs ++ [.ref t]))) (xs ++ [.ref t]) (cs ++ [(nm, z)]) := by
        have c9 := CsAt.snoc (c := (nm, z)) c8 upd_same
        exact ⟨c9.1, fun j q hj => by
          obtain ⟨p, b1, b2⟩ := c9.2 j q hj
          exact ⟨p, b1, by rw [upd_ne (ne_of b2 L8 (by intro z; cases z))]; exact b2⟩⟩
      refine ⟨_, _, xs ++ [.ref t], cs ++ [(nm, z)], rfl, upd_same, c9, by rw [List.length_append, cl]; rfl, fun q hq => ?_, D8.mono (by omega), fun a o n1 n2 ha => ?_⟩
      · rcases List.mem_append.mp hq with hq | hq
        · exact co q hq
        · rw [List.mem_singleton.mp hq]
          exact ⟨hnm, z0, z1⟩
      · rw [upd_ne (ne_of_none ha hL)]
        exact new_same ht _ _ (k7 _ _ n1 n2 (k36 _ _ n1 n2 (k3 _ _ n1 n2 ha)))
    · rintro σ H3 ⟨v4, v5, xs, cs, rfl, L3, c3, cl, co, D3, k3⟩
      exact ⟨_, rfl, k L xs cs H3 hL nLd nLg L3 c3 (by omega) co (D3.mono (by omega)) k3⟩
end
end Lw

set_option Elab.async false
set_option linter.all false
set_option maxRecDepth 100000
set_option maxHeartbeats 4000000
namespace Lw
open L2 hiding Ext
open PySem PySem.Spec PyProof.Rows Gn Gr Gk Go Gt Gf Gu
section
variable {P : Program} {w : World} {K : PySem.W.Frag} {mg : Str → Option Value} {base : Heap}
/-! ### _law_balances -/
abbrev nBal : List Str := ["_law_state", "_law_names", "_law_numbers", "_law_found", "_law_sparse", "_law_name", "_law_amount"]
def spBal (ns : List Int) : Sp := fun vs H Q _ => ∃ (d g c l : Addr) (b : Nat) (m : Int) (ws : List Str), vs = [.ref d, .ref l, .int m] ∧ Dw ns d g c b H ∧ b ≤ 800000000 ∧ l ≠ d ∧ l ≠ g ∧ Nm H l ws ∧ ws.Nodup ∧ 1 ≤ m ∧ m ≤ 1000000000 ∧
  ∀ (p : Addr) (bs : List (Str × Int)) (H' : Hp), H p = none → p ≠ d → p ≠ g → H' p = some (.dK (dB bs)) → (bs.map (·.1)).Nodup → (∀ q ∈ bs, q.1 ∈ ws ∧ 0 ≤ q.2 ∧ q.2 ≤ 2 * m) → Dw ns d g c (b + 100) H' → Kp d g H H' → Q (.ref p) H'
theorem scBal : FnScope nBal ["_law_state", "_law_names", "_law_numbers"] (defScope sLBalances) := ⟨rfl, rfl, rfl, by decide +kernel, rfl, by decide +kernel, by decide +kernel⟩
def BalI (ns : List Int) (d g c l fo p : Addr) (b : Nat) (m sp : Int) (ws ys : List Str) (H : Hp) (i : Nat) (σ : L2.St) (H' : Hp) : Prop :=
  ∃ (v5 v6 : Option V) (bs : List (Str × Int)), σ = [some (.ref d), some (.ref l), some (.int m), some (.ref fo), some (.int sp), v5, v6] ∧ H' fo = some (.dK (dB bs)) ∧ H' p = some (.lst (ys.map V.str)) ∧ (bs.map (·.1)).Sublist (ys.take i) ∧ (∀ q ∈ bs, 0 ≤ q.2 ∧ q.2 ≤ 2 * m) ∧ Dw ns d g c (b + 10 + i * 8) H' ∧ Kp d g H H'
theorem ok_balances {f fT fP fO : Addr} {fd fdT fdP fdO : FuncData} (ns : List Int) (F : Fun K "_law_balances" "_law_balances" sLBalances f fd) (T : Names mg) (R : Draw P w K mg base ns fT fP fdT fdP)
    (GO : FnOk P w K mg base CX0 3 fO fdO ["_law_state", "_law_some"] (spOrder ns)) (bO : Binds K fdO ["_law_state", "_law_some"] []) (kO : PySem.W.keepIn K (.ref fO) = true) (mO : mg "_law_order" = some (.ref fO)) :
    FnOk P w K mg base CX0 4 f fd ["_law_state", "_law_names", "_law_numbers"] (spBal ns) := by
  refine F.ok scBal (fun vs H Q E h => ?_) (fun cdv A outer s H vs Q E hr h => ?_)
  · obtain ⟨d, g, c, l, b, m, ws, rfl, _⟩ := h
    rfl
  · obtain ⟨d, g, c, l, b, m, ws, rfl, D, hb, nld, nlg, ⟨hl, hw0, hw8, hwo⟩, hwn, m1, m9, k⟩ := h
    have hu := hu_of hr
    have nd := scBal.nd
    have hr3 := hr
    have hr2 : Room 2 (A.deeper (envOfC "_law_balances" (defScope sLBalances) s.heap.objs.size f cdv)) := hr.mono (by decide)
    refine ⟨_, pss_cons (ps_par (i := 3) (j := 4) (by rfl) nd rfl rfl (by decide) rfl rfl (pa_cons pe_dnewK (pa_cons (pe_call R.GT hr2 rfl R.mT R.kT R.bT .nil pass0 (pa_cons (pv 0) (pa_cons pe_int pa_nil))) pa_nil)) (by rfl))
(pss_cons (ps_for PassesOwn.never rfl (pi_list (pe_call GO hr3 rfl mO kO bO .nil pass0 (pa_cons (pv 0) (pa_cons (pv 1) pa_nil)))) (pg_name (i := 5) nd rfl (.inl rfl))
(pss_one (ps_if (pt_cmpR op_gt (pe_call R.GT hr2 rfl R.mT R.kT R.bT .nil pass0 (pa_cons (pv 0) (pa_cons pe_int pa_nil))) pe_int (nomark _)) (pss_cons (ps_set (i := 6) nd rfl (.inl rfl) (pe_call R.GP hr3 rfl R.mP R.kP R.bP .nil pass0 (pa_cons (pv 0) (pa_cons (pe_lst (pa_cons pe_int (pa_cons pe_int (pa_cons (pe_call R.GT hr2 rfl R.mT R.kT R.bT .nil pass0 (pa_cons (pv 0) (pa_cons (pv 2) pa_nil))) (pa_cons (pe_call R.GT hr2 rfl R.mT R.kT R.bT .nil pass0 (pa_cons (pv 0) (pa_cons (pe_op op_mul pe_int (pv 2)) pa_nil))) pa_nil))))) pa_nil))))
(pss_one (ps_dput hu (pv 3) (pv 5) (pe_ifExp (PW.pt (pw_and (pt_cmpR op_eq (pv 4) pe_int (nomark _)) (pw_and1 (pt_cmpR op_gt (pe_call R.GT hr2 rfl R.mT R.kT R.bT .nil pass0 (pa_cons (pv 0) (pa_cons pe_int pa_nil))) pe_int (nomark _))))) pe_int (pv 6)) rfl))) pss_nil)))
(pss_one (ps_ret (pv 3)))), ?_⟩
    intro fo hfo
    have D1 := D.new (o := .dK []) hfo
    have nfd := D.nd hfo
    have nfg := D.ng hfo
    have nfc : fo ≠ c := fun e => by rw [e, D.cl] at hfo; cases hfo
    have f1 : (upd H fo (.dK [])) fo = some (.dK (dB [])) := upd_same
    have l1 := new_same (o := .dK []) hfo _ _ hl
    have k1 : Kp d g H (upd H fo (.dK [])) := Kp.new hfo
    refine ⟨_, rfl, d, g, c, _, 3, rfl, D1, by omega, by decide, by decide, fun sp H2 _ _ D2 k2 => ?_⟩
    refine ⟨_, _, rfl, ?_⟩
    have f2 := k2 _ _ nfd nfg f1
    have l2 := k2 _ _ nld nlg l1
    refine ⟨_, rfl, _, rfl, d, g, c, l, _, ws, rfl, D2, by omega, l2, hw8, hwo, fun p ys H3 p0 npd npg hp hperm D3 k3 => ?_⟩
    have f3 := k3 _ _ nfd nfg f2
    have nfp : fo ≠ p := ne_of_none f2 p0
    have hpH : H p = none := by
      cases e : H p with
      | none => rfl
      | some u => rw [k2 _ _ npd npg (k1 _ _ npd npg e)] at p0; cases p0
    have hyn : ys.Nodup := hperm.nodup_iff.mpr hwn
    have yl : ys.length ≤ 8 := by rw [hperm.length_eq]; exact hw8
    refine ⟨p, rfl, ⟨_, SqL.of hp⟩, ?_⟩
    refine for_it walk_list (BalI ns d g c l fo p b m sp ws ys H) ⟨none, none, [], rfl, f3, hp, List.Sublist.refl _, fun q hq => (by cases hq), D3.mono (by omega), (k1.trans k2).trans k3⟩ (fun i σ H' _ ⟨_, _, _, _, _, e, _⟩ => SqL.of e) ?_ ?_
    · rintro i x σ H4 H4' hi ⟨v5, v6, bs, rfl, f4, p4, sb, bo, D4, k4⟩ ⟨rfl, hx⟩
      rw [List.getElem?_map] at hx
      obtain ⟨n, hn, rfl⟩ := Option.map_eq_some_iff.mp hx
      have hi8 : i < 8 := by
        have := (List.getElem?_eq_some_iff.mp hn).1
        omega
      have bl : bs.length ≤ 8 := by
        have := sb.length_le
        rw [List.length_map, List.length_take] at this
        omega
      have hnb : n ∉ bs.map (·.1) := fun hm => nodup_at hyn hn (sb.subset hm)
      have fin : ∀ (z : Int) (H' : Hp) (v6' : Option V), 0 ≤ z → z ≤ 2 * m → H' fo = some (.dK (dB bs)) → H' p = some (.lst (ys.map V.str)) → Dw ns d g c (b + 10 + i * 8 + 8) H' → Kp d g H H' →
          DPut H' fo (.str n) (.int z) (upd H' fo (.dK (dB (bs ++ [(n, z)])))) ∧ BalI ns d g c l fo p b m sp ws ys H (i + 1) [some (.ref d), some (.ref l), some (.int m), some (.ref fo), some (.int sp), some (.str n), v6'] (upd H' fo (.dK (dB (bs ++ [(n, z)])))) := by
        intro z H' v6' z0 z1 f' p' D' k'
        refine ⟨?_, _, _, bs ++ [(n, z)], rfl, upd_same, by rw [upd_ne nfp.symm]; exact p', ?_, fun q hq => ?_, (D'.put f' nfd nfg nfc).mono (by omega), fun a o n1 n2 ha => ?_⟩
        · have e : dB (bs ++ [(n, z)]) = putK (dB bs) (Sum.inr n : Key) (.int z) := by
            rw [putK_new _ (dB_none hnb)]
            unfold dB
            rw [List.map_append]
            rfl
          rw [e]
          exact DPut.k (k := Sum.inr n) f' (by unfold dB; rw [List.length_map, sizeLine_eq]; omega)
        · rw [take_snoc hn, List.map_append]
          exact sb.append (List.Sublist.refl _)
        · rcases List.mem_append.mp hq with hq | hq
          · exact bo q hq
          · rw [List.mem_singleton.mp hq]
            exact ⟨z0, z1⟩
        · rw [upd_ne (ne_of_none ha hfo)]
          exact k' _ _ n1 n2 ha
      refine ⟨_, rfl, d, g, c, _, 4, rfl, D4, by omega, by decide, by decide, fun r H5 _ _ D5 k5 => ?_⟩
      refine ⟨_, _, rfl, rfl, _, rfl, ?_⟩
      have f5 := k5 _ _ nfd nfg f4
      have p5 := k5 _ _ npd npg p4
      refine ite2 (fun _ => ?_) (fun _ => ⟨_, _, bs, rfl, f5, p5, sb.trans (by rw [take_snoc hn]; exact List.sublist_append_left ..), bo, D5.mono (by omega), k4.trans k5⟩)
      refine ⟨_, rfl, _, rfl, _, rfl, d, g, c, _, m, rfl, D5, by omega, by omega, by omega, fun r1 H6 a0 a1 D6 k6 => ?_⟩
      refine ⟨_, rfl, _, rfl, _, _, rfl, rfl, .inl ⟨by decide, by decide⟩, d, g, c, _, 2 * m, rfl, D6, by omega, by omega, by omega, fun r2 H7 b0 b1 D7 k7 => ?_⟩
      refine ⟨by show 4 ≤ sizeLine; decide, fun q hq => ?_⟩
      refine ⟨d, g, c, _, D7.new hq, by omega, .inl ⟨q, _, rfl, upd_same, D7.nd hq, D7.ng hq, by show 0 < 4; decide, by show 4 ≤ 1000000; decide, fun x H8 hx D8 k8 => ?_⟩⟩
      obtain ⟨z, rfl, z0, z1⟩ : ∃ z : Int, x = .int z ∧ 0 ≤ z ∧ z ≤ 2 * m := by
        simp only [List.mem_cons, List.not_mem_nil, or_false] at hx
        rcases hx with rfl | rfl | rfl | rfl
        · exact ⟨_, rfl, by decide, by omega⟩
        · exact ⟨_, rfl, by decide, by omega⟩
        · exact ⟨_, rfl, a0, by omega⟩
        · exact ⟨_, rfl, b0, by omega⟩
      have k58 : Kp d g H5 H8 := ((k6.trans k7).trans (Kp.new hq)).trans k8
      have f8 := k58 _ _ nfd nfg f5
      have p8 := k58 _ _ npd npg p5
      have k08 := (k4.trans k5).trans k58
      refine ⟨_, rfl, rfl, _, rfl, ?_⟩
      refine ite2 (fun _ => ?_) (fun _ => ?_)
      · refine ⟨_, rfl, d, g, c, _, 3, rfl, D8, by omega, by decide, by decide, fun r3 H9 _ _ D9 k9 => ?_⟩
        refine ⟨_, _, rfl, rfl, _, rfl, ?_⟩
        refine ite2 (fun _ => ?_) (fun _ => ?_)
        · obtain ⟨e1, e2⟩ := fin 0 H9 (some (.int z)) (by decide) (by omega) (k9 _ _ nfd nfg f8) (k9 _ _ npd npg p8) (D9.mono (by omega)) (k08.trans k9)
          exact ⟨_, rfl, _, rfl, fo, _, rfl, e1, e2⟩
        · obtain ⟨e1, e2⟩ := fin z H9 (some (.int z)) z0 z1 (k9 _ _ nfd nfg f8) (k9 _ _ npd npg p8) (D9.mono (by omega)) (k08.trans k9)
          exact ⟨_, rfl, _, rfl, _, rfl, fo, _, rfl, e1, e2⟩
      · obtain ⟨e1, e2⟩ := fin z H8 (some (.int z)) z0 z1 f8 p8 (D8.mono (by omega)) k08
        exact ⟨_, rfl, _, rfl, _, rfl, fo, _, rfl, e1, e2⟩
    · rintro σ H4 ⟨v5, v6, bs, rfl, f4, p4, sb, bo, D4, k4⟩
      rw [List.length_map, List.take_length] at sb
      rw [List.length_map] at D4
      refine ⟨_, rfl, k fo bs H4 hfo nfd nfg f4 (sb.nodup hyn) (fun q hq => ⟨?_, bo q hq⟩) (D4.mono (by omega)) k4⟩
      exact hperm.mem_iff.mp (sb.subset (List.mem_map.mpr ⟨q, hq, rfl⟩))
end
end Lw

set_option Elab.async false
set_option linter.all false
set_option maxRecDepth 100000
set_option maxHeartbeats 4000000
namespace Lw
open L2 hiding Ext
open PySem PySem.Spec PyProof.Rows Gn Gr Gk Go Gt Gf Gu
/-! ### what repr says of claims and balances -/
def cD (c : Str × Int) : PyData := .tuple [.str c.1, .int c.2]
def bD (bs : List (Str × Int)) : PyData := .dict (bs.map fun p => (.str p.1, .int p.2))
theorem dr_claims {H : Hp} : ∀ {xs : List V} {cs : List (Str × Int)}, CsAt H xs cs → DrAll H xs (cs.map cD)
  | [], [], _ => .nil
  | [], _ :: _, h => by have := h.1; simp at this
  | _ :: _, [], h => by have := h.1; simp at this
  | x :: xs, c :: cs, h => by
    obtain ⟨p, h1, h2⟩ := h.2 0 c rfl
    have h1 : some x = some (V.ref p) := h1
    cases h1
    exact .cons (.tup h2 (.cons (.str _) (.cons (.int _) .nil))) (dr_claims ⟨by have := h.1; simpa using this, fun i c' hc => h.2 (i + 1) c' (by simpa using hc)⟩)
theorem dr_bal {H : Hp} : ∀ (bs : List (Str × Int)), DrKv H (dB bs) (bs.map fun p => (.str p.1, .int p.2))
  | [] => .nil
  | p :: r => .cons (k := Sum.inr p.1) (.int _) (dr_bal r)
def Small (d : PyData) : Prop := d.showable = true ∧ d.depth ≤ 60 ∧ d.shown.length ≤ sizeLine
theorem ok_cD {c : Str × Int} (h1 : nameOk c.1 = true) (h2 : c.2.natAbs < 10 ^ 20) : Ok 1 (cD c) := ok_tuple (fun x hx => by
  rcases List.mem_cons.mp hx with rfl | hx
  · exact ok_str (name_asc19 h1)
  · rw [List.mem_singleton.mp hx]
    exact Gk.ok_int h2) (by show 2 ≤ 2; omega)
theorem small_claims {cs : List (Str × Int)} (hl : cs.length ≤ 100) (h : ∀ c ∈ cs, nameOk c.1 = true ∧ c.2.natAbs < 10 ^ 20) : Small (.list (cs.map cD)) := by
  obtain ⟨b1, b2, b3, b4⟩ := ok_all (n := 1) (ds := cs.map cD) fun x hx => by
    obtain ⟨c, hc, rfl⟩ := List.mem_map.mp hx
    exact ok_cD (h c hc).1 (h c hc).2
  have t := listText_len_le (PyData.shownAll (cs.map cD))
  rw [List.length_map] at b3 b4
  refine ⟨by simp only [PyData.showable, b1], by simp only [PyData.depth]; omega, ?_⟩
  simp only [PyData.shown]
  rw [sizeLine_eq]
  have e : cs.length * (200 * 4 ^ 1) ≤ 100 * (200 * 4 ^ 1) := Nat.mul_le_mul_right _ hl
  omega
theorem small_bal {bs : List (Str × Int)} (hl : bs.length ≤ 100) (h : ∀ c ∈ bs, nameOk c.1 = true ∧ c.2.natAbs < 10 ^ 20) : Small (bD bs) := by
  obtain ⟨b1, b2, b3, b4⟩ := ok_kvs (n := 0) (ds := bs.map fun p => (PyData.str p.1, PyData.int p.2)) fun x hx => by
    obtain ⟨c, hc, rfl⟩ := List.mem_map.mp hx
    exact ⟨⟨_, rfl, name_asc19 (h c hc).1⟩, Gk.ok_int (h c hc).2⟩
  have t := dictText_len_le (PyData.shownKv (bs.map fun p => (PyData.str p.1, PyData.int p.2)))
  rw [List.length_map] at b3 b4
  refine ⟨by simp only [bD, PyData.showable, b1], by simp only [bD, PyData.depth]; omega, ?_⟩
  simp only [bD, PyData.shown]
  rw [sizeLine_eq]
  have e : bs.length * (194 + 200 * 4 ^ 0) ≤ 100 * (194 + 200 * 4 ^ 0) := Nat.mul_le_mul_right _ hl
  omega
/-! ### what stands while draws go on -/
theorem FoAt.kp {C a d g c : Addr} {ns : List Int} {b : Nat} {H H' : Hp} {rs : List FRow} (h : FoAt C H a rs) (G : Good rs) (D : Dw ns d g c b H) (k : Kp d g H H') : FoAt C H' a rs := by
  obtain ⟨⟨gs, l, t, hd, hg, _, _⟩, _⟩ := D
  obtain ⟨dx, q, h1, h2⟩ := h
  refine ⟨dx, q, k _ _ (ne_of h1 hd (by intro z; cases z)) (ne_of h1 hg (by intro z; cases z)) h1, k _ _ (fun e => ?_) (ne_of h2 hg (by intro z; cases z)) h2⟩
  rw [e, hd] at h2
  injection h2 with h2
  injection h2 with h2
  cases rs with
  | nil => have := G.1; simp at this
  | cons r rs =>
    have h3 : (kG, V.ref g) = ((Sum.inr r.1 : Key), parV r.2) := (List.cons.inj h2).1
    have h4 : V.ref g = parV r.2 := (Prod.mk.inj h3).2
    cases e2 : r.2 with
    | none => rw [e2] at h4; cases h4
    | some m => rw [e2] at h4; cases h4
structure Gd3 (C : Addr) (H : Hp) (lr y ln : Addr) (rx : List V) (rs : List FRow) : Prop where
  r : H lr = some (.lst rx)
  R : RowsAt H rx rs
  F : FoAt C H y rs
  n : H ln = some (.lst ((fNames rs).map V.str))
theorem Gd3.ext {C : Addr} {H H' : Hp} {lr y ln : Addr} {rx : List V} {rs : List FRow} (h : Gd3 C H lr y ln rx rs) (k : Ext H H') : Gd3 C H' lr y ln rx rs := ⟨k _ _ h.r, h.R.ext k, h.F.ext k, k _ _ h.n⟩
theorem Gd3.kp {C : Addr} {ns : List Int} {d g c : Addr} {b : Nat} {H H' : Hp} {lr y ln : Addr} {rx : List V} {rs : List FRow} (h : Gd3 C H lr y ln rx rs) (G : Good rs) (D : Dw ns d g c b H) (k : Kp d g H H') (h1 : lr ≠ d) (h2 : lr ≠ g) (h3 : ln ≠ d) (h4 : ln ≠ g) : Gd3 C H' lr y ln rx rs :=
  ⟨k _ _ h1 h2 h.r, h.R.kp D k, h.F.kp G D k, k _ _ h3 h4 h.n⟩
theorem good_names {rs : List FRow} (G : Good rs) : fNames rs ≠ [] ∧ (fNames rs).length ≤ 8 ∧ (∀ x ∈ fNames rs, nameOk x = true) ∧ (fNames rs).Nodup := by
  have l : (fNames rs).length = rs.length := by unfold fNames; rw [List.length_map]
  refine ⟨fun e => ?_, by rw [l]; exact G.2.1, fun x hx => ?_, (good_nodup G.2.2).1⟩
  · rw [e] at l
    have := G.1
    simp at l
    omega
  · obtain ⟨r, hr, rfl⟩ := List.mem_map.mp hx
    exact (good_mem G.2.2 hr).1
theorem dp_intl {K : PySem.W.Frag} {H : Hp} {a : Addr} {ns : List Int} (h : H a = some (.lst (ns.map V.int))) : Dp K H (.ref a) (.list (ns.map PyData.int)) := .lst (SqL.of h) (dp_ints ns)
theorem eqv_same {d : PyData} (h : SeqAt.shaped d = true) : PyData.eqv d d = true := by
  rw [SeqAt.eqv_refl]
  exact SeqAt.canLay_of_shaped h
/-- five keywords in the other order -/
def gR5 : List Value → List Value → List Value
  | [], [a, b, c, d, e] => [e, d, c, b, a]
  | _, _ => []
def gR5V : List V → List V → List V
  | [], [a, b, c, d, e] => [e, d, c, b, a]
  | _, _ => []
theorem kb_rev5 {K : PySem.W.Frag} {fd : FuncData} {y1 y2 y3 y4 y5 : Str} (b : ∀ (s : Shared) (u1 u2 u3 u4 u5 : Value), BindsTo s fd ⟨[], [(y1, u1), (y2, u2), (y3, u3), (y4, u4), (y5, u5)]⟩ [(y5, u5), (y4, u4), (y3, u3), (y2, u2), (y1, u1)]) :
    KBinds K fd [y5, y4, y3, y2, y1] [y1, y2, y3, y4, y5] gR5 gR5V := by
  refine ⟨fun s us ws _ hl => ?_, fun r q => ?_⟩
  · match us, ws, hl with
    | [], [u1, u2, u3, u4, u5], _ => exact b s u1 u2 u3 u4 u5
    | [], [], hl => cases hl
    | [], [_], hl => cases hl
    | [], [_, _], hl => cases hl
    | [], [_, _, _], hl => cases hl
    | [], [_, _, _, _], hl => cases hl
    | [], _ :: _ :: _ :: _ :: _ :: _ :: _, hl => cases hl
    | _ :: _, _, hl => cases hl
  · cases r with
    | cons _ _ => exact .nil
    | nil =>
      cases q with
      | nil => exact .nil
      | cons q1 q => cases q with
        | nil => exact .nil
        | cons q2 q => cases q with
          | nil => exact .nil
          | cons q3 q => cases q with
            | nil => exact .nil
            | cons q4 q => cases q with
              | nil => exact .nil
              | cons q5 q => cases q with
                | nil => exact .cons q5 (.cons q4 (.cons q3 (.cons q2 (.cons q1 .nil))))
                | cons _ _ => exact .nil
theorem nm_last {ws : List Str} (h1 : ws ≠ []) : ∃ w9, atI (ws.map V.str) (-1) = some (.str w9) ∧ w9 ∈ ws := by
  rcases List.eq_nil_or_concat ws with e | ⟨r', w', e⟩
  · exact absurd e h1
  · refine ⟨w', ?_, by rw [e, List.concat_eq_append]; exact List.mem_append.mpr (.inr (List.mem_singleton.mpr rfl))⟩
    rw [e, List.concat_eq_append, List.map_append]
    exact atI_last _ _
/-- two keywords in the other order -/
def gSw : List Value → List Value → List Value
  | [], [x, y] => [y, x]
  | _, _ => []
def gSwV : List V → List V → List V
  | [], [x, y] => [y, x]
  | _, _ => []
theorem kb_swap {K : PySem.W.Frag} {fd : FuncData} {y z : Str} (b : ∀ (s : Shared) (u v : Value), BindsTo s fd ⟨[], [(y, u), (z, v)]⟩ [(z, v), (y, u)]) : KBinds K fd [z, y] [y, z] gSw gSwV := by
  refine ⟨fun s us ws _ hl => ?_, fun r q => ?_⟩
  · match us, ws, hl with
    | [], [u, v], _ => exact b s u v
    | [], [], hl => cases hl
    | [], [_], hl => cases hl
    | [], _ :: _ :: _ :: _, hl => cases hl
    | _ :: _, _, hl => cases hl
  · cases r with
    | nil =>
      cases q with
      | nil => exact .nil
      | cons q1 q2 =>
        cases q2 with
        | nil => exact .nil
        | cons q2 q3 =>
          cases q3 with
          | nil => exact .cons q2 (.cons q1 .nil)
          | cons _ _ => exact .nil
    | cons _ _ => exact .nil
/-- three keywords in the other order -/
def gR3 : List Value → List Value → List Value
  | [], [a, b, c] => [c, b, a]
  | _, _ => []
def gR3V : List V → List V → List V
  | [], [a, b, c] => [c, b, a]
  | _, _ => []
theorem kb_rev3 {K : PySem.W.Frag} {fd : FuncData} {y1 y2 y3 : Str} (b : ∀ (s : Shared) (u1 u2 u3 : Value), BindsTo s fd ⟨[], [(y1, u1), (y2, u2), (y3, u3)]⟩ [(y3, u3), (y2, u2), (y1, u1)]) :
    KBinds K fd [y3, y2, y1] [y1, y2, y3] gR3 gR3V := by
  refine ⟨fun s us ws _ hl => ?_, fun r q => ?_⟩
  · match us, ws, hl with
    | [], [u1, u2, u3], _ => exact b s u1 u2 u3
    | [], [], hl => cases hl
    | [], [_], hl => cases hl
    | [], [_, _], hl => cases hl
    | [], _ :: _ :: _ :: _ :: _, hl => cases hl
    | _ :: _, _, hl => cases hl
  · cases r with
    | cons _ _ => exact .nil
    | nil =>
      cases q with
      | nil => exact .nil
      | cons q1 q => cases q with
        | nil => exact .nil
        | cons q2 q => cases q with
          | nil => exact .nil
          | cons q3 q => cases q with
            | nil => exact .cons q3 (.cons q2 (.cons q1 .nil))
            | cons _ _ => exact .nil
/-- the words (c, d, b, a) for the parameters (a, b, c, d) -/
def gP4 : List Value → List Value → List Value
  | [], [c, d, b, a] => [a, b, c, d]
  | _, _ => []
def gP4V : List V → List V → List V
  | [], [c, d, b, a] => [a, b, c, d]
  | _, _ => []
theorem kb_p4 {K : PySem.W.Frag} {fd : FuncData} {ya yb yc yd : Str} (b : ∀ (s : Shared) (uc ud ub ua : Value), BindsTo s fd ⟨[], [(yc, uc), (yd, ud), (yb, ub), (ya, ua)]⟩ [(ya, ua), (yb, ub), (yc, uc), (yd, ud)]) :
    KBinds K fd [ya, yb, yc, yd] [yc, yd, yb, ya] gP4 gP4V := by
  refine ⟨fun s us ws _ hl => ?_, fun r q => ?_⟩
  · match us, ws, hl with
    | [], [u1, u2, u3, u4], _ => exact b s u1 u2 u3 u4
    | [], [], hl => cases hl
    | [], [_], hl => cases hl
    | [], [_, _], hl => cases hl
    | [], [_, _, _], hl => cases hl
    | [], _ :: _ :: _ :: _ :: _ :: _, hl => cases hl
    | _ :: _, _, hl => cases hl
  · cases r with
    | cons _ _ => exact .nil
    | nil =>
      cases q with
      | nil => exact .nil
      | cons q1 q => cases q with
        | nil => exact .nil
        | cons q2 q => cases q with
          | nil => exact .nil
          | cons q3 q => cases q with
            | nil => exact .nil
            | cons q4 q => cases q with
              | nil => exact .cons q4 (.cons q3 (.cons q1 (.cons q2 .nil)))
              | cons _ _ => exact .nil
/-! ### one balance put into the dict -/
def putB (bs : List (Str × Int)) (n : Str) (z : Int) : List (Str × Int) := if n ∈ bs.map (·.1) then bs.map (fun p => if p.1 = n then (p.1, z) else p) else bs ++ [(n, z)]
theorem dB_put (bs : List (Str × Int)) (n : Str) (z : Int) : putK (dB bs) (Sum.inr n : Key) (.int z) = dB (putB bs n z) := by
  unfold putB
  by_cases h : n ∈ bs.map (·.1)
  · rw [if_pos h]
    have e : ((dB bs).any fun kv => decide (kv.1 = (Sum.inr n : Key))) = true := by
      obtain ⟨p, hp, rfl⟩ := List.mem_map.mp h
      unfold dB
      rw [List.any_map, List.any_eq_true]
      exact ⟨p, hp, by simp⟩
    unfold putK
    rw [if_pos e]
    unfold dB
    rw [List.map_map, List.map_map]
    refine List.map_congr_left fun p hp => ?_
    show (if (Sum.inr p.1 : Key) = Sum.inr n then ((Sum.inr p.1 : Key), V.int z) else ((Sum.inr p.1 : Key), V.int p.2)) = _
    by_cases em : p.1 = n
    · rw [if_pos (by rw [em])]
      show _ = ((Sum.inr (if p.1 = n then (p.1, z) else p).1 : Key), V.int (if p.1 = n then (p.1, z) else p).2)
      rw [if_pos em]
    · rw [if_neg (fun q => em (Sum.inr.inj q))]
      show _ = ((Sum.inr (if p.1 = n then (p.1, z) else p).1 : Key), V.int (if p.1 = n then (p.1, z) else p).2)
      rw [if_neg em]
  · rw [if_neg h, putK_new _ (dB_none h)]
    unfold dB
    rw [List.map_append]
    rfl
theorem putB_keys (bs : List (Str × Int)) (n : Str) (z : Int) : (putB bs n z).map (·.1) = if n ∈ bs.map (·.1) then bs.map (·.1) else bs.map (·.1) ++ [n] := by
  unfold putB
  by_cases h : n ∈ bs.map (·.1)
  · rw [if_pos h, if_pos h, List.map_map]
    refine List.map_congr_left fun p hp => ?_
    show (if p.1 = n then (p.1, z) else p).1 = p.1
    by_cases e : p.1 = n
    · rw [if_pos e]
    · rw [if_neg e]
  · rw [if_neg h, if_neg h, List.map_append]
    rfl
theorem putB_mem {bs : List (Str × Int)} {n : Str} {z : Int} {q : Str × Int} (h : q ∈ putB bs n z) : q = (n, z) ∨ q ∈ bs := by
  unfold putB at h
  by_cases hn : n ∈ bs.map (·.1)
  · rw [if_pos hn] at h
    obtain ⟨p, hp, rfl⟩ := List.mem_map.mp h
    by_cases e : p.1 = n
    · rw [if_pos e, e]; exact .inl rfl
    · rw [if_neg e]; exact .inr hp
  · rw [if_neg hn] at h
    rcases List.mem_append.mp h with h | h
    · exact .inr h
    · exact .inl (List.mem_singleton.mp h)
theorem putB_ok {rs : List FRow} {bs : List (Str × Int)} {n : Str} {z : Int} (h : BsOk rs bs) (hn : n ∈ fNames rs) (z0 : 0 ≤ z) (z1 : z ≤ 1000000000000) : BsOk rs (putB bs n z) := by
  obtain ⟨⟨h1, h2⟩, h3⟩ := h
  refine ⟨⟨?_, fun q hq => ?_⟩, fun q hq => ?_⟩
  · rw [putB_keys]
    by_cases e : n ∈ bs.map (·.1)
    · rw [if_pos e]; exact h1
    · rw [if_neg e]
      refine List.nodup_append.mpr ⟨h1, by simp, fun a ha a' ha' => ?_⟩
      rw [List.mem_singleton] at ha'
      subst ha'
      exact fun q => e (q ▸ ha)
  · rcases putB_mem hq with rfl | hq
    · exact hn
    · exact h2 q hq
  · rcases putB_mem hq with rfl | hq
    · exact ⟨z0, z1⟩
    · exact h3 q hq
theorem bs_len {rs : List FRow} {bs : List (Str × Int)} (G : Good rs) (h : BsN rs bs) : bs.length ≤ 8 := by
  have l8 := (good_names G).2.1
  have := List.Nodup.length_le_of_subset h.1 (fun x hx => by
    obtain ⟨q, hq, rfl⟩ := List.mem_map.mp hx
    exact h.2 q hq : ∀ x ∈ bs.map (·.1), x ∈ fNames rs)
  rw [List.length_map] at this
  omega
theorem CsAt.take {H : Hp} {vs : List V} {cs : List (Str × Int)} (h : CsAt H vs cs) (k : Nat) : CsAt H (vs.take k) (cs.take k) := by
  refine ⟨by rw [List.length_take, List.length_take, h.1], fun i c hc => ?_⟩
  by_cases hik : i < k
  · rw [List.getElem?_take_of_lt hik] at hc ⊢
    exact h.2 i c hc
  · rw [List.getElem?_eq_none (by rw [List.length_take]; omega)] at hc
    cases hc
theorem take_set {α : Type} : ∀ (l : List α) (i : Nat) (x : α), i < l.length → l.take i ++ [x] ++ l.drop (i + 1) = l.set i x
  | [], i, x, h => by simp at h
  | a :: r, 0, x, _ => rfl
  | a :: r, i + 1, x, h => by
    show a :: (r.take i ++ [x] ++ r.drop (i + 1)) = a :: r.set i x
    rw [take_set r i x (by simpa using h)]
theorem cut_take (xs : List V) (i : Nat) (h : i ≤ xs.length) : cutV xs none (some (i : Nat)) = xs.take i := by
  unfold cutV
  have e : HT.sIx xs.length xs.length (some ((i : Nat) : Int)) = min i xs.length := HT.sIx_nat _ _ _
  rw [e]
  have e0 : HT.sIx xs.length 0 none = 0 := rfl
  rw [e0, Nat.min_eq_left h]
  rfl
/-- a dict's items, as data -/
def iD (q : Str × Int) : PyData := .tuple [.str q.1, .int q.2]
theorem dp_items {K : PySem.W.Frag} {H : Hp} {t : Str → Int} : ∀ {ts : List Addr} {ns : List Str}, Paired (fun a q => H a = some (.tup [kV q.1, q.2])) ts (dN ns t) → DpAll K H (ts.map V.ref) (ns.map fun n => iD (n, t n))
  | [], [], _ => .nil
  | [], _ :: _, h => by cases h
  | _ :: _, [], h => by cases h
  | a :: ts, n :: ns, h => by
    cases h with
    | cons h1 h2 => exact .cons (.tup (SqT.of h1) (.cons (.str _) (.cons (.int _) .nil))) (dp_items h2)
theorem iD_lay {q : Str × Int} (h : PyData.strOk q.1 = true) : (iD q).canLay0 = true ∧ (iD q).depth ≤ 2 := by
  constructor
  · simp [iD, PyData.canLay0, PyData.canLayAll0, h]
  · simp only [iD, PyData.depth, PyData.depthAll]; omega
theorem lay_items {t : Str → Int} : ∀ {ns : List Str}, (∀ n ∈ ns, PyData.strOk n = true) → PyData.canLayAll0 (ns.map fun n => iD (n, t n)) = true ∧ PyData.depthAll (ns.map fun n => iD (n, t n)) ≤ 2
  | [], _ => by constructor <;> simp [PyData.canLayAll0, PyData.depthAll]
  | n :: r, h => by
    obtain ⟨a1, a2⟩ := iD_lay (q := (n, t n)) (h n (List.mem_cons_self ..))
    obtain ⟨b1, b2⟩ := lay_items (t := t) (ns := r) fun y hy => h y (List.mem_cons_of_mem _ hy)
    constructor
    · simp [PyData.canLayAll0, a1, b1]
    · simp only [List.map_cons, PyData.depthAll]; omega
theorem shaped_items {t : Str → Int} {ns : List Str} (h : ∀ n ∈ ns, PyData.strOk n = true) : SeqAt.shaped (.list (ns.map fun n => iD (n, t n))) = true := by
  obtain ⟨b1, b2⟩ := lay_items (t := t) h
  have e : PyData.depth (.list (ns.map fun n => iD (n, t n))) = PyData.depthAll (ns.map fun n => iD (n, t n)) + 1 := by simp only [PyData.depth]
  unfold SeqAt.shaped
  rw [e]
  simp only [PyData.canLay0, b1, Bool.true_and, decide_eq_true_eq]
  omega
theorem dN_same {ns : List Str} {t : Str → Int} : ∀ p ∈ dN ns t, valV (dN ns t) p.1 = some p.2 ∧ flatB p.2 = true := fun p hp => by
  unfold dN at hp
  obtain ⟨n, hn, rfl⟩ := List.mem_map.mp hp
  exact ⟨dN_get hn, rfl⟩
end Lw

set_option Elab.async false
set_option linter.all false
set_option maxRecDepth 100000
set_option maxHeartbeats 4000000
namespace Lw
open L2 hiding Ext
open PySem PySem.Spec PyProof.Rows Gn Gr Gk Go Gt Gf Gu
/-! ### balances raised by deposits -/
def getB (bs : List (Str × Int)) (n : Str) : Int := match bs.find? (fun p => decide (p.1 = n)) with
  | some p => p.2
  | none => 0
def growS (bs : List (Str × Int)) (c : Str × Int) : List (Str × Int) := putB bs c.1 (getB bs c.1 + c.2)
def growB (bs cs : List (Str × Int)) : List (Str × Int) := cs.foldl growS bs
theorem growB_take {bs cs : List (Str × Int)} {i : Nat} {c : Str × Int} (h : cs[i]? = some c) : growB bs (cs.take (i + 1)) = growS (growB bs (cs.take i)) c := by
  unfold growB
  rw [take_snoc h, List.foldl_append]
  rfl
theorem putB_n {rs : List FRow} {bs : List (Str × Int)} {n : Str} {z : Int} (h : BsN rs bs) (hn : n ∈ fNames rs) : BsN rs (putB bs n z) := by
  obtain ⟨h1, h2⟩ := h
  refine ⟨?_, fun q hq => ?_⟩
  · rw [putB_keys]
    by_cases e : n ∈ bs.map (·.1)
    · rw [if_pos e]; exact h1
    · rw [if_neg e]
      refine List.nodup_append.mpr ⟨h1, by simp, fun a ha a' ha' => ?_⟩
      rw [List.mem_singleton] at ha'
      subst ha'
      exact fun q => e (q ▸ ha)
  · rcases putB_mem hq with rfl | hq
    · exact hn
    · exact h2 q hq
theorem growB_n {rs : List FRow} : ∀ {cs bs : List (Str × Int)}, BsN rs bs → (∀ c ∈ cs, c.1 ∈ fNames rs) → BsN rs (growB bs cs)
  | [], _, h, _ => h
  | c :: r, bs, h, hc => growB_n (cs := r) (bs := growS bs c) (putB_n h (hc c (List.mem_cons_self ..))) fun x hx => hc x (List.mem_cons_of_mem _ hx)
theorem dB_getB {bs : List (Str × Int)} {n : Str} (h : (bs.map (·.1)).Nodup) : (valV (dB bs) (Sum.inr n : Key) = some (.int (getB bs n)) ∧ n ∈ bs.map (·.1)) ∨ (valV (dB bs) (Sum.inr n : Key) = none ∧ getB bs n = 0) := by
  unfold getB
  cases e : bs.find? (fun p => decide (p.1 = n)) with
  | some p =>
    have hm := List.mem_of_find?_eq_some e
    have hp : p.1 = n := by simpa using List.find?_some e
    subst hp
    exact .inl ⟨dB_get h hm, List.mem_map.mpr ⟨p, hm, rfl⟩⟩
  | none =>
    refine .inr ⟨dB_none ?_, rfl⟩
    intro hn
    obtain ⟨p, hp, rfl⟩ := List.mem_map.mp hn
    have := List.find?_eq_none.mp e p hp
    simp at this
/-! ### totals of raised balances -/
def sumI (f : Str × Int → Int) : List (Str × Int) → Int
  | [] => 0
  | c :: r => f c + sumI f r
theorem sumI_app (f : Str × Int → Int) : ∀ (a b : List (Str × Int)), sumI f (a ++ b) = sumI f a + sumI f b
  | [], b => by show sumI f b = 0 + sumI f b; omega
  | c :: r, b => by
    show f c + sumI f (r ++ b) = f c + sumI f r + sumI f b
    rw [sumI_app f r b]; omega
theorem sumI_perm {f : Str × Int → Int} {a b : List (Str × Int)} (h : a.Perm b) : sumI f a = sumI f b := by
  induction h with
  | nil => rfl
  | cons x _ ih => show f x + _ = f x + _; rw [ih]
  | swap x y l => show f y + (f x + _) = f x + (f y + _); omega
  | trans _ _ h1 h2 => rw [h1, h2]
theorem addL_at : ∀ (ns : List Str) (t : Str → Int) (z : Int) (m : Str), addL t ns z m = t m + ((ns.count m : Nat) : Int) * z
  | [], t, z, m => by show t m = t m + ((0 : Nat) : Int) * z; simp
  | n :: r, t, z, m => by
    show addL (at_ t n (t n + z)) r z m = _
    rw [addL_at r, List.count_cons]
    unfold at_
    by_cases e : m = n
    · subst e
      simp
      rw [Int.add_mul]
      omega
    · rw [if_neg e]
      have : (n == m) = false := by simp; exact fun q => e q.symm
      rw [this]
      simp
def wgt (rs : List FRow) (m : Str) (c : Str × Int) : Int := (((anc rs c.1).count m : Nat) : Int) * c.2
theorem totF_from (rs : List FRow) (m : Str) : ∀ (bs : List (Str × Int)) (t : Str → Int), (bs.foldl (fun t p => addL t (anc rs p.1) p.2) t) m = t m + sumI (wgt rs m) bs
  | [], t => by show t m = t m + 0; omega
  | c :: r, t => by
    show (r.foldl _ (addL t (anc rs c.1) c.2)) m = t m + (wgt rs m c + sumI (wgt rs m) r)
    rw [totF_from rs m r, addL_at]
    unfold wgt
    omega
theorem totF_sum (rs : List FRow) (bs : List (Str × Int)) (m : Str) : totF rs bs m = sumI (wgt rs m) bs := by
  unfold totF
  rw [totF_from]
  omega
theorem getB_none {bs : List (Str × Int)} {n : Str} (h : n ∉ bs.map (·.1)) : getB bs n = 0 := by
  unfold getB
  have : bs.find? (fun p => decide (p.1 = n)) = none := by
    rw [List.find?_eq_none]
    intro p hp
    simp
    exact fun e => h (List.mem_map.mpr ⟨p, hp, e⟩)
  rw [this]
theorem getB_cons (p : Str × Int) (r : List (Str × Int)) (n : Str) : getB (p :: r) n = if p.1 = n then p.2 else getB r n := by
  unfold getB
  rw [List.find?_cons]
  by_cases e : p.1 = n
  · rw [if_pos e, decide_eq_true e]
  · rw [if_neg e, decide_eq_false e]
theorem map_same {n : Str} {z : Int} : ∀ {r : List (Str × Int)}, n ∉ r.map (·.1) → r.map (fun p => if p.1 = n then (p.1, z) else p) = r
  | [], _ => rfl
  | p :: r, h => by
    rw [List.map_cons, List.mem_cons, not_or] at h
    rw [List.map_cons, map_same h.2, if_neg fun e => h.1 e.symm]
theorem sum_map {k : Str → Int} {n : Str} {z : Int} : ∀ {bs : List (Str × Int)}, (bs.map (·.1)).Nodup → n ∈ bs.map (·.1) →
    sumI (fun c => k c.1 * c.2) (bs.map (fun p => if p.1 = n then (p.1, z) else p)) = sumI (fun c => k c.1 * c.2) bs + k n * (z - getB bs n)
  | [], _, h => by cases h
  | p :: r, hd, h => by
    rw [List.map_cons, List.nodup_cons] at hd
    rw [List.map_cons, getB_cons]
    by_cases e : p.1 = n
    · rw [if_pos e, if_pos e, map_same (by rw [← e]; exact hd.1)]
      show k p.1 * z + _ = k p.1 * p.2 + _ + _
      rw [e, Int.mul_sub]
      omega
    · rw [if_neg e, if_neg e]
      rw [List.map_cons, List.mem_cons] at h
      have h := h.resolve_left fun q => e q.symm
      show k p.1 * p.2 + _ = k p.1 * p.2 + _ + _
      rw [sum_map hd.2 h]
      omega
theorem sum_put {k : Str → Int} {bs : List (Str × Int)} {c : Str × Int} (h : (bs.map (·.1)).Nodup) : sumI (fun c => k c.1 * c.2) (growS bs c) = sumI (fun c => k c.1 * c.2) bs + k c.1 * c.2 := by
  unfold growS putB
  by_cases e : c.1 ∈ bs.map (·.1)
  · rw [if_pos e, sum_map h e]
    congr 2
    omega
  · rw [if_neg e, sumI_app, getB_none e]
    show _ + (k c.1 * (0 + c.2) + 0) = _
    rw [Int.zero_add]
    omega
theorem sum_grow {rs : List FRow} {k : Str → Int} : ∀ {cs bs : List (Str × Int)}, BsN rs bs → (∀ c ∈ cs, c.1 ∈ fNames rs) → sumI (fun c => k c.1 * c.2) (growB bs cs) = sumI (fun c => k c.1 * c.2) bs + sumI (fun c => k c.1 * c.2) cs
  | [], bs, _, _ => by show _ = _ + 0; unfold growB; simp
  | c :: r, bs, h, hc => by
    show sumI _ (growB (growS bs c) r) = _ + (k c.1 * c.2 + _)
    rw [sum_grow (cs := r) (bs := growS bs c) (putB_n h (hc c (List.mem_cons_self ..))) (fun x hx => hc x (List.mem_cons_of_mem _ hx)), sum_put h.1]
    omega
theorem totF_grow {rs : List FRow} {cs bs : List (Str × Int)} (h : BsN rs bs) (hc : ∀ c ∈ cs, c.1 ∈ fNames rs) (m : Str) : totF rs (growB bs cs) m = totF rs bs m + sumI (wgt rs m) cs := by
  rw [totF_sum, totF_sum]
  exact sum_grow (rs := rs) (k := fun n => (((anc rs n).count m : Nat) : Int)) h hc
theorem ent_perm {rs : List FRow} {ws cs ds bs : List (Str × Int)} (h : BsN rs bs) (p : cs.Perm ds) (hc : ∀ c ∈ ds, c.1 ∈ fNames rs) : entF rs (growB bs cs) ws = entF rs (growB bs ds) ws := by
  unfold entF
  have : totF rs (growB bs cs) = totF rs (growB bs ds) := by
    funext m
    rw [totF_grow h (fun c q => hc c (p.mem_iff.mp q)), totF_grow h hc, sumI_perm p]
  rw [this]
end Lw

set_option Elab.async false
set_option linter.all false
set_option maxRecDepth 100000
set_option maxHeartbeats 4000000
namespace Lw
open L2 hiding Ext
open PySem PySem.Spec PyProof.Rows Gn Gr Gk Go Gt Gf Gu
/-! ### ancestors -/
theorem row_of {rs : List FRow} {n : Str} (h : n ∈ fNames rs) : ∃ (i : Nat) (r : FRow), rs[i]? = some r ∧ r.1 = n := by
  obtain ⟨r, hr, e⟩ := List.mem_map.mp h
  obtain ⟨i, hi⟩ := List.mem_iff_getElem?.mp hr
  exact ⟨i, r, hi, e⟩
theorem name_at {rs : List FRow} {i : Nat} {r : FRow} (h : rs[i]? = some r) : r.1 ∈ fNames rs := List.mem_map.mpr ⟨r, List.mem_of_getElem? h, rfl⟩
theorem idx_eq {rs : List FRow} (g : Good rs) {i j : Nat} {r r' : FRow} (hi : rs[i]? = some r) (hj : rs[j]? = some r') (e : r.1 = r'.1) : i = j := by
  have h := (good_nodup g.2.2).1
  have a : (fNames rs)[i]? = some r.1 := by unfold fNames; rw [List.getElem?_map, hi]; rfl
  have b : (fNames rs)[j]? = some r.1 := by unfold fNames; rw [List.getElem?_map, hj]; rw [e]; rfl
  have il := (List.getElem?_eq_some_iff.mp a).1
  exact (List.getElem?_inj il h).mp (a.trans b.symm)
theorem par_at {rs : List FRow} (g : Good rs) {i : Nat} {r : FRow} (h : rs[i]? = some r) : parOf rs r.1 = r.2 := parOf_at (good_nodup g.2.2).1 (List.mem_of_getElem? h)
theorem anc_root {rs : List FRow} (g : Good rs) {i : Nat} {r : FRow} (h : rs[i]? = some r) (e : r.2 = none) : anc rs r.1 = [r.1] := by
  show ancF rs (7 + 1) r.1 = _
  rw [ancF_s, par_at g h, e]
  rfl
theorem anc_step {rs : List FRow} (g : Good rs) {i : Nat} {r : FRow} (h : rs[i]? = some r) {p : Str} (e : r.2 = some p) : ∃ (j : Nat) (r' : FRow), j < i ∧ rs[j]? = some r' ∧ r'.1 = p ∧ anc rs r.1 = r.1 :: anc rs p := by
  obtain ⟨j, r', hj, hr, rfl⟩ := par_idx g.2.2 h e
  have il := (List.getElem?_eq_some_iff.mp h).1
  have l8 := g.2.1
  refine ⟨j, r', hj, hr, rfl, ?_⟩
  show ancF rs (7 + 1) r.1 = _ :: ancF rs 8 r'.1
  rw [ancF_s, par_at g h, e]
  show r.1 :: ancF rs 7 r'.1 = _
  rw [ancF_fuel g.2.2 7 8 j r' hr (by omega) (by omega)]
/-- the index of an ancestor is no greater -/
theorem anc_idx {rs : List FRow} (g : Good rs) : ∀ (n i : Nat) (r : FRow), i < n → rs[i]? = some r → ∀ m ∈ anc rs r.1, ∃ (j : Nat) (r' : FRow), j ≤ i ∧ rs[j]? = some r' ∧ r'.1 = m
  | 0, _, _, h, _, _, _ => by omega
  | n + 1, i, r, hn, h, m, hm => by
    cases e : r.2 with
    | none =>
      rw [anc_root g h e, List.mem_singleton] at hm
      exact ⟨i, r, Nat.le_refl _, h, hm.symm⟩
    | some p =>
      obtain ⟨j, r', hj, hr, rfl, ea⟩ := anc_step g h e
      rw [ea] at hm
      rcases List.mem_cons.mp hm with rfl | hm
      · exact ⟨i, r, Nat.le_refl _, h, rfl⟩
      · obtain ⟨j2, r2, h1, h2, h3⟩ := anc_idx g n j r' (by omega) hr m hm
        exact ⟨j2, r2, by omega, h2, h3⟩
theorem anc_self {rs : List FRow} (g : Good rs) {n : Str} (h : n ∈ fNames rs) : n ∈ anc rs n := by
  show n ∈ ancF rs (7 + 1) n
  rw [ancF_s]
  exact List.mem_cons_self ..
theorem anc_anti {rs : List FRow} (g : Good rs) {v w : Str} (hv : v ∈ fNames rs) (hw : w ∈ fNames rs) (h1 : w ∈ anc rs v) (h2 : v ∈ anc rs w) : w = v := by
  obtain ⟨i, r, hi, rfl⟩ := row_of hv
  obtain ⟨j, q, hj, rfl⟩ := row_of hw
  obtain ⟨j', q', a1, a2, a3⟩ := anc_idx g _ i r (Nat.lt_succ_self _) hi _ h1
  obtain ⟨i', r', b1, b2, b3⟩ := anc_idx g _ j q (Nat.lt_succ_self _) hj _ h2
  have e1 := idx_eq g a2 hj a3
  have e2 := idx_eq g b2 hi b3
  have : i = j := by omega
  subst this
  rw [hi] at hj
  cases hj
  rfl
theorem anc_trans {rs : List FRow} (g : Good rs) : ∀ (n i : Nat) (r : FRow), i < n → rs[i]? = some r → ∀ w ∈ anc rs r.1, ∀ v ∈ anc rs w, v ∈ anc rs r.1
  | 0, _, _, h, _, _, _, _, _ => by omega
  | n + 1, i, r, hn, h, w, hw, v, hv => by
    cases e : r.2 with
    | none =>
      rw [anc_root g h e, List.mem_singleton] at hw
      subst hw
      exact hv
    | some p =>
      obtain ⟨j, r', hj, hr, rfl, ea⟩ := anc_step g h e
      rw [ea] at hw
      rcases List.mem_cons.mp hw with rfl | hw
      · exact hv
      · rw [ea]
        exact List.mem_cons_of_mem _ (anc_trans g n j r' (by omega) hr w hw v hv)
theorem anc_chain {rs : List FRow} (g : Good rs) : ∀ (n i : Nat) (r : FRow), i < n → rs[i]? = some r → ∀ w ∈ anc rs r.1, ∀ v ∈ anc rs r.1, w ∈ anc rs v ∨ v ∈ anc rs w
  | 0, _, _, h, _, _, _, _, _ => by omega
  | n + 1, i, r, hn, h, w, hw, v, hv => by
    cases e : r.2 with
    | none =>
      have hr := anc_self g (name_at h)
      rw [anc_root g h e, List.mem_singleton] at hw hv
      subst hw
      subst hv
      exact .inl hr
    | some p =>
      obtain ⟨j, r', hj, hr, rfl, ea⟩ := anc_step g h e
      have hw0 := hw
      have hv0 := hv
      rw [ea] at hw hv
      rcases List.mem_cons.mp hw with rfl | hw
      · exact .inr hv0
      · rcases List.mem_cons.mp hv with rfl | hv
        · exact .inl hw0
        · exact anc_chain g n j r' (by omega) hr w hw v hv
theorem anc_nd {rs : List FRow} (g : Good rs) : ∀ (n i : Nat) (r : FRow), i < n → rs[i]? = some r → (anc rs r.1).Nodup
  | 0, _, _, h, _ => by omega
  | n + 1, i, r, hn, h => by
    cases e : r.2 with
    | none =>
      rw [anc_root g h e]
      exact List.nodup_cons.mpr ⟨(by intro h; cases h), List.nodup_nil⟩
    | some p =>
      obtain ⟨j, r', hj, hr, rfl, ea⟩ := anc_step g h e
      rw [ea]
      refine List.nodup_cons.mpr ⟨fun hm => ?_, anc_nd g n j r' (by omega) hr⟩
      obtain ⟨j2, r2, h1, h2, h3⟩ := anc_idx g _ j r' (Nat.lt_succ_self _) hr _ hm
      have := idx_eq g h2 h h3
      omega
theorem cnt_is {m : Str} : ∀ {l : List Str}, l.Nodup → (l.count m : Nat) = if m ∈ l then 1 else 0
  | [], _ => by simp
  | n :: r, hn => by
    obtain ⟨h1, h2⟩ := List.nodup_cons.mp hn
    have ih := cnt_is (m := m) h2
    by_cases e : m = n
    · subst e
      rw [List.count_cons_self, ih, if_neg h1, if_pos (List.mem_cons_self ..)]
    · rw [List.count_cons_of_ne (fun h => e h.symm), ih]
      by_cases hm : m ∈ r
      · rw [if_pos hm, if_pos (List.mem_cons_of_mem _ hm)]
      · rw [if_neg hm, if_neg (fun h => (List.mem_cons.mp h).elim e hm)]
theorem cnt_anc {rs : List FRow} (g : Good rs) {a : Str} (h : a ∈ fNames rs) (m : Str) : ((anc rs a).count m : Nat) = if m ∈ anc rs a then 1 else 0 := by
  obtain ⟨i, r, hi, rfl⟩ := row_of h
  exact cnt_is (anc_nd g _ i r (Nat.lt_succ_self _) hi)
/-! ### sums over the accounts just inside one, or over the roots -/
def sumS (f : Str → Int) : List Str → Int
  | [] => 0
  | c :: r => f c + sumS f r
theorem sumS_add (f g : Str → Int) : ∀ l, sumS (fun u => f u + g u) l = sumS f l + sumS g l
  | [] => rfl
  | c :: r => by
    show f c + g c + _ = f c + _ + (g c + _)
    rw [sumS_add f g r]
    omega
theorem sumS_le {f g : Str → Int} : ∀ {l : List Str}, (∀ u ∈ l, f u ≤ g u) → sumS f l ≤ sumS g l
  | [], _ => Int.le_refl _
  | c :: r, h => by
    show f c + _ ≤ g c + _
    have := h c (List.mem_cons_self ..)
    have := sumS_le (l := r) fun u hu => h u (List.mem_cons_of_mem _ hu)
    omega
theorem sumS_mul (f : Str → Int) (z : Int) : ∀ l, sumS (fun u => f u * z) l = sumS f l * z
  | [] => by show (0 : Int) = 0 * z; omega
  | c :: r => by
    show f c * z + _ = (f c + _) * z
    rw [sumS_mul f z r, Int.add_mul]
theorem sumS_congr {f g : Str → Int} : ∀ {l : List Str}, (∀ u ∈ l, f u = g u) → sumS f l = sumS g l
  | [], _ => rfl
  | c :: r, h => by
    show f c + _ = g c + _
    rw [h c (List.mem_cons_self ..), sumS_congr fun u hu => h u (List.mem_cons_of_mem _ hu)]
def chl (rs : List FRow) (o : Option Str) : List Str := (fNames rs).filter fun u => decide (parOf rs u = o)
theorem chl_one {rs : List FRow} (g : Good rs) {a : Str} (h : a ∈ fNames rs) (o : Option Str) : sumS (fun u => if u = a then 1 else 0) (chl rs o) = if parOf rs a = o then 1 else 0 := by
  have nd := (good_nodup g.2.2).1
  unfold chl
  generalize fNames rs = l at h nd
  induction l with
  | nil => cases h
  | cons x r ih =>
    obtain ⟨h1, h2⟩ := List.nodup_cons.mp nd
    have zero : ∀ {l' : List Str}, a ∉ l' → sumS (fun u => if u = a then (1 : Int) else 0) l' = 0 := by
      intro l' hl
      induction l' with
      | nil => rfl
      | cons y t iht =>
        rw [List.mem_cons, not_or] at hl
        show (if y = a then (1 : Int) else 0) + _ = 0
        rw [if_neg (fun e => hl.1 e.symm), iht hl.2]
        rfl
    rcases List.mem_cons.mp h with rfl | h
    · have z := zero (l' := r.filter fun u => decide (parOf rs u = o)) fun hm => h1 (List.mem_filter.mp hm).1
      by_cases e : parOf rs a = o
      · rw [List.filter_cons_of_pos (by simpa using e), if_pos e]
        show (if a = a then (1 : Int) else 0) + _ = 1
        rw [if_pos rfl, z]
        rfl
      · rw [List.filter_cons_of_neg (by simpa using e), if_neg e, z]
    · have ne : x ≠ a := fun e => h1 (e ▸ h)
      have := ih h h2
      by_cases e : parOf rs x = o
      · rw [List.filter_cons_of_pos (by simpa using e)]
        show (if x = a then (1 : Int) else 0) + _ = _
        rw [if_neg ne, this]
        omega
      · rw [List.filter_cons_of_neg (by simpa using e), this]
def ownO (o : Option Str) (a : Str) : Int := match o with
  | none => 0
  | some v => if a = v then 1 else 0
def cntO (rs : List FRow) (o : Option Str) (a : Str) : Int := match o with
  | none => 1
  | some v => (((anc rs a).count v : Nat) : Int)
theorem cnt_cons (x v : Str) (l : List Str) : (((x :: l).count v : Nat) : Int) = (if v = x then 1 else 0) + ((l.count v : Nat) : Int) := by
  by_cases e : v = x
  · subst e
    rw [List.count_cons_self, if_pos rfl]
    omega
  · rw [List.count_cons_of_ne (fun h => e h.symm), if_neg e]
    omega
/-- an account counts at another one directly, or by one of those just inside it -/
theorem cnt_split {rs : List FRow} (g : Good rs) (o : Option Str) : ∀ (n i : Nat) (r : FRow), i < n → rs[i]? = some r → cntO rs o r.1 = ownO o r.1 + sumS (fun u => (((anc rs r.1).count u : Nat) : Int)) (chl rs o)
  | 0, _, _, h, _ => by omega
  | n + 1, i, r, hn, h => by
    have hm := name_at h
    have one := chl_one g hm o
    rw [par_at g h] at one
    cases e : r.2 with
    | none =>
      rw [e] at one
      have ea := anc_root g h e
      have e2 : sumS (fun u => (((anc rs r.1).count u : Nat) : Int)) (chl rs o) = if none = o then 1 else 0 := by
        rw [← one]
        refine sumS_congr fun u _ => ?_
        rw [ea, cnt_cons]
        simp
      rw [e2]
      cases o with
      | none => rfl
      | some v =>
        show (((anc rs r.1).count v : Nat) : Int) = (if r.1 = v then 1 else 0) + _
        have z0 : (if (none : Option Str) = some v then (1 : Int) else 0) = 0 := if_neg (by intro h; cases h)
        rw [ea, cnt_cons, z0]
        by_cases ev : v = r.1
        · rw [if_pos ev, if_pos ev.symm]; simp
        · rw [if_neg ev, if_neg (fun h => ev h.symm)]; simp
    | some p =>
      obtain ⟨j, r', hj, hr, rfl, ea⟩ := anc_step g h e
      rw [e] at one
      have ih := cnt_split g o n j r' (by omega) hr
      have e2 : sumS (fun u => (((anc rs r.1).count u : Nat) : Int)) (chl rs o) = (if some r'.1 = o then 1 else 0) + sumS (fun u => (((anc rs r'.1).count u : Nat) : Int)) (chl rs o) := by
        rw [← one, ← sumS_add]
        refine sumS_congr fun u _ => ?_
        rw [ea, cnt_cons]
      rw [e2]
      cases o with
      | none =>
        show (1 : Int) = 0 + _
        have ih : (1 : Int) = 0 + _ := ih
        have z0 : (if some r'.1 = (none : Option Str) then (1 : Int) else 0) = 0 := if_neg (by intro h; cases h)
        rw [z0]
        omega
      | some v =>
        show (((anc rs r.1).count v : Nat) : Int) = (if r.1 = v then 1 else 0) + _
        have ih : (((anc rs r'.1).count v : Nat) : Int) = (if r'.1 = v then 1 else 0) + _ := ih
        rw [ea, cnt_cons, ih]
        have e3 : (if v = r.1 then (1 : Int) else 0) = if r.1 = v then 1 else 0 := by
          by_cases ev : v = r.1
          · rw [if_pos ev, if_pos ev.symm]
          · rw [if_neg ev, if_neg (fun h => ev h.symm)]
        have e4 : (if some r'.1 = some v then (1 : Int) else 0) = if r'.1 = v then 1 else 0 := by
          by_cases ev : r'.1 = v
          · rw [if_pos ev, if_pos (by rw [ev])]
          · rw [if_neg ev, if_neg (fun h => ev (Option.some.inj h))]
        rw [e3, e4]
def wO (rs : List FRow) (o : Option Str) (c : Str × Int) : Int := cntO rs o c.1 * c.2
def oO (o : Option Str) (c : Str × Int) : Int := ownO o c.1 * c.2
theorem sum_split {rs : List FRow} (g : Good rs) (o : Option Str) : ∀ {l : List (Str × Int)}, (∀ c ∈ l, c.1 ∈ fNames rs) → sumI (wO rs o) l = sumI (oO o) l + sumS (fun u => sumI (wgt rs u) l) (chl rs o)
  | [], _ => by
    show (0 : Int) = 0 + _
    have : ∀ l : List Str, sumS (fun u => sumI (wgt rs u) []) l = 0 := by
      intro l
      induction l with
      | nil => rfl
      | cons x r ih => show (0 : Int) + _ = 0; rw [ih]; rfl
    rw [this]
    rfl
  | c :: r, h => by
    obtain ⟨i, q, hi, e⟩ := row_of (h c (List.mem_cons_self ..))
    have k := cnt_split g o _ i q (Nat.lt_succ_self _) hi
    rw [e] at k
    have ih := sum_split g o (l := r) fun x hx => h x (List.mem_cons_of_mem _ hx)
    show wO rs o c + _ = oO o c + _ + sumS (fun u => wgt rs u c + sumI (wgt rs u) r) _
    rw [sumS_add, ih]
    have : wO rs o c = oO o c + sumS (fun u => wgt rs u c) (chl rs o) := by
      unfold wO oO
      rw [k, Int.add_mul, ← sumS_mul]
      rfl
    omega
end Lw

set_option Elab.async false
set_option linter.all false
set_option maxRecDepth 100000
set_option maxHeartbeats 4000000
namespace Lw
open L2 hiding Ext
open PySem PySem.Spec PyProof.Rows Gn Gr Gk Go Gt Gf Gu
/-! ### grants, with their accounts -/
def grF (rs : List FRow) : (Str → Int) → List (Str × Int) → List (Str × Int)
  | _, [] => []
  | t, c :: r => (c.1, minL c.2 ((anc rs c.1).map t)) :: grF rs (addL t (anc rs c.1) (-minL c.2 ((anc rs c.1).map t))) r
theorem run_gr (rs : List FRow) : ∀ (cs : List (Str × Int)) (t : Str → Int) (o : List Int), (cs.foldl (eStep rs) (t, o)).2 = o ++ (grF rs t cs).map (·.2)
  | [], t, o => by simp [grF]
  | c :: r, t, o => by
    show (r.foldl (eStep rs) (addL t (anc rs c.1) (-minL c.2 ((anc rs c.1).map t)), o ++ [minL c.2 ((anc rs c.1).map t)])).2 = o ++ (minL c.2 ((anc rs c.1).map t) :: (grF rs _ r).map (·.2))
    rw [run_gr rs r, List.append_assoc]
    rfl
theorem ent_gr (rs : List FRow) (bs cs : List (Str × Int)) : entF rs bs cs = (grF rs (totF rs bs) cs).map (·.2) := by
  unfold entF eRun
  rw [run_gr, List.nil_append]
theorem gr_fst (rs : List FRow) : ∀ (cs : List (Str × Int)) (t : Str → Int), (grF rs t cs).map (·.1) = cs.map (·.1)
  | [], _ => rfl
  | c :: r, t => by
    show c.1 :: _ = c.1 :: _
    rw [gr_fst rs r]
theorem gr_len (rs : List FRow) (cs : List (Str × Int)) (t : Str → Int) : (grF rs t cs).length = cs.length := by
  have := congrArg List.length (gr_fst rs cs t)
  rwa [List.length_map, List.length_map] at this
theorem gr_at {rs : List FRow} : ∀ {cs : List (Str × Int)} {t : Str → Int} {k : Nat} {c : Str × Int}, cs[k]? = some c →
    (grF rs t cs)[k]? = some (c.1, minL c.2 ((anc rs c.1).map fun m => t m - sumI (wgt rs m) ((grF rs t cs).take k)))
  | [], _, _, _, h => by cases h
  | a :: r, t, 0, c, h => by
    cases h
    show some (a.1, minL a.2 ((anc rs a.1).map t)) = some (a.1, minL a.2 ((anc rs a.1).map fun m => t m - 0))
    congr 4
    funext m
    omega
  | a :: r, t, k + 1, c, h => by
    have h : r[k]? = some c := by simpa using h
    have ih := gr_at (rs := rs) (t := addL t (anc rs a.1) (-minL a.2 ((anc rs a.1).map t))) h
    show (grF rs _ r)[k]? = _
    rw [ih]
    congr 4
    funext m
    show addL t (anc rs a.1) (-minL a.2 ((anc rs a.1).map t)) m - _ = t m - (wgt rs m (a.1, minL a.2 ((anc rs a.1).map t)) + _)
    rw [addL_at, Int.mul_neg]
    have z : ∀ A B C : Int, A + -B - C = A - (B + C) := by omega
    exact z _ _ _
theorem gr_pre {rs : List FRow} : ∀ (cs : List (Str × Int)) (t : Str → Int) (k : Nat), grF rs t (cs.take k) = (grF rs t cs).take k
  | [], t, k => by simp [grF]
  | c :: r, t, 0 => rfl
  | c :: r, t, k + 1 => by
    show _ :: grF rs _ (r.take k) = _ :: (grF rs _ r).take k
    rw [gr_pre r]
theorem sumI_snoc (f : Str × Int → Int) {l : List (Str × Int)} {k : Nat} {c : Str × Int} (h : l[k]? = some c) : sumI f (l.take (k + 1)) = sumI f (l.take k) + f c := by
  rw [take_snoc h, sumI_app]
  show _ + (f c + 0) = _
  omega
theorem sumI_up {f : Str × Int → Int} {l : List (Str × Int)} (h : ∀ c ∈ l, 0 ≤ f c) {k : Nat} : ∀ {d : Nat}, sumI f (l.take k) ≤ sumI f (l.take (k + d))
  | 0 => Int.le_refl _
  | d + 1 => by
    have ih := sumI_up h (k := k) (d := d)
    show _ ≤ sumI f (l.take (k + d + 1))
    cases e : l[k + d]? with
    | none =>
      have hl := List.getElem?_eq_none_iff.mp e
      rw [List.take_of_length_le hl] at ih
      rw [List.take_of_length_le (Nat.le_trans hl (Nat.le_succ _))]
      exact ih
    | some c =>
      rw [sumI_snoc f e]
      have := h c (List.mem_of_getElem? e)
      omega
theorem sumI_le2 {f : Str × Int → Int} : ∀ {xs ys : List (Str × Int)}, xs.length = ys.length → (∀ (q : Nat) p p', xs[q]? = some p → ys[q]? = some p' → f p' ≤ f p) → sumI f ys ≤ sumI f xs
  | [], [], _, _ => Int.le_refl _
  | [], _ :: _, h, _ => by cases h
  | _ :: _, [], h, _ => by cases h
  | x :: xs, y :: ys, h, k => by
    show f y + _ ≤ f x + _
    have := k 0 x y rfl rfl
    have := sumI_le2 (f := f) (xs := xs) (ys := ys) (by simpa using h) fun q p p' h1 h2 => k (q + 1) p p' (by simpa using h1) (by simpa using h2)
    omega
theorem sumI_nn {f : Str × Int → Int} : ∀ {l : List (Str × Int)}, (∀ c ∈ l, 0 ≤ f c) → 0 ≤ sumI f l
  | [], _ => Int.le_refl _
  | c :: r, h => by
    have := h c (List.mem_cons_self ..)
    have := sumI_nn (l := r) fun x hx => h x (List.mem_cons_of_mem _ hx)
    show 0 ≤ f c + _
    omega
theorem wgt_in {rs : List FRow} (g : Good rs) {a m : Str} {x : Int} (h : a ∈ fNames rs) (hm : m ∈ anc rs a) : wgt rs m (a, x) = x := by
  unfold wgt
  rw [cnt_anc g h, if_pos hm]
  show (1 : Int) * x = x
  omega
theorem wgt_out {rs : List FRow} (g : Good rs) {a m : Str} {x : Int} (h : a ∈ fNames rs) (hm : m ∉ anc rs a) : wgt rs m (a, x) = 0 := by
  unfold wgt
  rw [cnt_anc g h, if_neg hm]
  show (0 : Int) * x = 0
  omega
theorem gr_of {rs : List FRow} {cs : List (Str × Int)} {t : Str → Int} {k : Nat} {p : Str × Int} (h : (grF rs t cs)[k]? = some p) : ∃ c, cs[k]? = some c ∧ p = (c.1, minL c.2 ((anc rs c.1).map fun m => t m - sumI (wgt rs m) ((grF rs t cs).take k))) := by
  have hl := (List.getElem?_eq_some_iff.mp h).1
  rw [gr_len] at hl
  refine ⟨_, List.getElem?_eq_getElem hl, ?_⟩
  rw [gr_at (List.getElem?_eq_getElem hl)] at h
  exact (Option.some.inj h).symm
/-- no account is overdrawn, nothing below 0 is granted -/
theorem gr_feas {rs : List FRow} (g : Good rs) {cs : List (Str × Int)} {t : Str → Int} (ht : ∀ m, 0 ≤ t m) (hc : ∀ c ∈ cs, c.1 ∈ fNames rs ∧ 0 ≤ c.2) : ∀ k m, sumI (wgt rs m) ((grF rs t cs).take k) ≤ t m
  | 0, m => ht m
  | k + 1, m => by
    have ih := gr_feas g ht hc k
    cases e : (grF rs t cs)[k]? with
    | none =>
      have hl := List.getElem?_eq_none_iff.mp e
      have := ih m
      rw [List.take_of_length_le hl] at this
      rw [List.take_of_length_le (Nat.le_trans hl (Nat.le_succ _))]
      exact this
    | some p =>
      rw [sumI_snoc _ e]
      obtain ⟨c, h1, rfl⟩ := gr_of e
      have cm := (hc c (List.mem_of_getElem? h1)).1
      have := ih m
      by_cases hm : m ∈ anc rs c.1
      · rw [wgt_in g cm hm]
        have := (minL_le ((anc rs c.1).map fun m => t m - sumI (wgt rs m) ((grF rs t cs).take k)) c.2).2 _ (List.mem_map.mpr ⟨m, hm, rfl⟩)
        omega
      · rw [wgt_out g cm hm]
        omega
theorem gr_pos {rs : List FRow} (g : Good rs) {cs : List (Str × Int)} {t : Str → Int} (ht : ∀ m, 0 ≤ t m) (hc : ∀ c ∈ cs, c.1 ∈ fNames rs ∧ 0 ≤ c.2) : ∀ p ∈ grF rs t cs, p.1 ∈ fNames rs ∧ 0 ≤ p.2 := fun p hp => by
  obtain ⟨k, hk⟩ := List.mem_iff_getElem?.mp hp
  obtain ⟨c, h1, rfl⟩ := gr_of hk
  obtain ⟨cm, c0⟩ := hc c (List.mem_of_getElem? h1)
  refine ⟨cm, ?_⟩
  show 0 ≤ minL _ _
  rcases minL_mem ((anc rs c.1).map fun m => t m - sumI (wgt rs m) ((grF rs t cs).take k)) c.2 with e | e
  · rw [e]; exact c0
  · obtain ⟨m, _, e⟩ := List.mem_map.mp e
    rw [← e]
    have := gr_feas g ht hc k m
    omega
theorem wgt_nn {rs : List FRow} {l : List (Str × Int)} (h : ∀ p ∈ l, 0 ≤ p.2) (m : Str) : ∀ p ∈ l, 0 ≤ wgt rs m p := fun p hp => Int.mul_nonneg (Int.natCast_nonneg _) (h p hp)
/-! ### more money, smaller claims -/
section
variable {rs : List FRow} (g : Good rs) {t t' : Str → Int} {es cs cs' : List (Str × Int)}
include g in
/-- what the gainers gain at an account is no more than what is added there, if each of them was held at or inside it -/
theorem up_L {X Y : List (Str × Int)} (hl : Y.length = X.length) (hX : ∀ p ∈ X, p.1 ∈ fNames rs) (hY : ∀ p ∈ Y, p.1 ∈ fNames rs) (hE : ∀ p ∈ es, p.1 ∈ fNames rs ∧ 0 ≤ p.2) (hXY : ∀ (q : Nat) p p', X[q]? = some p → Y[q]? = some p' → p'.1 = p.1)
    (hf : ∀ m, sumI (wgt rs m) Y ≤ t m + sumI (wgt rs m) es) : ∀ (n i : Nat) (r : FRow), rs.length - i < n → rs[i]? = some r →
    (∀ (q : Nat) p p', X[q]? = some p → Y[q]? = some p' → r.1 ∈ anc rs p.1 → p.2 < p'.2 → ∃ w ∈ anc rs p.1, r.1 ∈ anc rs w ∧ sumI (wgt rs w) X = t w) →
    sumI (wgt rs r.1) Y ≤ sumI (wgt rs r.1) X + sumI (wgt rs r.1) es
  | 0, _, _, h, _, _ => by omega
  | n + 1, i, r, hn, hi, H => by
    by_cases ti : sumI (wgt rs r.1) X = t r.1
    · rw [ti]; exact hf r.1
    have hrn := name_at hi
    have eX : sumI (wgt rs r.1) X = sumI (oO (some r.1)) X + sumS (fun u => sumI (wgt rs u) X) (chl rs (some r.1)) := sum_split g (some r.1) hX
    have eY : sumI (wgt rs r.1) Y = sumI (oO (some r.1)) Y + sumS (fun u => sumI (wgt rs u) Y) (chl rs (some r.1)) := sum_split g (some r.1) hY
    have eE : sumI (wgt rs r.1) es = sumI (oO (some r.1)) es + sumS (fun u => sumI (wgt rs u) es) (chl rs (some r.1)) := sum_split g (some r.1) fun p hp => (hE p hp).1
    have own : sumI (oO (some r.1)) Y ≤ sumI (oO (some r.1)) X := sumI_le2 hl.symm fun q p p' h1 h2 => by
      have e := hXY q p p' h1 h2
      unfold oO
      rw [e]
      show (if p.1 = r.1 then (1 : Int) else 0) * p'.2 ≤ (if p.1 = r.1 then (1 : Int) else 0) * p.2
      by_cases ev : p.1 = r.1
      · rw [if_pos ev]
        by_cases lt : p.2 < p'.2
        · obtain ⟨w, w1, w2, w3⟩ := H q p p' h1 h2 (by rw [ev]; exact anc_self g hrn) lt
          rw [ev] at w1
          have wn : w ∈ fNames rs := by
            obtain ⟨j, r', _, hj, rfl⟩ := anc_idx g _ i r (Nat.lt_succ_self _) hi _ w1
            exact name_at hj
          have := anc_anti g hrn wn w1 w2
          subst this
          exact absurd w3 ti
        · omega
      · rw [if_neg ev]; omega
    have ownE : 0 ≤ sumI (oO (some r.1)) es := sumI_nn fun p hp => by
      show 0 ≤ (if p.1 = r.1 then (1 : Int) else 0) * p.2
      have := (hE p hp).2
      split <;> omega
    have chs : sumS (fun u => sumI (wgt rs u) Y) (chl rs (some r.1)) ≤ sumS (fun u => sumI (wgt rs u) X + sumI (wgt rs u) es) (chl rs (some r.1)) := sumS_le fun u hu => by
      obtain ⟨u1, u2⟩ := List.mem_filter.mp hu
      have u2 := of_decide_eq_true u2
      obtain ⟨j, r', hj, rfl⟩ := row_of u1
      rw [par_at g hj] at u2
      obtain ⟨i', r2, lt, h2, e2, ea⟩ := anc_step g hj u2
      have ii := idx_eq g h2 hi e2
      have jl := (List.getElem?_eq_some_iff.mp hj).1
      refine up_L hl hX hY hE hXY hf n j r' (by omega) hj fun q p p' h1 h2 hm lt2 => ?_
      have pn := hX p (List.mem_of_getElem? h1)
      obtain ⟨ip, rp, hip, ep⟩ := row_of pn
      have vm : r.1 ∈ anc rs p.1 := by
        rw [← ep] at hm ⊢
        exact anc_trans g _ ip rp (Nat.lt_succ_self _) hip r'.1 hm r.1 (by rw [ea]; exact List.mem_cons_of_mem _ (anc_self g hrn))
      obtain ⟨w, w1, w2, w3⟩ := H q p p' h1 h2 vm lt2
      have wn : w ∈ fNames rs := by
        rw [← ep] at w1
        obtain ⟨j, r', _, hj, rfl⟩ := anc_idx g _ ip rp (Nat.lt_succ_self _) hip _ w1
        exact name_at hj
      refine ⟨w, w1, ?_, w3⟩
      rw [← ep] at w1 hm
      rcases anc_chain g _ ip rp (Nat.lt_succ_self _) hip w w1 r'.1 hm with h | h
      · rw [ea] at h
        rcases List.mem_cons.mp h with rfl | h
        · exact anc_self g (name_at hj)
        · have := anc_anti g hrn wn h w2
          subst this
          exact absurd w3 ti
      · exact h
    rw [sumS_add] at chs
    omega
include g in
theorem up_tight {X : List (Str × Int)} (ht : ∀ m, 0 ≤ t m) (hc : ∀ c ∈ cs, c.1 ∈ fNames rs ∧ 0 ≤ c.2) {q k : Nat} {c : Str × Int} {x : Int} (hq : cs[q]? = some c) (hx : (grF rs t cs)[q]? = some (c.1, x)) (lt : x < c.2) (hk : q < k) :
    ∃ w ∈ anc rs c.1, sumI (wgt rs w) ((grF rs t cs).take k) = t w := by
  have cm := (hc c (List.mem_of_getElem? hq)).1
  have e := gr_at (t := t) (rs := rs) hq
  rw [hx] at e
  have e := (Prod.mk.inj (Option.some.inj e)).2
  rcases minL_mem ((anc rs c.1).map fun m => t m - sumI (wgt rs m) ((grF rs t cs).take q)) c.2 with h | h
  · omega
  · rw [← e] at h
    obtain ⟨w, w1, w2⟩ := List.mem_map.mp h
    refine ⟨w, w1, ?_⟩
    have s1 := sumI_snoc (wgt rs w) hx
    rw [wgt_in g cm w1] at s1
    have s2 := sumI_up (f := wgt rs w) (l := grF rs t cs) (wgt_nn (fun p hp => (gr_pos g ht hc p hp).2) w) (k := q + 1) (d := k - (q + 1))
    rw [show q + 1 + (k - (q + 1)) = k by omega] at s2
    have s3 := gr_feas g ht hc k w
    omega
include g in
/-- what all gainers gain is no more than what is added -/
theorem up_all {X Y : List (Str × Int)} (hl : Y.length = X.length) (hX : ∀ p ∈ X, p.1 ∈ fNames rs) (hY : ∀ p ∈ Y, p.1 ∈ fNames rs) (hE : ∀ p ∈ es, p.1 ∈ fNames rs ∧ 0 ≤ p.2) (hXY : ∀ (q : Nat) p p', X[q]? = some p → Y[q]? = some p' → p'.1 = p.1)
    (hf : ∀ m, sumI (wgt rs m) Y ≤ t m + sumI (wgt rs m) es) (H : ∀ (q : Nat) p p', X[q]? = some p → Y[q]? = some p' → p.2 < p'.2 → ∃ w ∈ anc rs p.1, sumI (wgt rs w) X = t w) :
    sumI (wO rs none) Y ≤ sumI (wO rs none) X + sumI (wO rs none) es := by
  have eX := sum_split g none hX
  have eY := sum_split g none hY
  have eE := sum_split g none fun p hp => (hE p hp).1
  have zero : ∀ l : List (Str × Int), sumI (oO none) l = 0 := by
    intro l
    induction l with
    | nil => rfl
    | cons c r ih =>
      show (0 : Int) * c.2 + _ = 0
      rw [ih]; omega
  rw [zero] at eX eY eE
  have chs : sumS (fun u => sumI (wgt rs u) Y) (chl rs none) ≤ sumS (fun u => sumI (wgt rs u) X + sumI (wgt rs u) es) (chl rs none) := sumS_le fun u hu => by
    obtain ⟨u1, u2⟩ := List.mem_filter.mp hu
    have u2 := of_decide_eq_true u2
    obtain ⟨j, r', hj, rfl⟩ := row_of u1
    rw [par_at g hj] at u2
    refine up_L g hl hX hY hE hXY hf _ j r' (Nat.lt_succ_self _) hj fun q p p' h1 h2 hm lt2 => ?_
    obtain ⟨w, w1, w3⟩ := H q p p' h1 h2 lt2
    refine ⟨w, w1, ?_, w3⟩
    obtain ⟨ip, rp, hip, ep⟩ := row_of (hX p (List.mem_of_getElem? h1))
    rw [← ep] at w1 hm
    rcases anc_chain g _ ip rp (Nat.lt_succ_self _) hip w w1 r'.1 hm with h | h
    · rw [anc_root g hj u2, List.mem_singleton] at h
      rw [h]
      exact anc_self g (name_at hj)
    · exact h
  rw [sumS_add] at chs
  omega
variable (ht : ∀ m, 0 ≤ t m) (hE : ∀ p ∈ es, p.1 ∈ fNames rs ∧ 0 ≤ p.2) (htt : ∀ m, t' m = t m + sumI (wgt rs m) es) (hc : ∀ c ∈ cs, c.1 ∈ fNames rs ∧ 0 ≤ c.2) (hc' : ∀ c ∈ cs', c.1 ∈ fNames rs ∧ 0 ≤ c.2) (hl : cs'.length = cs.length) (hcc : ∀ (i : Nat) c c', cs[i]? = some c → cs'[i]? = some c' → c'.1 = c.1 ∧ c'.2 ≤ c.2)
include ht hE htt in
theorem up_t' (m : Str) : 0 ≤ t' m := by
  rw [htt]
  have := ht m
  have := sumI_nn (wgt_nn (rs := rs) (fun p hp => (hE p hp).2) m)
  omega
include hcc in
theorem up_acc {k : Nat} (q : Nat) (p p' : Str × Int) (h1 : ((grF rs t cs).take k)[q]? = some p) (h2 : ((grF rs t' cs').take k)[q]? = some p') : p'.1 = p.1 ∧ q < k := by
  have hq : q < k := by
    have := (List.getElem?_eq_some_iff.mp h1).1
    rw [List.length_take] at this
    omega
  rw [List.getElem?_take_of_lt hq] at h1 h2
  obtain ⟨c, e1, rfl⟩ := gr_of h1
  obtain ⟨c', e2, rfl⟩ := gr_of h2
  exact ⟨(hcc q c c' e1 e2).1, hq⟩
include g ht hE htt hc hc' hl hcc in
theorem up_gain {k q : Nat} {p p' : Str × Int} (h1 : ((grF rs t cs).take k)[q]? = some p) (h2 : ((grF rs t' cs').take k)[q]? = some p') (lt : p.2 < p'.2) : ∃ w ∈ anc rs p.1, sumI (wgt rs w) ((grF rs t cs).take k) = t w := by
  obtain ⟨e, hq⟩ := up_acc hcc q p p' h1 h2
  rw [List.getElem?_take_of_lt hq] at h1 h2
  obtain ⟨c, e1, ep⟩ := gr_of h1
  obtain ⟨c', e2, ep'⟩ := gr_of h2
  have le : p'.2 ≤ c'.2 := by rw [ep']; exact (minL_le _ _).1
  have := (hcc q c c' e1 e2).2
  have ea : p.1 = c.1 := by rw [ep]
  rw [ea]
  exact up_tight (X := []) g ht hc e1 (x := p.2) (by rw [h1, ← ea]) (by omega) hq
include g ht hE htt hc hc' hl hcc in
/-- a claim that stays as it is gets no less -/
theorem ent_up {k : Nat} {c : Str × Int} {x y : Int} (hk : cs[k]? = some c) (hk' : cs'[k]? = some c) (hx : (grF rs t cs)[k]? = some (c.1, x)) (hy : (grF rs t' cs')[k]? = some (c.1, y)) : x ≤ y := by
  refine Int.not_lt.mp fun lt => ?_
  have ht' := up_t' ht hE htt
  have cm := (hc c (List.mem_of_getElem? hk)).1
  obtain ⟨i, r, hi, er⟩ := row_of cm
  have ex := gr_at (t := t) (rs := rs) hk
  rw [hx] at ex
  have ex := (Prod.mk.inj (Option.some.inj ex)).2
  have ey := gr_at (t := t') (rs := rs) hk'
  rw [hy] at ey
  have ey := (Prod.mk.inj (Option.some.inj ey)).2
  have xle := minL_le ((anc rs c.1).map fun m => t m - sumI (wgt rs m) ((grF rs t cs).take k)) c.2
  rw [← ex] at xle
  have y0 : 0 ≤ y := (gr_pos g ht' hc' _ (List.mem_of_getElem? hy)).2
  rcases minL_mem ((anc rs c.1).map fun m => t' m - sumI (wgt rs m) ((grF rs t' cs').take k)) c.2 with h | h
  · rw [← ey] at h
    omega
  · rw [← ey] at h
    obtain ⟨v, v1, v2⟩ := List.mem_map.mp h
    have xv := xle.2 _ (List.mem_map.mpr ⟨v, v1, rfl⟩)
    rw [htt] at v2
    obtain ⟨iv, rv, hiv, ev⟩ : ∃ (iv : Nat) (rv : FRow), rs[iv]? = some rv ∧ rv.1 = v := by
      rw [← er] at v1
      obtain ⟨j, r', _, hj, e⟩ := anc_idx g _ i r (Nat.lt_succ_self _) hi _ v1
      exact ⟨j, r', hj, e⟩
    subst ev
    have L := up_L (t := t) (es := es) (X := (grF rs t cs).take k) (Y := (grF rs t' cs').take k) g (by rw [List.length_take, List.length_take, gr_len, gr_len, hl]) (fun p hp => (gr_pos g ht hc p (List.mem_of_mem_take hp)).1) (fun p hp => (gr_pos g ht' hc' p (List.mem_of_mem_take hp)).1) hE (fun q p p' h1 h2 => (up_acc hcc q p p' h1 h2).1) (fun m => by rw [← htt]; exact gr_feas g ht' hc' k m) _ iv rv (Nat.lt_succ_self _) hiv fun q p p' h1 h2 hm lt2 => by
      obtain ⟨w, w1, w3⟩ := up_gain g ht hE htt hc hc' hl hcc h1 h2 lt2
      refine ⟨w, w1, ?_, w3⟩
      obtain ⟨ip, rp, hip, ep⟩ := row_of (gr_pos g ht hc p (List.mem_of_mem_take (List.mem_of_getElem? h1))).1
      rw [← ep] at w1 hm
      rcases anc_chain g _ ip rp (Nat.lt_succ_self _) hip w w1 rv.1 hm with h | h
      · exfalso
        have wa : w ∈ anc rs c.1 := by
          rw [← er] at v1 ⊢
          exact anc_trans g _ i r (Nat.lt_succ_self _) hi rv.1 v1 w h
        have := xle.2 _ (List.mem_map.mpr ⟨w, wa, rfl⟩)
        omega
      · exact h
    omega
theorem wO_none (rs : List FRow) : ∀ l : List (Str × Int), sumI (wO rs none) l = sumI (fun c => c.2) l
  | [] => rfl
  | c :: r => by
    show (1 : Int) * c.2 + _ = c.2 + _
    rw [wO_none rs r]; omega
include g ht hE htt hc hc' hl hcc in
/-- all together get no more than what is added -/
theorem ent_sum : sumI (fun c => c.2) (grF rs t' cs') ≤ sumI (fun c => c.2) (grF rs t cs) + sumI (fun c => c.2) es := by
  have ht' := up_t' ht hE htt
  have eX : (grF rs t cs).take cs.length = grF rs t cs := List.take_of_length_le (by rw [gr_len]; exact Nat.le_refl _)
  have eY : (grF rs t' cs').take cs.length = grF rs t' cs' := List.take_of_length_le (by rw [gr_len, hl]; exact Nat.le_refl _)
  have L := up_all (t := t) (es := es) (X := (grF rs t cs).take cs.length) (Y := (grF rs t' cs').take cs.length) g (by rw [List.length_take, List.length_take, gr_len, gr_len, hl]) (fun p hp => (gr_pos g ht hc p (List.mem_of_mem_take hp)).1) (fun p hp => (gr_pos g ht' hc' p (List.mem_of_mem_take hp)).1) hE (fun q p p' h1 h2 => (up_acc hcc q p p' h1 h2).1) (fun m => by rw [← htt]; exact gr_feas g ht' hc' _ m) fun q p p' h1 h2 lt => up_gain g ht hE htt hc hc' hl hcc h1 h2 lt
  rw [eX, eY, wO_none, wO_none, wO_none] at L
  exact L
end
end Lw

set_option Elab.async false
set_option linter.all false
set_option maxRecDepth 100000
set_option maxHeartbeats 4000000
namespace Lw
open L2 hiding Ext
open PySem PySem.Spec PyProof.Rows Gn Gr Gk Go Gt Gf Gu
theorem ent_pre_ {rs : List FRow} {bs cs : List (Str × Int)} (n : Nat) : entF rs bs (cs.take n) = (entF rs bs cs).take n := by
  rw [ent_gr, ent_gr, gr_pre, List.map_take]
theorem tot_nn {rs : List FRow} {bs : List (Str × Int)} (h : ∀ p ∈ bs, 0 ≤ p.2) (m : Str) : 0 ≤ totF rs bs m := by
  rw [totF_sum]
  exact sumI_nn (wgt_nn h m)
theorem gr_sum : ∀ l : List (Str × Int), (l.map (·.2)).sum = sumI (fun c => c.2) l
  | [] => rfl
  | c :: r => by
    rw [List.map_cons, List.sum_cons, gr_sum r]
    rfl
/-! ### rows in another order -/
theorem par_none {rs : List FRow} {n : Str} (h : n ∉ fNames rs) : parOf rs n = none := by
  unfold parOf
  have : rs.find? (fun r => decide (r.1 = n)) = none := by
    rw [List.find?_eq_none]
    intro r hr
    simp
    exact fun e => h (List.mem_map.mpr ⟨r, hr, e⟩)
  rw [this]
  rfl
theorem par_perm {rs ds : List FRow} (p : rs.Perm ds) (h : (fNames rs).Nodup) (n : Str) : parOf ds n = parOf rs n := by
  have pn : (fNames rs).Perm (fNames ds) := p.map _
  by_cases hn : n ∈ fNames rs
  · obtain ⟨r, hr, rfl⟩ := List.mem_map.mp hn
    rw [parOf_at h hr, parOf_at (pn.nodup_iff.mp h) (p.mem_iff.mp hr)]
  · rw [par_none hn, par_none fun k => hn (pn.mem_iff.mpr k)]
theorem anc_perm {rs ds : List FRow} (p : rs.Perm ds) (h : (fNames rs).Nodup) : anc ds = anc rs := by
  have : ∀ k n, ancF ds k n = ancF rs k n := by
    intro k
    induction k with
    | zero => intro n; rfl
    | succ k ih =>
      intro n
      rw [ancF_s, ancF_s, par_perm p h]
      cases parOf rs n with
      | none => rfl
      | some m => show n :: ancF ds k m = n :: ancF rs k m; rw [ih]
  funext n
  exact this 8 n
theorem ent_anc {rs ds : List FRow} (h : anc ds = anc rs) (bs cs : List (Str × Int)) : entF ds bs cs = entF rs bs cs := by
  have e1 : totF ds bs = totF rs bs := by unfold totF; rw [h]
  have e2 : eStep ds = eStep rs := by
    funext s c
    unfold eStep
    rw [h]
  unfold entF eRun
  rw [e1, e2]
/-! ### runs -/
def aftG (rs : List FRow) : (Str → Int) → List (Str × Int) → (Str → Int)
  | t, [] => t
  | t, c :: r => aftG rs (addL t (anc rs c.1) (-minL c.2 ((anc rs c.1).map t))) r
theorem gr_app (rs : List FRow) : ∀ (a : List (Str × Int)) (t : Str → Int) (b : List (Str × Int)), grF rs t (a ++ b) = grF rs t a ++ grF rs (aftG rs t a) b
  | [], _, _ => rfl
  | c :: r, t, b => by
    show _ :: grF rs _ (r ++ b) = _ :: (grF rs _ r ++ _)
    rw [gr_app rs r]
    rfl
section
variable {rs : List FRow} (g : Good rs)
include g in
theorem addA {a : Str} (h : a ∈ fNames rs) (t : Str → Int) (z : Int) (m : Str) : addL t (anc rs a) z m = t m + if m ∈ anc rs a then z else 0 := by
  rw [addL_at, cnt_anc g h]
  by_cases hm : m ∈ anc rs a
  · rw [if_pos hm, if_pos hm]
    show t m + (1 : Int) * z = _
    omega
  · rw [if_neg hm, if_neg hm]
    show t m + (0 : Int) * z = _
    omega
theorem min_le1 {a : Str} {t : Str → Int} {c : Int} {m : Str} (hm : m ∈ anc rs a) : minL c ((anc rs a).map t) ≤ t m := (minL_le _ _).2 _ (List.mem_map.mpr ⟨m, hm, rfl⟩)
theorem min_nn {a : Str} {t : Str → Int} {c : Int} (ht : ∀ m, 0 ≤ t m) (hc : 0 ≤ c) : 0 ≤ minL c ((anc rs a).map t) := by
  rcases minL_mem ((anc rs a).map t) c with e | e
  · rw [e]; exact hc
  · obtain ⟨m, _, e⟩ := List.mem_map.mp e
    rw [← e]; exact ht m
include g in
theorem step_nn {a : Str} (h : a ∈ fNames rs) {t : Str → Int} {c : Int} (ht : ∀ m, 0 ≤ t m) (m : Str) : 0 ≤ addL t (anc rs a) (-minL c ((anc rs a).map t)) m := by
  rw [addA g h]
  have := ht m
  by_cases hm : m ∈ anc rs a
  · rw [if_pos hm]
    have := min_le1 (c := c) (t := t) hm
    omega
  · rw [if_neg hm]
    omega
include g in
theorem aft_nn : ∀ {cs : List (Str × Int)} {t : Str → Int}, (∀ m, 0 ≤ t m) → (∀ c ∈ cs, c.1 ∈ fNames rs) → ∀ m, 0 ≤ aftG rs t cs m
  | [], _, ht, _ => ht
  | c :: r, t, ht, hc => aft_nn (cs := r) (step_nn g (hc c (List.mem_cons_self ..)) ht) fun x hx => hc x (List.mem_cons_of_mem _ hx)
/-! ### a claim in two -/
theorem minL_shift : ∀ (l : List Str) (t : Str → Int) (c z : Int), minL (c - z) (l.map fun m => t m - z) = minL c (l.map t) - z
  | [], _, _, _ => rfl
  | m :: r, t, c, z => by
    show minL (min (c - z) (t m - z)) (r.map fun m => t m - z) = minL (min c (t m)) (r.map t) - z
    rw [show min (c - z) (t m - z) = min c (t m) - z by omega]
    exact minL_shift r t _ z
theorem minL_min : ∀ (l : List Int) (c d : Int), minL (min c d) l = min c (minL d l)
  | [], _, _ => rfl
  | x :: r, c, d => by
    show minL (min (min c d) x) r = min c (minL (min d x) r)
    rw [show min (min c d) x = min c (min d x) by omega]
    exact minL_min r c _
include g in
theorem split_two {a : Str} (h : a ∈ fNames rs) {t : Str → Int} (ht : ∀ m, 0 ≤ t m) {p q : Int} (hp : 0 ≤ p) (hq : 0 ≤ q) (r : List (Str × Int)) :
    ∃ x gs, grF rs t ((a, p + q) :: r) = (a, x) :: gs ∧ grF rs t ((a, p) :: (a, q) :: r) = (a, min p x) :: (a, max 0 (x - p)) :: gs := by
  have e1 : minL p ((anc rs a).map t) = min p (minL (p + q) ((anc rs a).map t)) := by
    rw [← minL_min, show min p (p + q) = p by omega]
  have hx0 := min_nn (rs := rs) (a := a) (c := p + q) ht (by omega)
  have e2 : minL q ((anc rs a).map (addL t (anc rs a) (-minL p ((anc rs a).map t)))) = max 0 (minL (p + q) ((anc rs a).map t) - p) := by
    have ee : (anc rs a).map (addL t (anc rs a) (-minL p ((anc rs a).map t))) = (anc rs a).map fun m => t m - minL p ((anc rs a).map t) := by
      refine List.map_congr_left fun m hm => ?_
      rw [addA g h, if_pos hm]
      omega
    rw [ee]
    generalize hz : minL p ((anc rs a).map t) = z at e1
    have := minL_shift (anc rs a) t (q + z) z
    rw [show q + z - z = q by omega] at this
    rw [this]
    by_cases hpx : p ≤ minL (p + q) ((anc rs a).map t)
    · have zp : z = p := by rw [e1]; omega
      rw [zp, show q + p = p + q by omega]
      omega
    · have zx : z = minL (p + q) ((anc rs a).map t) := by rw [e1]; omega
      -- z is attained by some account
      have : minL (q + z) ((anc rs a).map t) = z := by
        have h1 := minL_le ((anc rs a).map t) (q + z)
        have h2 := minL_le ((anc rs a).map t) (p + q)
        rcases minL_mem ((anc rs a).map t) (p + q) with e | e
        · omega
        · have h3 := h1.2 _ e
          rcases minL_mem ((anc rs a).map t) (q + z) with e' | e'
          · omega
          · have := h2.2 _ e'
            omega
      rw [this]
      omega
  refine ⟨minL (p + q) ((anc rs a).map t), grF rs (addL t (anc rs a) (-minL (p + q) ((anc rs a).map t))) r, rfl, ?_⟩
  show (a, minL p ((anc rs a).map t)) :: (a, minL q ((anc rs a).map (addL t (anc rs a) (-minL p ((anc rs a).map t))))) :: grF rs (addL (addL t (anc rs a) (-minL p ((anc rs a).map t))) (anc rs a) (-minL q ((anc rs a).map (addL t (anc rs a) (-minL p ((anc rs a).map t)))))) r = _
  rw [e2, e1]
  congr 3
  funext m
  rw [addA g h, addA g h, addA g h]
  split <;> omega
include g in
theorem ent_split {bs A B : List (Str × Int)} {a : Str} {p q : Int} (hb : ∀ x ∈ bs, 0 ≤ x.2) (hA : ∀ x ∈ A, x.1 ∈ fNames rs) (h : a ∈ fNames rs) (hp : 0 ≤ p) (hq : 0 ≤ q) :
    ∃ x, (entF rs bs (A ++ [(a, p + q)] ++ B))[A.length]? = some x ∧ entF rs bs (A ++ [(a, p), (a, q)] ++ B) = (entF rs bs (A ++ [(a, p + q)] ++ B)).take A.length ++ [min p x, max 0 (x - p)] ++ (entF rs bs (A ++ [(a, p + q)] ++ B)).drop (A.length + 1) := by
  obtain ⟨x, gs, e1, e2⟩ := split_two g h (aft_nn g (t := totF rs bs) (fun m => tot_nn hb m) hA) hp hq B
  have l1 : entF rs bs (A ++ [(a, p + q)] ++ B) = (grF rs (totF rs bs) A).map (·.2) ++ x :: gs.map (·.2) := by
    rw [ent_gr, List.append_assoc, gr_app]
    show List.map _ (_ ++ grF rs _ ((a, p + q) :: B)) = _
    rw [e1, List.map_append]
    rfl
  have l2 : entF rs bs (A ++ [(a, p), (a, q)] ++ B) = (grF rs (totF rs bs) A).map (·.2) ++ min p x :: max 0 (x - p) :: gs.map (·.2) := by
    rw [ent_gr, List.append_assoc, gr_app]
    show List.map _ (_ ++ grF rs _ ((a, p) :: (a, q) :: B)) = _
    rw [e2, List.map_append]
    rfl
  have ll : ((grF rs (totF rs bs) A).map (·.2)).length = A.length := by rw [List.length_map, gr_len]
  refine ⟨x, ?_, ?_⟩
  · rw [l1, ← ll, List.getElem?_append_right (Nat.le_refl _), Nat.sub_self]
    rfl
  · rw [l1, l2]
    have t1 : ((grF rs (totF rs bs) A).map (·.2) ++ x :: gs.map (·.2)).take A.length = (grF rs (totF rs bs) A).map (·.2) := by
      rw [← ll]; exact List.take_left ..
    have t2 : ((grF rs (totF rs bs) A).map (·.2) ++ x :: gs.map (·.2)).drop (A.length + 1) = gs.map (·.2) := by
      rw [← ll, ← List.drop_drop, List.drop_left]
      rfl
    rw [t1, t2, List.append_assoc]
    rfl
end
/-! ### k times all numbers -/
def mulC (k : Int) (bs : List (Str × Int)) : List (Str × Int) := bs.map fun p => (p.1, k * p.2)
theorem sumI_mul (f : Str → Int) (k : Int) : ∀ l : List (Str × Int), sumI (fun c => f c.1 * c.2) (mulC k l) = k * sumI (fun c => f c.1 * c.2) l
  | [] => by show (0 : Int) = k * 0; omega
  | c :: r => by
    show f c.1 * (k * c.2) + sumI _ (mulC k r) = k * (f c.1 * c.2 + sumI _ r)
    rw [sumI_mul f k r, Int.mul_add, Int.mul_left_comm]
theorem minL_mul {k : Int} (hk : 0 ≤ k) : ∀ (l : List Int) (c : Int), minL (k * c) (l.map fun x => k * x) = k * minL c l
  | [], _ => rfl
  | x :: r, c => by
    show minL (min (k * c) (k * x)) _ = k * minL (min c x) r
    have : min (k * c) (k * x) = k * min c x := by
      by_cases h : c ≤ x
      · rw [Int.min_eq_left h, Int.min_eq_left (Int.mul_le_mul_of_nonneg_left h hk)]
      · rw [show min c x = x by omega, Int.min_eq_right (Int.mul_le_mul_of_nonneg_left (by omega) hk)]
    rw [this]
    exact minL_mul hk r _
theorem gr_mul {rs : List FRow} {k : Int} (hk : 0 ≤ k) : ∀ (cs : List (Str × Int)) (t : Str → Int), grF rs (fun m => k * t m) (mulC k cs) = mulC k (grF rs t cs)
  | [], _ => rfl
  | c :: r, t => by
    have e1 : minL (k * c.2) ((anc rs c.1).map fun m => k * t m) = k * minL c.2 ((anc rs c.1).map t) := by
      rw [← minL_mul hk, List.map_map]
      rfl
    show (c.1, minL (k * c.2) ((anc rs c.1).map fun m => k * t m)) :: grF rs (addL (fun m => k * t m) (anc rs c.1) (-minL (k * c.2) ((anc rs c.1).map fun m => k * t m))) (mulC k r) = (c.1, k * minL c.2 ((anc rs c.1).map t)) :: mulC k (grF rs _ r)
    rw [e1, ← gr_mul hk r]
    congr 2
    funext m
    rw [addL_at, addL_at, Int.mul_add, Int.mul_neg, Int.mul_neg, Int.mul_neg, Int.mul_left_comm]
theorem ent_mul {rs : List FRow} {k : Int} (hk : 0 ≤ k) (bs cs : List (Str × Int)) : entF rs (mulC k bs) (mulC k cs) = (entF rs bs cs).map fun x => k * x := by
  have e : totF rs (mulC k bs) = fun m => k * totF rs bs m := by
    funext m
    rw [totF_sum, totF_sum]
    exact sumI_mul (fun n => (((anc rs n).count m : Nat) : Int)) k bs
  rw [ent_gr, ent_gr, e, gr_mul hk, List.map_map]
  unfold mulC
  rw [List.map_map]
  rfl
/-! ### sums of all -/
theorem sumS_list (f : Str → Int) : ∀ l : List Str, sumS f l = (l.map f).sum
  | [] => rfl
  | c :: r => by rw [List.map_cons, List.sum_cons, ← sumS_list f r]; rfl
theorem chl_none {rs : List FRow} (g : Good rs) : chl rs none = (rs.filter fun r => decide (r.2 = none)).map (·.1) := by
  unfold chl fNames
  rw [List.filter_map]
  congr 1
  refine List.filter_congr fun r hr => ?_
  obtain ⟨i, hi⟩ := List.mem_iff_getElem?.mp hr
  show decide (parOf rs r.1 = none) = _
  rw [par_at g hi]
theorem ent_le {rs : List FRow} (g : Good rs) {bs cs : List (Str × Int)} (hb : ∀ p ∈ bs, 0 ≤ p.2) (hc : ∀ c ∈ cs, c.1 ∈ fNames rs ∧ 0 ≤ c.2) :
    (entF rs bs cs).sum ≤ ((rs.filter fun r => decide (r.2 = none)).map fun r => totF rs bs r.1).sum := by
  rw [ent_gr, gr_sum, ← wO_none rs, sum_split g none fun p hp => (gr_pos g (tot_nn hb) hc p hp).1]
  have zero : ∀ l : List (Str × Int), sumI (oO none) l = 0 := by
    intro l
    induction l with
    | nil => rfl
    | cons c r ih =>
      show (0 : Int) * c.2 + _ = 0
      rw [ih]; omega
  rw [zero, Int.zero_add]
  have : sumS (fun u => sumI (wgt rs u) (grF rs (totF rs bs) cs)) (chl rs none) ≤ sumS (totF rs bs) (chl rs none) := sumS_le fun u _ => by
    have := gr_feas g (t := totF rs bs) (fun m => tot_nn hb m) hc (grF rs (totF rs bs) cs).length u
    rwa [List.take_length] at this
  rw [chl_none g, sumS_list (totF rs bs), List.map_map] at this
  rw [chl_none g]
  exact this
end Lw

set_option Elab.async false
set_option linter.all false
set_option maxRecDepth 100000
set_option maxHeartbeats 4000000
namespace Lw
open L2 hiding Ext
open PySem PySem.Spec PyProof.Rows Gn Gr Gk Go Gt Gf Gu
/-! ### other names -/
section
variable {f : Str → Str}
def renR (f : Str → Str) (rs : List FRow) : List FRow := rs.map fun r => (f r.1, r.2.map f)
def renC (f : Str → Str) (cs : List (Str × Int)) : List (Str × Int) := cs.map fun c => (f c.1, c.2)
theorem ren_names (rs : List FRow) : fNames (renR f rs) = (fNames rs).map f := by
  unfold renR fNames
  rw [List.map_map, List.map_map]
  rfl
variable {rs : List FRow} (hi : ∀ a ∈ fNames rs, ∀ b ∈ fNames rs, f a = f b → a = b)
theorem ren_goodF (ho : ∀ a ∈ fNames rs, nameOk (f a) = true) (g : Good rs) : ∀ {ds : List FRow} {E : List Str}, GoodF E ds → (∀ r ∈ ds, r.1 ∈ fNames rs) → (∀ a ∈ E, a ∈ fNames rs) → (∀ a ∈ fNames rs, ∀ b ∈ fNames rs, f a = f b → a = b) → GoodF (E.map f) (renR f ds)
  | [], _, _, _, _, _ => trivial
  | r :: ds, E, h, hd, hE, hi => by
    have rn := hd r (List.mem_cons_self ..)
    refine ⟨⟨ho _ rn, fun hm => ?_, fun m hm => ?_⟩, ?_⟩
    · obtain ⟨a, ha, e⟩ := List.mem_map.mp hm
      have := hi a (hE a ha) r.1 rn e
      exact h.1.2.1 (this ▸ ha)
    · obtain ⟨m', e, rfl⟩ := Option.map_eq_some_iff.mp hm
      exact List.mem_map.mpr ⟨m', h.1.2.2 m' e, rfl⟩
    · have := ren_goodF ho g (ds := ds) (E := E ++ [r.1]) h.2 (fun x hx => hd x (List.mem_cons_of_mem _ hx)) (fun a ha => by
        rcases List.mem_append.mp ha with ha | ha
        · exact hE a ha
        · rw [List.mem_singleton.mp ha]; exact rn) hi
      rw [List.map_append] at this
      exact this
include hi in
theorem ren_good (g : Good rs) (ho : ∀ a ∈ fNames rs, nameOk (f a) = true) : Good (renR f rs) := by
  refine ⟨?_, ?_, ?_⟩
  · unfold renR; rw [List.length_map]; exact g.1
  · unfold renR; rw [List.length_map]; exact g.2.1
  · exact ren_goodF ho g (E := []) g.2.2 (fun r hr => List.mem_map.mpr ⟨r, hr, rfl⟩) (fun a ha => by cases ha) hi
include hi in
theorem ren_anc (g : Good rs) (g' : Good (renR f rs)) : ∀ (n i : Nat) (r : FRow), i < n → rs[i]? = some r → anc (renR f rs) (f r.1) = (anc rs r.1).map f
  | 0, _, _, h, _ => by omega
  | n + 1, i, r, hn, h => by
    have h' : (renR f rs)[i]? = some (f r.1, r.2.map f) := by unfold renR; rw [List.getElem?_map, h]; rfl
    cases e : r.2 with
    | none =>
      have a := anc_root g' h' (by rw [e]; rfl)
      rw [anc_root g h e]
      exact a
    | some p =>
      obtain ⟨j, r', hj, hr, rfl, ea⟩ := anc_step g h e
      obtain ⟨j2, r2, _, _, _, ea'⟩ := anc_step g' h' (p := f r'.1) (by rw [e]; rfl)
      rw [ea, ea', ren_anc g g' n j r' (by omega) hr]
      rfl
include hi in
theorem cnt_ren {m : Str} (hm : m ∈ fNames rs) : ∀ {l : List Str}, (∀ a ∈ l, a ∈ fNames rs) → (l.map f).count (f m) = l.count m
  | [], _ => rfl
  | a :: l, h => by
    have ih := cnt_ren hm (l := l) fun x hx => h x (List.mem_cons_of_mem _ hx)
    rw [List.map_cons]
    by_cases e : a = m
    · subst e
      rw [List.count_cons_self, List.count_cons_self, ih]
    · rw [List.count_cons_of_ne e, List.count_cons_of_ne (fun k => e (hi a (h a (List.mem_cons_self ..)) m hm k)), ih]
include hi in
theorem ren_cnt (g : Good rs) (g' : Good (renR f rs)) {a m : Str} (ha : a ∈ fNames rs) (hm : m ∈ fNames rs) : (anc (renR f rs) (f a)).count (f m) = (anc rs a).count m := by
  obtain ⟨i, r, hr, rfl⟩ := row_of ha
  rw [ren_anc hi g g' _ i r (Nat.lt_succ_self _) hr]
  exact cnt_ren hi hm fun x hx => anc_mem g ha hx
include hi in
theorem ren_sum (g : Good rs) (g' : Good (renR f rs)) {m : Str} (hm : m ∈ fNames rs) : ∀ {bs : List (Str × Int)}, (∀ p ∈ bs, p.1 ∈ fNames rs) → sumI (wgt (renR f rs) (f m)) (renC f bs) = sumI (wgt rs m) bs
  | [], _ => rfl
  | p :: r, h => by
    show wgt (renR f rs) (f m) (f p.1, p.2) + sumI _ (renC f r) = wgt rs m p + sumI _ r
    rw [ren_sum g g' hm fun x hx => h x (List.mem_cons_of_mem _ hx)]
    unfold wgt
    rw [ren_cnt hi g g' (h p (List.mem_cons_self ..)) hm]
include hi in
theorem ren_gr (g : Good rs) (g' : Good (renR f rs)) : ∀ {cs : List (Str × Int)} {t t' : Str → Int}, (∀ c ∈ cs, c.1 ∈ fNames rs) → (∀ m ∈ fNames rs, t' (f m) = t m) → (grF (renR f rs) t' (renC f cs)).map (·.2) = (grF rs t cs).map (·.2)
  | [], _, _, _, _ => rfl
  | c :: r, t, t', hc, ht => by
    have hcn := hc c (List.mem_cons_self ..)
    obtain ⟨i, q, hq, e⟩ := row_of hcn
    have ea : anc (renR f rs) (f c.1) = (anc rs c.1).map f := by rw [← e]; exact ren_anc hi g g' _ i q (Nat.lt_succ_self _) hq
    have em : (anc (renR f rs) (f c.1)).map t' = (anc rs c.1).map t := by
      rw [ea, List.map_map]
      exact List.map_congr_left fun m hm => ht m (anc_mem g hcn hm)
    show minL c.2 ((anc (renR f rs) (f c.1)).map t') :: (grF (renR f rs) (addL t' (anc (renR f rs) (f c.1)) (-minL c.2 ((anc (renR f rs) (f c.1)).map t'))) (renC f r)).map (·.2) = minL c.2 ((anc rs c.1).map t) :: (grF rs (addL t (anc rs c.1) (-minL c.2 ((anc rs c.1).map t))) r).map (·.2)
    rw [em]
    congr 1
    refine ren_gr g g' (fun x hx => hc x (List.mem_cons_of_mem _ hx)) fun m hm => ?_
    rw [addL_at, addL_at, ren_cnt hi g g' hcn hm, ht m hm]
include hi in
theorem ent_ren (g : Good rs) (g' : Good (renR f rs)) {bs cs : List (Str × Int)} (hb : ∀ p ∈ bs, p.1 ∈ fNames rs) (hc : ∀ c ∈ cs, c.1 ∈ fNames rs) : entF (renR f rs) (renC f bs) (renC f cs) = entF rs bs cs := by
  rw [ent_gr, ent_gr]
  refine ren_gr hi g g' hc fun m hm => ?_
  rw [totF_sum, totF_sum]
  exact ren_sum hi g g' hm hb
end
/-! ### a balance moved outwards -/
section
variable {rs : List FRow} (g : Good rs) {n : Str}
/-- nowhere else do they differ -/
def SameBut (n : Str) (t t' : Str → Int) : Prop := (∀ m, m ≠ n → t' m = t m) ∧ t' n ≤ t n
theorem same_out {t t' : Str → Int} (h : SameBut n t t') {a : Str} (ho : n ∉ anc rs a) : (anc rs a).map t' = (anc rs a).map t := List.map_congr_left fun m hm => h.1 m fun e => ho (e ▸ hm)
theorem same_add {t t' : Str → Int} (h : SameBut n t t') (l : List Str) (z : Int) : SameBut n (addL t l z) (addL t' l z) := by
  refine ⟨fun m hm => ?_, ?_⟩
  · rw [addL_at, addL_at, h.1 m hm]
  · rw [addL_at, addL_at]
    have := h.2
    omega
theorem same_le {t t' : Str → Int} (h : SameBut n t t') (m : Str) : t' m ≤ t m := by
  by_cases e : m = n
  · rw [e]; exact h.2
  · rw [h.1 m e]; exact Int.le_refl _
theorem minL_mono : ∀ {l : List Str} {t t' : Str → Int} {c : Int}, (∀ m, t' m ≤ t m) → minL c (l.map t') ≤ minL c (l.map t)
  | [], _, _, _, _ => Int.le_refl _
  | m :: l, t, t', c, h => by
    have h1 := minL_le ((m :: l).map t') c
    rcases minL_mem ((m :: l).map t) c with e | e
    · rw [e]; exact h1.1
    · obtain ⟨x, hx, e⟩ := List.mem_map.mp e
      rw [← e]
      exact Int.le_trans (h1.2 _ (List.mem_map.mpr ⟨x, hx, rfl⟩)) (h x)
include g in
/-- once it is used up nothing inside it is granted -/
theorem in_none : ∀ {cs : List (Str × Int)} {t : Str → Int}, (∀ m, 0 ≤ t m) → t n = 0 → (∀ c ∈ cs, c.1 ∈ fNames rs ∧ 0 ≤ c.2) → ∀ (k : Nat) c p, cs[k]? = some c → (grF rs t cs)[k]? = some p → n ∈ anc rs c.1 → p.2 ≤ 0
  | [], _, _, _, _, _, _, _, h, _, _ => by cases h
  | c0 :: r, t, ht, hz, hc, k, c, p, hk, hp, hn => by
    have hc0 := hc c0 (List.mem_cons_self ..)
    have x0 := min_nn (rs := rs) (a := c0.1) (c := c0.2) ht hc0.2
    cases k with
    | zero =>
      cases hk
      cases hp
      show minL c0.2 ((anc rs c0.1).map t) ≤ 0
      rw [← hz]
      exact min_le1 hn
    | succ k =>
      refine in_none (cs := r) (t := addL t (anc rs c0.1) (-minL c0.2 ((anc rs c0.1).map t))) (step_nn g hc0.1 ht) ?_ (fun x hx => hc x (List.mem_cons_of_mem _ hx)) k c p hk hp hn
      rw [addA g hc0.1]
      by_cases h : n ∈ anc rs c0.1
      · rw [if_pos h]
        have := min_le1 (c := c0.2) (t := t) h
        omega
      · rw [if_neg h]
        omega
include g in
theorem in_le : ∀ {cs : List (Str × Int)} {t t' : Str → Int}, (∀ m, 0 ≤ t m) → (∀ m, 0 ≤ t' m) → SameBut n t t' → (∀ c ∈ cs, c.1 ∈ fNames rs ∧ 0 ≤ c.2) → ∀ (k : Nat) c p p', cs[k]? = some c → (grF rs t cs)[k]? = some p → (grF rs t' cs)[k]? = some p' → n ∈ anc rs c.1 → p'.2 ≤ p.2
  | [], _, _, _, _, _, _, _, _, _, _, h, _, _, _ => by cases h
  | c0 :: r, t, t', ht, ht', hs, hc, k, c, p, p', hk, hp, hp', hn => by
    have hc0 := hc c0 (List.mem_cons_self ..)
    have hcr : ∀ c ∈ r, c.1 ∈ fNames rs ∧ 0 ≤ c.2 := fun x hx => hc x (List.mem_cons_of_mem _ hx)
    have x0 := min_nn (rs := rs) (a := c0.1) (c := c0.2) ht hc0.2
    have lem := minL_mono (l := anc rs c0.1) (c := c0.2) (same_le hs)
    cases k with
    | zero =>
      cases hk
      cases hp
      cases hp'
      exact lem
    | succ k =>
      have hk : r[k]? = some c := hk
      have hp : (grF rs (addL t (anc rs c0.1) (-minL c0.2 ((anc rs c0.1).map t))) r)[k]? = some p := hp
      have hp' : (grF rs (addL t' (anc rs c0.1) (-minL c0.2 ((anc rs c0.1).map t'))) r)[k]? = some p' := hp'
      have nn := step_nn g hc0.1 (c := c0.2) ht
      have nn' := step_nn g hc0.1 (c := c0.2) ht'
      by_cases e : minL c0.2 ((anc rs c0.1).map t') = minL c0.2 ((anc rs c0.1).map t)
      · rw [e] at hp' nn'
        exact in_le (cs := r) nn nn' (same_add hs _ _) hcr k c p p' hk hp hp' hn
      · -- the account is used up
        have used : n ∈ anc rs c0.1 ∧ minL c0.2 ((anc rs c0.1).map t') = t' n := by
          have h1 := minL_le ((anc rs c0.1).map t) c0.2
          rcases minL_mem ((anc rs c0.1).map t') c0.2 with h | h
          · omega
          · obtain ⟨x, hx, h⟩ := List.mem_map.mp h
            by_cases ex : x = n
            · subst ex
              exact ⟨hx, h.symm⟩
            · have := h1.2 _ (List.mem_map.mpr ⟨x, hx, rfl⟩)
              rw [hs.1 x ex] at h
              omega
        have z := in_none g (n := n) (cs := r) nn' (by rw [addA g hc0.1, if_pos used.1, used.2]; omega) hcr k c p' hk hp' hn
        obtain ⟨c', h1, h2⟩ := gr_of hp
        have pos := gr_pos g nn hcr p (List.mem_of_getElem? hp)
        omega
/-- claims inside it capped at what they got -/
def capC (rs : List FRow) (n : Str) : (Str → Int) → List (Str × Int) → List (Str × Int)
  | _, [] => []
  | t, c :: r => (if n ∈ anc rs c.1 then (c.1, minL c.2 ((anc rs c.1).map t)) else c) :: capC rs n (addL t (anc rs c.1) (-minL c.2 ((anc rs c.1).map t))) r
theorem cap_len : ∀ (cs : List (Str × Int)) (t : Str → Int), (capC rs n t cs).length = cs.length
  | [], _ => rfl
  | c :: r, t => by
    show (capC rs n _ r).length + 1 = r.length + 1
    rw [cap_len r]
theorem cap_at : ∀ {cs : List (Str × Int)} {t : Str → Int} {k : Nat} {c c' : Str × Int}, cs[k]? = some c → (capC rs n t cs)[k]? = some c' → c'.1 = c.1 ∧ c'.2 ≤ c.2 ∧ (n ∉ anc rs c.1 → c' = c)
  | [], _, _, _, _, h, _ => by cases h
  | c0 :: r, t, 0, c, c', h, h' => by
    cases h
    cases h'
    by_cases e : n ∈ anc rs c0.1
    · rw [if_pos e]
      exact ⟨rfl, (minL_le _ _).1, fun h => absurd e h⟩
    · rw [if_neg e]
      exact ⟨rfl, Int.le_refl _, fun _ => rfl⟩
  | c0 :: r, t, k + 1, c, c', h, h' => cap_at (cs := r) (by simpa using h) h'
include g in
theorem cap_ok : ∀ {cs : List (Str × Int)} {t : Str → Int}, (∀ m, 0 ≤ t m) → (∀ c ∈ cs, c.1 ∈ fNames rs ∧ 0 ≤ c.2) → ∀ c ∈ capC rs n t cs, c.1 ∈ fNames rs ∧ 0 ≤ c.2
  | [], _, _, _, c, h => by cases h
  | c0 :: r, t, ht, hc, c, h => by
    have hc0 := hc c0 (List.mem_cons_self ..)
    rcases List.mem_cons.mp h with rfl | h
    · by_cases e : n ∈ anc rs c0.1
      · rw [if_pos e]
        exact ⟨hc0.1, min_nn ht hc0.2⟩
      · rw [if_neg e]
        exact hc0
    · exact cap_ok (cs := r) (step_nn g hc0.1 ht) (fun x hx => hc x (List.mem_cons_of_mem _ hx)) c h
theorem cap_gr : ∀ {cs : List (Str × Int)} {t t' : Str → Int}, SameBut n t t' → grF rs t (capC rs n t' cs) = grF rs t' cs
  | [], _, _, _ => rfl
  | c :: r, t, t', hs => by
    by_cases e : n ∈ anc rs c.1
    · have ee : minL (minL c.2 ((anc rs c.1).map t')) ((anc rs c.1).map t) = minL c.2 ((anc rs c.1).map t') := by
        have h1 := minL_le ((anc rs c.1).map t') c.2
        have h2 := minL_le ((anc rs c.1).map t) (minL c.2 ((anc rs c.1).map t'))
        rcases minL_mem ((anc rs c.1).map t) (minL c.2 ((anc rs c.1).map t')) with h | h
        · exact h
        · obtain ⟨x, hx, h⟩ := List.mem_map.mp h
          have := h1.2 _ (List.mem_map.mpr ⟨x, hx, rfl⟩)
          have := same_le hs x
          omega
      show grF rs t ((if n ∈ anc rs c.1 then (c.1, minL c.2 ((anc rs c.1).map t')) else c) :: capC rs n _ r) = (c.1, minL c.2 ((anc rs c.1).map t')) :: grF rs _ r
      rw [if_pos e]
      show (c.1, minL (minL c.2 ((anc rs c.1).map t')) ((anc rs c.1).map t)) :: grF rs (addL t (anc rs c.1) (-minL (minL c.2 ((anc rs c.1).map t')) ((anc rs c.1).map t))) (capC rs n _ r) = _
      rw [ee, cap_gr (same_add hs _ _)]
    · have em := same_out hs e
      show grF rs t ((if n ∈ anc rs c.1 then (c.1, minL c.2 ((anc rs c.1).map t')) else c) :: capC rs n _ r) = (c.1, minL c.2 ((anc rs c.1).map t')) :: grF rs _ r
      rw [if_neg e]
      show (c.1, minL c.2 ((anc rs c.1).map t)) :: grF rs (addL t (anc rs c.1) (-minL c.2 ((anc rs c.1).map t))) (capC rs n _ r) = _
      rw [em, cap_gr (same_add hs _ _)]
theorem out_same : ∀ {cs : List (Str × Int)} {t t' : Str → Int}, SameBut n t t' → (∀ c ∈ cs, n ∉ anc rs c.1) → grF rs t' cs = grF rs t cs
  | [], _, _, _, _ => rfl
  | c :: r, t, t', hs, h => by
    show (c.1, minL c.2 ((anc rs c.1).map t')) :: grF rs (addL t' (anc rs c.1) (-minL c.2 ((anc rs c.1).map t'))) r = (c.1, minL c.2 ((anc rs c.1).map t)) :: grF rs _ r
    rw [same_out hs (h c (List.mem_cons_self ..)), out_same (same_add hs _ _) fun x hx => h x (List.mem_cons_of_mem _ hx)]
include g in
theorem out_ge {cs : List (Str × Int)} {t t' : Str → Int} (ht : ∀ m, 0 ≤ t m) (ht' : ∀ m, 0 ≤ t' m) (hs : SameBut n t t') (hc : ∀ c ∈ cs, c.1 ∈ fNames rs ∧ 0 ≤ c.2) {k : Nat} {c : Str × Int} {x y : Int} (hk : cs[k]? = some c) (hx : (grF rs t cs)[k]? = some (c.1, x)) (hy : (grF rs t' cs)[k]? = some (c.1, y)) (hn : n ∉ anc rs c.1) : x ≤ y := by
  have kl := (List.getElem?_eq_some_iff.mp hk).1
  have e := List.getElem?_eq_getElem (show k < (capC rs n t' cs).length by rw [cap_len]; exact kl)
  have ec := (cap_at hk e).2.2 hn
  rw [ec] at e
  exact ent_up (es := []) (t := t) (t' := t) (cs := cs) (cs' := capC rs n t' cs) g ht (fun p hp => by cases hp) (fun m => by show t m = t m + 0; omega) hc (cap_ok g ht' hc) (cap_len _ _) (fun i c c' h h' => ⟨(cap_at h h').1, (cap_at h h').2.1⟩) hk e hx (by rw [cap_gr hs]; exact hy)
/-- the balances with that of n moved to p -/
def movB (bs : List (Str × Int)) (n p : Str) : List (Str × Int) := putB (putB bs n 0) p (getB (putB bs n 0) p + getB bs n)
theorem sum_put2 {k : Str → Int} {bs : List (Str × Int)} {m : Str} {z : Int} (h : (bs.map (·.1)).Nodup) : sumI (fun c => k c.1 * c.2) (putB bs m z) = sumI (fun c => k c.1 * c.2) bs + k m * (z - getB bs m) := by
  have := sum_put (k := k) (bs := bs) (c := (m, z - getB bs m)) h
  unfold growS at this
  rw [show getB bs (m, z - getB bs m).1 + (m, z - getB bs m).2 = z by show getB bs m + (z - getB bs m) = z; omega] at this
  exact this
include g in
theorem mov_same {bs : List (Str × Int)} (hN : BsN rs bs) (hb : 0 ≤ getB bs n) {p : Str} (hn : n ∈ fNames rs) (ha : anc rs n = n :: anc rs p) : SameBut n (totF rs bs) (totF rs (movB bs n p)) := by
  have N1 : BsN rs (putB bs n 0) := putB_n hN hn
  have e : ∀ m, totF rs (movB bs n p) m = totF rs bs m - if m = n then getB bs n else 0 := by
    intro m
    rw [totF_sum, totF_sum]
    have s1 := sum_put2 (k := fun a => (((anc rs a).count m : Nat) : Int)) (m := n) (z := 0) hN.1
    have s2 := sum_put2 (k := fun a => (((anc rs a).count m : Nat) : Int)) (bs := putB bs n 0) (m := p) (z := getB (putB bs n 0) p + getB bs n) N1.1
    have s3 : (((anc rs n).count m : Nat) : Int) = (if m = n then 1 else 0) + (((anc rs p).count m : Nat) : Int) := by rw [ha, cnt_cons]
    show sumI (fun c => (((anc rs c.1).count m : Nat) : Int) * c.2) (movB bs n p) = sumI (fun c => (((anc rs c.1).count m : Nat) : Int) * c.2) bs - _
    unfold movB
    rw [s2, s1]
    show _ + (((anc rs n).count m : Nat) : Int) * (0 - getB bs n) + (((anc rs p).count m : Nat) : Int) * (getB (putB bs n 0) p + getB bs n - getB (putB bs n 0) p) = _
    rw [s3, show getB (putB bs n 0) p + getB bs n - getB (putB bs n 0) p = getB bs n by omega, Int.add_mul, show (0 - getB bs n) = -getB bs n by omega, Int.mul_neg, Int.mul_neg]
    split <;> omega
  refine ⟨fun m hm => ?_, ?_⟩
  · rw [e, if_neg hm]; omega
  · rw [e, if_pos rfl]; omega
end
end Lw

set_option Elab.async false
set_option linter.all false
set_option maxRecDepth 100000
set_option maxHeartbeats 4000000
/-! list.remove where items are data -/
namespace Gb
open L2
open PySem PySem.Spec PyProof.Rows
section
variable {X : Cx}
def rRemD (K : PySem.W.Frag) : V → List V → Hp → VK → Prop := fun x xs H Q => ∃ (l : Addr) (vs : List V) (y : V) (d : PyData) (ds : List PyData) (j : Nat), x = .ref l ∧ xs = [y] ∧ H l = some (.lst vs) ∧ DpAll K H vs ds ∧ Dp K H y d ∧
  PyData.plainAll ds = true ∧ d.plain = true ∧ d.depth ≤ 60 ∧ SeqAt.dataPlace ds d = some j ∧ Q .non (upd H l (.lst (vs.eraseIdx j)))
theorem mt_removeD (hu : X.A.units + 65 < cLine) : MtM X "list.remove" (rRemD X.K) := by
  intro pins s σ H x xs v us Q I rx rxs h
  obtain ⟨l, vs, y, d, ds, j, rfl, rfl, hH, ha, hy, p1, p2, p3, hp, q⟩ := h
  cases rx
  obtain ⟨u, rfl, ru⟩ := rxs.one
  obtain ⟨z, its, n, r, hl, e⟩ := I.lstM hH
  obtain ⟨as, r1⟩ := Dp.readsAll I ds vs its ha r
  obtain ⟨bs, r2⟩ := Dp.reads I d y u hy ru
  refine SeqAt.remove_list_data (vs := its.toArray) (xs := ds) (d := d) (j := j) ⟨_, e, rfl, n, rfl⟩ (show ReadsAll s.heap its.toArray.toList ds as from r1) r2 p1 p2 ?_ hp (by rw [List.size_toArray]; omega) ?_
  · have : min (PyData.depthAll ds) d.depth ≤ d.depth := Nat.min_le_right ..
    omega
  refine ⟨.non, _, I.lset (its' := its.eraseIdx j) (t' := s.toks) hH e ?_ (r.eraseIdx j) ?_, rfl, q⟩
  · show its.toArray.eraseIdxIfInBounds j = (its.eraseIdx j).toArray
    rw [List.eraseIdxIfInBounds_toArray]
  · have := len_erase vs j
    omega
end
end Gb

set_option Elab.async false
set_option linter.all false
set_option maxRecDepth 100000
set_option maxHeartbeats 4000000
namespace Lw
open L2 hiding Ext
open PySem PySem.Spec PyProof.Rows Gn Gr Gk Go Gt Gf Gu
/-! ### _law_order, of pairs -/
abbrev Pr : Type := Addr × Str × Int
def pv_ (z : Pr) : V := .ref z.1
def pd_ (z : Pr) : PyData := iD z.2
def POk (H : Hp) (z : Pr) : Prop := H z.1 = some (.tup [.str z.2.1, .int z.2.2]) ∧ PyData.strOk z.2.1 = true
theorem pr_of {H : Hp} {xs : List V} {cs : List (Str × Int)} (h : CsAt H xs cs) (ho : ∀ c ∈ cs, PyData.strOk c.1 = true) : ∃ zs : List Pr, xs = zs.map pv_ ∧ cs = zs.map (fun z => z.2) ∧ ∀ z ∈ zs, POk H z := by
  induction cs generalizing xs with
  | nil =>
    have e : xs = [] := List.length_eq_zero_iff.mp h.1
    exact ⟨[], e, rfl, fun z hz => by cases hz⟩
  | cons c r ih =>
    cases xs with
    | nil => have := h.1; simp at this
    | cons x xr =>
      obtain ⟨p, h1, h2⟩ := h.2 0 c rfl
      have h1 : some x = some (V.ref p) := h1
      cases h1
      obtain ⟨zs, e1, e2, e3⟩ := ih (xs := xr) ⟨by have := h.1; simpa using this, fun i c' hc => h.2 (i + 1) c' (by simpa using hc)⟩ (fun c' hc' => ho c' (List.mem_cons_of_mem _ hc'))
      refine ⟨(p, c) :: zs, by rw [e1]; rfl, by rw [e2]; rfl, fun z hz => ?_⟩
      rcases List.mem_cons.mp hz with rfl | hz
      · exact ⟨h2, ho _ (List.mem_cons_self ..)⟩
      · exact e3 z hz
theorem cs_of_pr {H : Hp} {zs : List Pr} (h : ∀ z ∈ zs, POk H z) : CsAt H (zs.map pv_) (zs.map fun z => z.2) := by
  refine ⟨by rw [List.length_map, List.length_map], fun i c hc => ?_⟩
  rw [List.getElem?_map] at hc
  obtain ⟨z, hz, rfl⟩ := Option.map_eq_some_iff.mp hc
  exact ⟨z.1, by rw [List.getElem?_map, hz]; rfl, (h z (List.mem_of_getElem? hz)).1⟩
theorem dp_prs {K : PySem.W.Frag} {H : Hp} : ∀ {zs : List Pr}, (∀ z ∈ zs, POk H z) → DpAll K H (zs.map pv_) (zs.map pd_)
  | [], _ => .nil
  | z :: r, h => .cons (.tup (SqT.of (h z (List.mem_cons_self ..)).1) (.cons (.str _) (.cons (.int _) .nil))) (dp_prs fun y hy => h y (List.mem_cons_of_mem _ hy))
theorem lay_all {n : Nat} : ∀ {ds : List PyData}, (∀ x ∈ ds, x.canLay0 = true ∧ x.depth ≤ n) → PyData.canLayAll0 ds = true ∧ PyData.depthAll ds ≤ n
  | [], _ => by constructor <;> simp [PyData.canLayAll0, PyData.depthAll]
  | x :: r, h => by
    obtain ⟨a1, a2⟩ := h x (List.mem_cons_self ..)
    obtain ⟨b1, b2⟩ := lay_all (n := n) (ds := r) fun y hy => h y (List.mem_cons_of_mem _ hy)
    constructor
    · simp [PyData.canLayAll0, a1, b1]
    · simp only [PyData.depthAll]; omega
theorem shaped_lay {n : Nat} {ds : List PyData} (h : ∀ x ∈ ds, x.canLay0 = true ∧ x.depth ≤ n) (hn : n ≤ 10) : SeqAt.shaped (.list ds) = true := by
  obtain ⟨b1, b2⟩ := lay_all h
  have e : PyData.depth (.list ds) = PyData.depthAll ds + 1 := by simp only [PyData.depth]
  unfold SeqAt.shaped
  rw [e]
  simp only [PyData.canLay0, b1, Bool.true_and, decide_eq_true_eq]
  omega
theorem shaped_prs {H : Hp} {zs : List Pr} (h : ∀ z ∈ zs, POk H z) : SeqAt.shaped (.list (zs.map pd_)) = true := shaped_lay (n := 2) (fun x hx => by
  obtain ⟨z, hz, rfl⟩ := List.mem_map.mp hx
  exact iD_lay (h z hz).2) (by omega)
theorem POk.ext {H H' : Hp} {z : Pr} (h : POk H z) (k : Ext H H') : POk H' z := ⟨k _ _ h.1, h.2⟩
theorem POk.kp {H H' : Hp} {z : Pr} {ns : List Int} {d g c : Addr} {b : Nat} (h : POk H z) (D : Dw ns d g c b H) (k : Kp d g H H') : POk H' z := by
  obtain ⟨⟨gs, l, t, hd, hg, _, _⟩, _⟩ := D
  exact ⟨k _ _ (ne_of h.1 hd (by intro z; cases z)) (ne_of h.1 hg (by intro z; cases z)) h.1, h.2⟩
theorem POk.put {H : Hp} {z : Pr} {a : Addr} {u u' : List V} (h : POk H z) (ha : H a = some (.lst u)) : POk (upd H a (.lst u')) z :=
  ⟨by rw [upd_ne (ne_of h.1 ha (by intro z; cases z))]; exact h.1, h.2⟩
/-! ### rows, with their addresses -/
abbrev Rw : Type := Addr × FRow
def parD : Option Str → PyData
  | none => .none
  | some m => .str m
def rowD (r : FRow) : PyData := .tuple [.str r.1, parD r.2]
def rv_ (z : Rw) : V := .ref z.1
def rd_ (z : Rw) : PyData := rowD z.2
def ROk (H : Hp) (z : Rw) : Prop := H z.1 = some (.tup [.str z.2.1, parV z.2.2]) ∧ PyData.strOk z.2.1 = true ∧ ∀ m, z.2.2 = some m → PyData.strOk m = true
theorem dp_par {K : PySem.W.Frag} {H : Hp} : ∀ p : Option Str, Dp K H (parV p) (parD p)
  | none => .non
  | some m => .str m
theorem dp_rws {K : PySem.W.Frag} {H : Hp} : ∀ {zs : List Rw}, (∀ z ∈ zs, ROk H z) → DpAll K H (zs.map rv_) (zs.map rd_)
  | [], _ => .nil
  | z :: r, h => .cons (.tup (SqT.of (h z (List.mem_cons_self ..)).1) (.cons (.str _) (.cons (dp_par _) .nil))) (dp_rws fun y hy => h y (List.mem_cons_of_mem _ hy))
theorem row_lay {r : FRow} (h : PyData.strOk r.1 = true) (k : ∀ m, r.2 = some m → PyData.strOk m = true) : (rowD r).canLay0 = true ∧ (rowD r).depth ≤ 2 := by
  obtain ⟨n, p⟩ := r
  cases p with
  | none => exact ⟨by simp [rowD, parD, PyData.canLay0, PyData.canLayAll0, show PyData.strOk n = true from h], by simp only [rowD, parD, PyData.depth, PyData.depthAll]; omega⟩
  | some m => exact ⟨by simp [rowD, parD, PyData.canLay0, PyData.canLayAll0, show PyData.strOk n = true from h, show PyData.strOk m = true from k m rfl], by simp only [rowD, parD, PyData.depth, PyData.depthAll]; omega⟩
theorem shaped_rws {H : Hp} {zs : List Rw} (h : ∀ z ∈ zs, ROk H z) : SeqAt.shaped (.list (zs.map rd_)) = true := shaped_lay (n := 2) (fun x hx => by
  obtain ⟨z, hz, rfl⟩ := List.mem_map.mp hx
  exact row_lay (h z hz).2.1 (h z hz).2.2) (by omega)
theorem ROk.ext {H H' : Hp} {z : Rw} (h : ROk H z) (k : Ext H H') : ROk H' z := ⟨k _ _ h.1, h.2⟩
theorem ROk.kp {H H' : Hp} {z : Rw} {ns : List Int} {d g c : Addr} {b : Nat} (h : ROk H z) (D : Dw ns d g c b H) (k : Kp d g H H') : ROk H' z := by
  obtain ⟨⟨gs, l, t, hd, hg, _, _⟩, _⟩ := D
  exact ⟨k _ _ (ne_of h.1 hd (by intro z; cases z)) (ne_of h.1 hg (by intro z; cases z)) h.1, h.2⟩
theorem ROk.put {H : Hp} {z : Rw} {a : Addr} {u u' : List V} (h : ROk H z) (ha : H a = some (.lst u)) : ROk (upd H a (.lst u')) z :=
  ⟨by rw [upd_ne (ne_of h.1 ha (by intro z; cases z))]; exact h.1, h.2⟩
theorem rw_of {H : Hp} {xs : List V} {rs : List FRow} (h : RowsAt H xs rs) (ho : ∀ r ∈ rs, PyData.strOk r.1 = true ∧ ∀ m, r.2 = some m → PyData.strOk m = true) : ∃ zs : List Rw, xs = zs.map rv_ ∧ rs = zs.map (fun z => z.2) ∧ ∀ z ∈ zs, ROk H z := by
  induction rs generalizing xs with
  | nil =>
    have e : xs = [] := List.length_eq_zero_iff.mp h.1
    exact ⟨[], e, rfl, fun z hz => by cases hz⟩
  | cons c r ih =>
    cases xs with
    | nil => have := h.1; simp at this
    | cons x xr =>
      obtain ⟨p, h1, h2⟩ := h.2 0 c rfl
      have h1 : some x = some (V.ref p) := h1
      cases h1
      obtain ⟨zs, e1, e2, e3⟩ := ih (xs := xr) ⟨by have := h.1; simpa using this, fun i c' hc => h.2 (i + 1) c' (by simpa using hc)⟩ (fun c' hc' => ho c' (List.mem_cons_of_mem _ hc'))
      refine ⟨(p, c) :: zs, by rw [e1]; rfl, by rw [e2]; rfl, fun z hz => ?_⟩
      rcases List.mem_cons.mp hz with rfl | hz
      · exact ⟨h2, ho _ (List.mem_cons_self ..)⟩
      · exact e3 z hz
theorem rows_of_rw {H : Hp} {zs : List Rw} (h : ∀ z ∈ zs, ROk H z) : RowsAt H (zs.map rv_) (zs.map fun z => z.2) := by
  refine ⟨by rw [List.length_map, List.length_map], fun i c hc => ?_⟩
  rw [List.getElem?_map] at hc
  obtain ⟨z, hz, rfl⟩ := Option.map_eq_some_iff.mp hc
  exact ⟨z.1, by rw [List.getElem?_map, hz]; rfl, (h z (List.mem_of_getElem? hz)).1⟩
/-! ### which row may come next -/
theorem ready_row {rs ys st : List FRow} (g : GoodF [] rs) (p : (ys ++ st).Perm rs) (h : st ≠ []) : ∃ r ∈ st, r.2 = none ∨ ∃ m, r.2 = some m ∧ m ∈ fNames ys := by
  have key : ∀ (n i : Nat) (r : FRow), i < n → rs[i]? = some r → r ∈ st → ∃ r ∈ st, r.2 = none ∨ ∃ m, r.2 = some m ∧ m ∈ fNames ys := by
    intro n
    induction n with
    | zero => intro i r h; omega
    | succ n ih =>
      intro i r hi hr hm
      cases e : r.2 with
      | none => exact ⟨r, hm, .inl e⟩
      | some m =>
        obtain ⟨j, r', hj, hr', em⟩ := par_idx g hr e
        rcases List.mem_append.mp (p.mem_iff.mpr (List.mem_of_getElem? hr')) with h' | h'
        · exact ⟨r, hm, .inr ⟨m, e, List.mem_map.mpr ⟨r', h', em⟩⟩⟩
        · exact ih j r' (by omega) hr' h'
  cases st with
  | nil => exact absurd rfl h
  | cons r0 sr =>
    obtain ⟨i, hi⟩ := List.mem_iff_getElem?.mp (p.mem_iff.mp (List.mem_append.mpr (.inr (List.mem_cons_self (a := r0) (l := sr)))))
    exact key (i + 1) i r0 (Nat.lt_succ_self _) hi (List.mem_cons_self ..)
def okNext (ks : List Str) (z : Rw) : Bool := match z.2.2 with
  | none => true
  | some m => decide (m ∈ ks)
theorem eqv_row {r q : FRow} (h : PyData.eqv (rowD r) (rowD q) = true) : r = q := by
  obtain ⟨n, p⟩ := r
  obtain ⟨m, p'⟩ := q
  cases p <;> cases p' <;> simp_all [rowD, parD, PyData.eqv, PyData.eqvAll]
theorem eqv_self (r : FRow) : PyData.eqv (rowD r) (rowD r) = true := by
  obtain ⟨n, p⟩ := r
  cases p <;> simp [rowD, parD, PyData.eqv, PyData.eqvAll]
theorem place_row {st : List Rw} {x : Rw} (hx : x ∈ st) (nd : (fNames (st.map fun z => z.2)).Nodup) : ∃ j, SeqAt.dataPlace (st.map rd_) (rd_ x) = some j ∧ st[j]? = some x := by
  cases e : SeqAt.dataPlace (st.map rd_) (rd_ x) with
  | none =>
    unfold SeqAt.dataPlace at e
    have := List.findIdx?_eq_none_iff.mp e (rd_ x) (List.mem_map.mpr ⟨x, hx, rfl⟩)
    rw [show PyData.eqv (rd_ x) (rd_ x) = true from eqv_self _] at this
    cases this
  | some j =>
    unfold SeqAt.dataPlace at e
    obtain ⟨h1, h2, _⟩ := List.findIdx?_eq_some_iff_getElem.mp e
    rw [List.length_map] at h1
    rw [List.getElem_map] at h2
    have er := eqv_row h2
    refine ⟨j, rfl, ?_⟩
    obtain ⟨i, hi⟩ := List.mem_iff_getElem?.mp hx
    have a : (fNames (st.map fun z => z.2))[i]? = some x.2.1 := by unfold fNames; rw [List.getElem?_map, List.getElem?_map, hi]; rfl
    have b : (fNames (st.map fun z => z.2))[j]? = some x.2.1 := by unfold fNames; rw [List.getElem?_map, List.getElem?_map, List.getElem?_eq_getElem h1]; show some st[j].2.1 = _; rw [er]
    have il := (List.getElem?_eq_some_iff.mp a).1
    have : i = j := (List.getElem?_inj il nd).mp (a.trans b.symm)
    rw [← this]
    exact hi
section
variable {P : Program} {w : World} {K : PySem.W.Frag} {mg : Str → Option Value} {base : Heap}
def spOrderR (ns : List Int) : Sp := fun vs H Q _ => ∃ (d g c l : Addr) (b : Nat) (ws : List Rw), vs = [.ref d, .ref l] ∧ Dw ns d g c b H ∧ b ≤ 900000000 ∧ H l = some (.lst (ws.map rv_)) ∧ ws.length ≤ 100 ∧ (∀ z ∈ ws, ROk H z) ∧
  ∀ (p : Addr) (ys : List Rw) (H' : Hp), H p = none → p ≠ d → p ≠ g → H' p = some (.lst (ys.map rv_)) → ys.Perm ws → (∀ z ∈ ys, ROk H' z) → Dw ns d g c (b + 100) H' → Kp d g H H' → Q (.ref p) H'
theorem ok_orderR {f fT fP : Addr} {fd fdT fdP : FuncData} (ns : List Int) (F : Fun K "_law_order" "_law_order" sLOrder f fd) (T : Names mg) (R : Draw P w K mg base ns fT fP fdT fdP) : FnOk P w K mg base CX0 3 f fd ["_law_state", "_law_some"] (spOrderR ns) := by
  refine F.ok scOrder (fun vs H Q E h => ?_) (fun cdv A outer s H vs Q E hr h => ?_)
  · obtain ⟨d, g, c, l, b, ws, rfl, _⟩ := h
    rfl
  · obtain ⟨d, g, c, l, b, ws, rfl, D, hb, hl, hw8, hwo, k⟩ := h
    have hu := hu_of hr
    have nd := scOrder.nd
    have hr2 := hr
    refine ⟨_, pss_cons (ps_par (i := 2) (j := 3) (by rfl) nd rfl rfl (by decide) rfl rfl (pa_cons (pe_callTy call_list_of rfl T.list (by decide +kernel) (pa_cons (pv 1) pa_nil)) (pa_cons (pe_lst pa_nil) pa_nil)) (by rfl))
(pss_cons (ps_while PassesOwn.never (pt_cmpR (op_neD hr.units) (pv 2) (pe_lst pa_nil) (nomark _))
(pss_one (ps_expr (pe_bm PySem.F.plainAttrs_list PySem.F.slot_list_append PySem.F.type_list_append mt_append (pv 3) (pa_cons (pe_bm PySem.F.plainAttrs_list PySem.F.slot_list_pop PySem.F.type_list_pop mt_popAt (pv 2) (pa_cons (pe_call R.GT hr2 rfl R.mT R.kT R.bT .nil pass0 (pa_cons (pv 0) (pa_cons (pe_callB call_len_seq rfl T.len PySem.boot_len (pa_cons (pv 2) pa_nil)) pa_nil))) pa_nil)) pa_nil)))))
(pss_one (ps_ret (pv 3)))), ?_⟩
    refine ⟨_, rfl, l, _, rfl, .inl (SqL.of hl), fun q hq => ?_⟩
    have Dq := D.new (o := .lst (ws.map rv_)) hq
    refine ⟨Nat.zero_le _, fun L hL => ?_⟩
    refine ⟨_, _, rfl, ?_⟩
    have DL := Dq.new (o := .lst []) hL
    have nqd := D.nd hq
    have nqg := D.ng hq
    have nqc : q ≠ c := fun e => by rw [e, D.cl] at hq; cases hq
    have nLd := Dq.nd hL
    have nLg := Dq.ng hL
    have nLc : L ≠ c := fun e => by rw [e, Dq.cl] at hL; cases hL
    have q1 := new_same (o := .lst []) hL _ _ (upd_same (H := H) (a := q) (o := .lst (ws.map rv_)))
    have L1 : (upd (upd H q (.lst (ws.map rv_))) L (.lst [])) L = some (.lst (([] : List Rw).map rv_)) := upd_same
    have nqL : q ≠ L := fun e => by rw [← e] at hL; rw [upd_same] at hL; cases hL
    have hL0 : H L = none := none_of (Ext.new (o := .lst (ws.map rv_)) hq) hL
    have k1 : Kp d g H (upd (upd H q (.lst (ws.map rv_))) L (.lst [])) := (Kp.new hq).trans (Kp.new hL)
    have w1 : ∀ z ∈ ws, ROk (upd (upd H q (.lst (ws.map rv_))) L (.lst [])) z := fun z hz => ((hwo z hz).ext (Ext.new hq)).ext (Ext.new hL)
    generalize upd (upd H q (.lst (ws.map rv_))) L (.lst []) = H1 at DL q1 L1 k1 w1 ⊢
    refine while_by (fun σ H' => ∃ (st ys : List Rw), σ = [some (.ref d), some (.ref l), some (.ref q), some (.ref L)] ∧ H' q = some (.lst (st.map rv_)) ∧ H' L = some (.lst (ys.map rv_)) ∧ (ys ++ st).Perm ws ∧ (∀ z ∈ ws, ROk H' z) ∧ Dw ns d g c (b + ys.length) H' ∧ Kp d g H H')
      (fun _ H' => match H' q with | some (.lst xs) => xs.length | _ => 0) ⟨ws, [], rfl, q1, L1, List.Perm.refl _, w1, DL, k1⟩ ?_ ?_
    · rintro σ H2 ⟨st, ys, rfl, q2, L2, hp, w2, D2, k2⟩
      have hlen : ys.length + st.length ≤ 100 := by
        have := hp.length_eq
        rw [List.length_append] at this
        omega
      refine ⟨_, rfl, Nat.zero_le _, fun e he => ?_⟩
      have D3 := D2.new (o := .lst []) he
      have q3 := new_same (o := .lst []) he _ _ q2
      have L3 := new_same (o := .lst []) he _ _ L2
      have w3 : ∀ z ∈ ws, ROk (upd H2 e (.lst [])) z := fun z hz => (w2 z hz).ext (Ext.new he)
      have hso : ∀ z ∈ st, ROk (upd H2 e (.lst [])) z := fun z hz => w3 z (hp.mem_iff.mp (List.mem_append.mpr (.inr hz)))
      have k3 : Kp d g H (upd H2 e (.lst [])) := k2.trans (Kp.new he)
      refine ⟨_, _, .lst (SqL.of q3) (dp_rws hso), .lst (SqL.of upd_same) .nil, shaped_rws hso, shaped_nil, _, rfl, ?_⟩
      rw [eqv_nil]
      have mq : (match H2 q with | some (.lst xs) => xs.length | _ => 0) = st.length := by rw [q2]; exact List.length_map ..
      generalize upd H2 e (.lst []) = H3 at D3 q3 L3 k3 w3 hso ⊢
      cases st with
      | nil =>
        refine iteF ?_
        rw [List.append_nil] at hp
        exact ⟨_, rfl, k L ys H3 hL0 nLd nLg L3 hp (fun z hz => w3 z (hp.mem_iff.mp hz)) (D3.mono (by omega)) k3⟩
      | cons s0 sr =>
        refine iteT ?_
        rw [List.length_cons] at hlen
        refine ⟨_, rfl, .inl ⟨rfl, _, SqL.of L3⟩, _, rfl, .inl ⟨rfl, _, SqL.of q3⟩, _, rfl, _, rfl, q, _, rfl, .inl (SqL.of q3), d, g, c, _, _, rfl, D3, by omega, by rw [List.length_map, List.length_cons]; omega, by rw [List.length_map, List.length_cons]; omega, fun r H4 r0 r1 D4 k4 => ?_⟩
        rw [List.length_map, List.length_cons] at r1
        have q4 := k4 _ _ nqd nqg q3
        have L4 := k4 _ _ nLd nLg L3
        have w4 : ∀ z ∈ ws, ROk H4 z := fun z hz => (w3 z hz).kp D3 k4
        have hri : r.toNat < (s0 :: sr).length := by rw [List.length_cons]; omega
        have hx := List.getElem?_eq_getElem hri
        generalize hxv : (s0 :: sr)[r.toNat] = x at hx
        refine ⟨q, _, r, r.toNat, rv_ x, rfl, rfl, q4, by omega, by omega, ?_, ?_, ?_⟩
        · rw [List.length_map]
          exact ix_pos r0 (by rw [List.length_cons]; omega)
        · rw [List.getElem?_map, hx]; rfl
        have L5 : (upd H4 q (.lst ((((s0 :: sr).map rv_).eraseIdx r.toNat)))) L = some (.lst (ys.map rv_)) := by rw [upd_ne nqL.symm]; exact L4
        refine ⟨L, _, _, rfl, rfl, L5, small1000 (by rw [List.length_map]; omega), ?_⟩
        have D5 := (D4.put (o := .lst ((((s0 :: sr).map rv_).eraseIdx r.toNat))) q4 nqd nqg nqc)
        have D6 := D5.put (o := .lst (ys.map rv_ ++ [rv_ x])) L5 nLd nLg nLc
        refine ⟨⟨(s0 :: sr).eraseIdx r.toNat, ys ++ [x], rfl, ?_, by rw [upd_same, List.map_append]; rfl, ?_, fun z hz => ((w4 z hz).put q4).put L5, ?_, ?_⟩, ?_⟩
        · rw [upd_ne nqL, upd_same, map_erase]
        · refine List.Perm.trans ?_ hp
          rw [List.append_assoc]
          exact (perm_erase hx).append_left ys
        · rw [List.length_append]
          exact D6.mono (by show _ ≤ b + (ys.length + 1); omega)
        · exact fun a o n1 n2 ha => by
            rw [upd_ne (ne_of_none ha hL0), upd_ne (ne_of_none ha hq)]
            exact (k3.trans k4) a o n1 n2 ha
        · show (match (upd (upd H4 q _) L _) q with | some (.lst xs) => xs.length | _ => 0) < _
          rw [mq, upd_ne nqL, upd_same]
          show (((s0 :: sr).map rv_).eraseIdx r.toNat).length < _
          rw [List.length_eraseIdx, List.length_map, if_pos hri, List.length_cons]
          omega
    · exact fun σ H Q Q' hq ⟨v, e1, e2, f⟩ => ⟨v, e1, e2, fun e he => by
        obtain ⟨dd, ee, a1, a2, a3, a4, b, e3, h⟩ := f e he
        exact ⟨dd, ee, a1, a2, a3, a4, b, e3, hq _ _ h⟩⟩
end
end Lw

set_option Elab.async false
set_option linter.all false
set_option maxRecDepth 100000
set_option maxHeartbeats 4000000
namespace Lw
open L2 hiding Ext
open PySem PySem.Spec PyProof.Rows Gn Gr Gk Go Gt Gf Gu
theorem row_plain (r : FRow) : (rowD r).plain = true := by
  obtain ⟨n, p⟩ := r
  cases p <;> simp [rowD, parD, PyData.plain, PyData.plainAll]
theorem plain_all : ∀ {ds : List PyData}, (∀ x ∈ ds, x.plain = true) → PyData.plainAll ds = true
  | [], _ => by simp [PyData.plainAll]
  | x :: r, h => by
    simp only [PyData.plainAll, h x (List.mem_cons_self ..), plain_all fun y hy => h y (List.mem_cons_of_mem _ hy), Bool.and_true]
section
variable {P : Program} {w : World} {K : PySem.W.Frag} {mg : Str → Option Value} {base : Heap}
/-! ### _law_sorted_rows -/
abbrev nSorted : List Str := ["_law_state", "_law_rows", "_law_found", "_law_left", "_law_known", "_law_ready", "_law_row"]
def spSorted (ns : List Int) : Sp := fun vs H Q _ => ∃ (d g c l : Addr) (b : Nat) (ws : List Rw), vs = [.ref d, .ref l] ∧ Dw ns d g c b H ∧ b ≤ 800000000 ∧ H l = some (.lst (ws.map rv_)) ∧ Good (ws.map fun z => z.2) ∧ (∀ z ∈ ws, ROk H z) ∧
  ∀ (p : Addr) (ys : List Rw) (H' : Hp), H p = none → p ≠ d → p ≠ g → H' p = some (.lst (ys.map rv_)) → ys.Perm ws → Good (ys.map fun z => z.2) → (∀ z ∈ ys, ROk H' z) → Dw ns d g c (b + 200) H' → Kp d g H H' → Q (.ref p) H'
theorem scSorted : FnScope nSorted ["_law_state", "_law_rows"] (defScope sLSortedRows) := ⟨rfl, rfl, rfl, by decide +kernel, rfl, by decide +kernel, by decide +kernel⟩
theorem ok_sorted {f fO : Addr} {fd fdO : FuncData} (ns : List Int) (F : Fun K "_law_sorted_rows" "_law_sorted_rows" sLSortedRows f fd) (T : Names mg)
    (GO : FnOk P w K mg base CX0 3 fO fdO ["_law_state", "_law_some"] (spOrderR ns)) (bO : Binds K fdO ["_law_state", "_law_some"] []) (kO : PySem.W.keepIn K (.ref fO) = true) (mO : mg "_law_order" = some (.ref fO)) :
    FnOk P w K mg base CX0 4 f fd ["_law_state", "_law_rows"] (spSorted ns) := by
  refine F.ok scSorted (fun vs H Q E h => ?_) (fun cdv A outer s H vs Q E hr h => ?_)
  · obtain ⟨d, g, c, l, b, ws, rfl, _⟩ := h
    rfl
  · obtain ⟨d, g, c, l, b, ws, rfl, D, hb, hl, G, hwo, k⟩ := h
    have hu := hu_of hr
    have nd := scSorted.nd
    have hr3 := hr
    have hu65 : (A.deeper (envOfC "_law_sorted_rows" (defScope sLSortedRows) s.heap.objs.size f cdv)).units + 65 < cLine := by have := hr.un; omega
    refine ⟨_, pss_cons (ps_par (i := 2) (j := 3) (by rfl) nd rfl rfl (by decide) rfl rfl (pa_cons (pe_lst pa_nil) (pa_cons (pe_call GO hr3 rfl mO kO bO .nil pass0 (pa_cons (pv 0) (pa_cons (pv 1) pa_nil))) pa_nil)) (by rfl))
(pss_cons (ps_while PassesOwn.never (pt_cmpR (op_neD hr.units) (pv 3) (pe_lst pa_nil) (nomark _))
(pss_cons (ps_set (i := 4) nd rfl (.inr rfl) (pe_lc (own := [("_law_row", 6)]) (g := gName 6) (tt := tYes) rfl nd (pi_list (pv 2)) (blkOk_by (N := nSorted) (sc := defScope sLSortedRows) (by decide +kernel))
(fun _ _ _ _ _ => pg_name (i := 6) nd rfl (.inl rfl)) (fun _ _ _ _ _ => pts_nil) (fun _ _ _ _ _ => pe_ix (r := rIxT K) ix_tup (pv 6) pe_int (fun _ _ => rfl))))
(pss_cons (ps_setLc (i := 5) (own := [("_law_row", 6)]) (g := gName 6) rfl nd rfl rfl (sw_true rfl rfl rfl (by decide +kernel)) (pi_list (pv 3)) (blkOk_by (N := nSorted) (sc := defScope sLSortedRows) (by decide +kernel))
(fun _ _ _ _ _ => pg_name (i := 6) nd rfl (.inl rfl)) (fun _ _ _ _ _ => pts_one (PW.pt (pw_or (pt_cmpR op_isN (pe_ix (r := rIxT K) ix_tup (pv 6) pe_int (fun _ _ => rfl)) pe_non (nomark _)) (pw_or1 (pt_cmpR (r := rIn K false) op_in_seq (pe_ix (r := rIxT K) ix_tup (pv 6) pe_int (fun _ _ => rfl)) (pv 4) rfl))))) (fun _ _ _ _ _ => pv 6))
(pss_cons (ps_expr (pe_bm PySem.F.plainAttrs_list PySem.F.slot_list_append PySem.F.type_list_append mt_append (pv 2) (pa_cons (pe_ix ix_list (pv 5) pe_int (fun _ _ => rfl)) pa_nil)))
(pss_one (ps_expr (pe_bm PySem.F.plainAttrs_list PySem.F.slot_list_remove PySem.F.type_list_remove (Gb.mt_removeD hu65) (pv 3) (pa_cons (pe_ix ix_list (pv 5) pe_int (fun _ _ => rfl)) pa_nil))))))))
(pss_one (ps_ret (pv 2)))), ?_⟩
    have wlen : ws.length ≤ 8 := by have := G.2.1; rwa [List.length_map] at this
    have Gn := (good_nodup G.2.2).1
    refine ⟨Nat.zero_le _, fun L hL => ?_⟩
    have DL := D.new (o := .lst []) hL
    have nLd := D.nd hL
    have nLg := D.ng hL
    have nLc : L ≠ c := fun e => by rw [e, D.cl] at hL; cases hL
    have L1 : (upd H L (.lst [])) L = some (.lst (([] : List Rw).map rv_)) := upd_same
    have k1 : Kp d g H (upd H L (.lst [])) := Kp.new hL
    have w1 : ∀ z ∈ ws, ROk (upd H L (.lst [])) z := fun z hz => (hwo z hz).ext (Ext.new hL)
    have l1 := new_same (o := .lst []) hL _ _ hl
    generalize upd H L (.lst []) = H1 at DL L1 k1 w1 l1 ⊢
    refine ⟨_, rfl, _, rfl, d, g, c, l, _, ws, rfl, DL, by omega, l1, by omega, w1, fun q st0 H2 hq0 nqd nqg q2 hp0 w2 D2 k2 => ?_⟩
    refine ⟨_, _, rfl, ?_⟩
    have L2 := k2 _ _ nLd nLg L1
    have k2 := k1.trans k2
    have nqL : q ≠ L := fun e => by rw [e, L1] at hq0; cases hq0
    have nqc : q ≠ c := fun e => by rw [e, DL.cl] at hq0; cases hq0
    have hqH : H q = none := by
      cases e : H q with
      | none => rfl
      | some o => rw [k1 q o nqd nqg e] at hq0; cases hq0
    refine while_by (fun σ H' => ∃ (st ys : List Rw) (v4 v5 : Option V), σ = [some (.ref d), some (.ref l), some (.ref L), some (.ref q), v4, v5, none] ∧ H' q = some (.lst (st.map rv_)) ∧ H' L = some (.lst (ys.map rv_)) ∧ (ys ++ st).Perm ws ∧ GoodF [] (ys.map fun z => z.2) ∧ (∀ z ∈ ws, ROk H' z) ∧ Dw ns d g c (b + 150) H' ∧ Kp d g H H')
      (fun _ H' => match H' q with | some (.lst xs) => xs.length | _ => 0) ⟨st0, [], none, none, rfl, q2, L2, hp0, trivial, fun z hz => w2 z (hp0.mem_iff.mpr hz), D2.mono (by omega), k2⟩ ?_ ?_
    · rintro σ H2 ⟨st, ys, v4, v5, rfl, q2, L2, hp, gy, w2, D2, k2⟩
      have hlen : ys.length + st.length ≤ 8 := by
        have := hp.length_eq
        rw [List.length_append] at this
        omega
      refine ⟨_, rfl, Nat.zero_le _, fun e he => ?_⟩
      have D3 := D2.new (o := .lst []) he
      have q3 := new_same (o := .lst []) he _ _ q2
      have L3 := new_same (o := .lst []) he _ _ L2
      have w3 : ∀ z ∈ ws, ROk (upd H2 e (.lst [])) z := fun z hz => (w2 z hz).ext (Ext.new he)
      have hso : ∀ z ∈ st, ROk (upd H2 e (.lst [])) z := fun z hz => w3 z (hp.mem_iff.mp (List.mem_append.mpr (.inr hz)))
      have hyo : ∀ z ∈ ys, ROk (upd H2 e (.lst [])) z := fun z hz => w3 z (hp.mem_iff.mp (List.mem_append.mpr (.inl hz)))
      have k3 : Kp d g H (upd H2 e (.lst [])) := k2.trans (Kp.new he)
      refine ⟨_, _, .lst (SqL.of q3) (dp_rws hso), .lst (SqL.of upd_same) .nil, shaped_rws hso, shaped_nil, _, rfl, ?_⟩
      rw [eqv_nil]
      have mq : (match H2 q with | some (.lst xs) => xs.length | _ => 0) = st.length := by rw [q2]; exact List.length_map ..
      generalize upd H2 e (.lst []) = H3 at D3 q3 L3 k3 w3 hso hyo ⊢
      cases st with
      | nil =>
        refine iteF ?_
        rw [List.append_nil] at hp
        exact ⟨_, rfl, k L ys H3 hL nLd nLg L3 hp ⟨by rw [List.length_map, hp.length_eq]; have := G.1; rwa [List.length_map] at this, by rw [List.length_map]; omega, gy⟩ (fun z hz => w3 z (hp.mem_iff.mp hz)) (D3.mono (by omega)) k3⟩
      | cons s0 sr =>
        refine iteT ?_
        rw [List.length_cons] at hlen
        clear D2 q2 L2 w2 k2
        -- the names that stand
        refine ⟨_, rfl, L, rfl, ⟨_, SqL.of L3⟩, fun ka hka => ?_⟩
        refine lc_it walk_list (fun i H' => H' ka = some (.lst (((ys.map fun z => z.2.1).take i).map V.str)) ∧ Ext H3 H') ⟨upd_same, Ext.new hka⟩ (fun i H' _ ⟨_, e⟩ => SqL.of (e _ _ L3)) ?_ ?_
        · rintro i' z H6 H6' hi' ⟨d6, k6⟩ ⟨rfl, hz⟩
          rw [List.getElem?_map] at hz
          obtain ⟨y, hy, rfl⟩ := Option.map_eq_some_iff.mp hz
          have hyn : (ys.map fun z => z.2.1)[i']? = some y.2.1 := by rw [List.getElem?_map, hy]; rfl
          refine ⟨rfl, yes_of ?_⟩
          refine ⟨_, rfl, y.1, _, _, _, rfl, rfl, SqT.of (k6 _ _ (hyo y (List.mem_of_getElem? hy)).1), (show atI [V.str y.2.1, parV y.2.2] ((0 : Nat) : Int) = some (V.str y.2.1) from atI_nat rfl), _, d6, ?_, ?_, fun x o e => ?_⟩
          · rw [List.length_map, List.length_take]
            exact small1000 (by rw [List.length_map] at *; omega)
          · rw [upd_same, take_snoc hyn, List.map_append]
            rfl
          · rw [upd_ne (ne_of_none e hka)]
            exact k6 _ _ e
        rintro H4 ⟨d4, k4⟩
        rw [show (ys.map fun z => z.2.1).take (ys.map rv_).length = ys.map fun z => z.2.1 from List.take_of_length_le (by rw [List.length_map, List.length_map]; exact Nat.le_refl _)] at d4
        have q4 := k4 _ _ q3
        have L4 := k4 _ _ L3
        have D4 := D3.keep k4
        have w4 : ∀ z ∈ ws, ROk H4 z := fun z hz => (w3 z hz).ext k4
        have hso4 : ∀ z ∈ s0 :: sr, ROk H4 z := fun z hz => (hso z hz).ext k4
        have k4' := k3.trans (Kp.of k4)
        clear hyo hso w3 D3 L3 q3 k3
        -- the rows that may come
        refine ⟨_, rfl, q, rfl, ⟨_, SqL.of q4⟩, fun ra hra => ?_⟩
        refine lc_it walk_list (fun i H' => H' ra = some (.lst ((((s0 :: sr).take i).filter (okNext (ys.map fun z => z.2.1))).map rv_)) ∧ Ext H4 H') ⟨upd_same, Ext.new hra⟩ (fun i H' _ ⟨_, e⟩ => SqL.of (e _ _ q4)) ?_ ?_
        · rintro i' z H6 H6' hi' ⟨d6, k6⟩ ⟨rfl, hz⟩
          rw [List.getElem?_map] at hz
          obtain ⟨y, hy, rfl⟩ := Option.map_eq_some_iff.mp hz
          have hyo := (hso4 y (List.mem_of_getElem? hy)).1
          have ht := SqT.of (K := K) (k6 _ _ hyo)
          have hyt : (s0 :: sr).take (i' + 1) = (s0 :: sr).take i' ++ [y] := take_snoc hy
          have add : okNext (ys.map fun z => z.2.1) y = true → ∀ H7 : Hp, H7 = H6' → ∃ acc, H7 ra = some (.lst acc) ∧ acc.length < sizeLine ∧ upd H7 ra (.lst (acc ++ [rv_ y])) ra = some (.lst ((((s0 :: sr).take (i' + 1)).filter (okNext (ys.map fun z => z.2.1))).map rv_)) ∧ Ext H4 (upd H7 ra (.lst (acc ++ [rv_ y]))) := by
            rintro ho H7 rfl
            refine ⟨_, d6, ?_, ?_, fun x o e => ?_⟩
            · rw [List.length_map]
              refine small1000 (Nat.le_trans (List.length_filter_le ..) ?_)
              rw [List.length_take, List.length_cons]
              omega
            · rw [upd_same, hyt, List.filter_append, List.filter_cons_of_pos ho, List.filter_nil, List.map_append]
              rfl
            · rw [upd_ne (ne_of_none e hra)]
              exact k6 _ _ e
          have non : okNext (ys.map fun z => z.2.1) y = false → ∀ H7 : Hp, H7 = H6' → H7 ra = some (.lst ((((s0 :: sr).take (i' + 1)).filter (okNext (ys.map fun z => z.2.1))).map rv_)) ∧ Ext H4 H7 := by
            rintro ho H7 rfl
            refine ⟨?_, k6⟩
            rw [hyt, List.filter_append, List.filter_cons_of_neg (by rw [ho]; exact Bool.false_ne_true), List.filter_nil, List.append_nil]
            exact d6
          have kaq : H6' ka = some (.lst ((ys.map fun z => z.2.1).map V.str)) := k6 _ _ d4
          obtain ⟨qa, n, p⟩ := y
          cases p with
          | none =>
            refine ⟨rfl, _, rfl, qa, _, _, _, rfl, rfl, ht, (show atI [V.str n, V.non] ((1 : Nat) : Int) = some V.non from atI_nat rfl), rfl, _, rfl, ?_⟩
            refine iteS rfl ?_
            exact iteT ⟨_, rfl, add rfl _ rfl⟩
          | some m =>
            refine ⟨rfl, _, rfl, qa, _, _, _, rfl, rfl, ht, (show atI [V.str n, V.str m] ((1 : Nat) : Int) = some (V.str m) from atI_nat rfl), rfl, _, rfl, ?_⟩
            refine iteN (by intro z; cases z) ?_
            refine ⟨_, rfl, qa, _, _, _, rfl, rfl, ht, (show atI [V.str n, V.str m] ((1 : Nat) : Int) = some (V.str m) from atI_nat rfl), _, rfl, ka, _, rfl, .inl (SqL.of kaq), rfl, strs_flat _, _, rfl, ?_⟩
            rw [inV_strs]
            by_cases hm : m ∈ ys.map fun z => z.2.1
            · exact iteS hm ⟨_, rfl, add (decide_eq_true hm) _ rfl⟩
            · exact iteN hm (non (decide_eq_false hm) _ rfl)
        rintro H5 ⟨d5, k5⟩
        rw [show (s0 :: sr).take ((s0 :: sr).map rv_).length = s0 :: sr from List.take_of_length_le (by rw [List.length_map]; exact Nat.le_refl _)] at d5
        have q5 := k5 _ _ q4
        have L5 := k5 _ _ L4
        have D5 := D4.keep k5
        have w5 : ∀ z ∈ ws, ROk H5 z := fun z hz => (w4 z hz).ext k5
        have k5' := k4'.trans (Kp.of k5)
        have eN : ∀ l : List Rw, fNames (l.map fun z => z.2) = l.map fun z => z.2.1 := fun l => by unfold fNames; rw [List.map_map]; rfl
        have ndw := Gn
        have pn : (fNames ((ys ++ s0 :: sr).map fun z => z.2)).Nodup := ((hp.map fun z : Rw => z.2).map fun r : FRow => r.1).nodup_iff.mpr Gn
        obtain ⟨x, hx⟩ : ∃ x, ((s0 :: sr).filter (okNext (ys.map fun z => z.2.1)))[0]? = some x := by
          obtain ⟨r, hr, ho⟩ := ready_row (rs := ws.map fun z => z.2) (ys := ys.map fun z => z.2) (st := (s0 :: sr).map fun z => z.2) G.2.2 (by rw [← List.map_append]; exact hp.map _) (by intro z; cases z)
          obtain ⟨z, hz, rfl⟩ := List.mem_map.mp hr
          have : z ∈ (s0 :: sr).filter (okNext (ys.map fun z => z.2.1)) := List.mem_filter.mpr ⟨hz, by
            unfold okNext
            rcases ho with e | ⟨m, e, hm⟩
            · rw [e]
            · rw [e]
              rw [eN] at hm
              exact decide_eq_true hm⟩
          exact ⟨_, List.getElem?_eq_getElem (List.length_pos_of_mem this)⟩
        have hxf := List.mem_filter.mp (List.mem_of_getElem? hx)
        have nds : (fNames ((s0 :: sr).map fun z => z.2)).Nodup := by
          rw [eN] at pn ⊢
          rw [List.map_append] at pn
          exact (List.nodup_append.mp pn).2.1
        obtain ⟨j, hj1, hj2⟩ := place_row hxf.1 nds
        have hso5 : ∀ z ∈ s0 :: sr, ROk H5 z := fun z hz => w5 z (hp.mem_iff.mp (List.mem_append.mpr (.inr hz)))
        have xw : x ∈ ws := hp.mem_iff.mp (List.mem_append.mpr (.inr hxf.1))
        have nra : H3 ra = none := none_of k4 hra
        have nrL : ra ≠ L := fun e => by rw [e, L4] at hra; cases hra
        have nrq : ra ≠ q := fun e => by rw [e, q4] at hra; cases hra
        have at0 : atI (((s0 :: sr).filter (okNext (ys.map fun z => z.2.1))).map rv_) ((0 : Nat) : Int) = some (rv_ x) := atI_nat (by rw [List.getElem?_map, hx]; rfl)
        refine ⟨_, rfl, .inl ⟨rfl, _, SqL.of L5⟩, _, rfl, ra, _, _, _, rfl, rfl, SqL.of d5, at0, L, _, _, rfl, rfl, L5, small1000 (by rw [List.length_map]; omega), ?_⟩
        have D6 := D5.put (o := .lst (ys.map rv_ ++ [rv_ x])) L5 nLd nLg nLc
        have w6 : ∀ z ∈ ws, ROk (upd H5 L (.lst (ys.map rv_ ++ [rv_ x]))) z := fun z hz => (w5 z hz).put L5
        have q6 : (upd H5 L (.lst (ys.map rv_ ++ [rv_ x]))) q = some (.lst ((s0 :: sr).map rv_)) := by rw [upd_ne nqL]; exact q5
        have r6 : (upd H5 L (.lst (ys.map rv_ ++ [rv_ x]))) ra = some (.lst (((s0 :: sr).filter (okNext (ys.map fun z => z.2.1))).map rv_)) := by rw [upd_ne nrL]; exact d5
        have L6 : (upd H5 L (.lst (ys.map rv_ ++ [rv_ x]))) L = some (.lst ((ys ++ [x]).map rv_)) := by rw [upd_same, List.map_append]; rfl
        have k6 : Kp d g H (upd H5 L (.lst (ys.map rv_ ++ [rv_ x]))) := fun a o n1 n2 ha => by
          rw [upd_ne (ne_of_none ha hL)]
          exact k5' a o n1 n2 ha
        generalize upd H5 L (.lst (ys.map rv_ ++ [rv_ x])) = H6 at D6 w6 q6 r6 L6 k6 ⊢
        have hso6 : ∀ z ∈ s0 :: sr, ROk H6 z := fun z hz => w6 z (hp.mem_iff.mp (List.mem_append.mpr (.inr hz)))
        refine ⟨_, rfl, .inl ⟨rfl, _, SqL.of q6⟩, _, rfl, ra, _, _, _, rfl, rfl, SqL.of r6, at0, q, _, rv_ x, rd_ x, _, j, rfl, rfl, q6, dp_rws hso6, .tup (SqT.of (w6 x xw).1) (.cons (.str _) (.cons (dp_par _) .nil)), ?_, ?_, ?_, hj1, ?_⟩
        · refine plain_all fun y hy => ?_
          obtain ⟨z, _, rfl⟩ := List.mem_map.mp hy
          exact row_plain _
        · exact row_plain _
        · exact Nat.le_trans (row_lay (w6 x xw).2.1 (w6 x xw).2.2).2 (by decide)
        have hjl := (List.getElem?_eq_some_iff.mp hj2).1
        refine ⟨⟨(s0 :: sr).eraseIdx j, ys ++ [x], _, _, rfl, ?_, ?_, ?_, ?_, fun z hz => (w6 z hz).put q6, D6.put q6 nqd nqg nqc, fun a o n1 n2 ha => ?_⟩, ?_⟩
        · rw [upd_same, map_erase]
        · rw [upd_ne nqL.symm]; exact L6
        · refine List.Perm.trans ?_ hp
          rw [List.append_assoc]
          exact (perm_erase hj2).append_left ys
        · rw [List.map_append]
          refine good_snoc gy ⟨?_, fun hm => ?_, fun m hm => ?_⟩
          · exact (good_mem G.2.2 (List.mem_map.mpr ⟨x, xw, rfl⟩)).1
          · rw [List.nil_append] at hm
            rw [eN] at pn hm
            rw [List.map_append] at pn
            exact (List.nodup_append.mp pn).2.2 _ hm _ (List.mem_map.mpr ⟨x, hxf.1, rfl⟩) rfl
          · rw [List.nil_append, eN]
            have := hxf.2
            unfold okNext at this
            rw [show x.2.2 = some m from hm] at this
            exact of_decide_eq_true this
        · rw [upd_ne (ne_of_none ha hqH)]
          exact k6 a o n1 n2 ha
        · show (match (upd H6 q _) q with | some (.lst xs) => xs.length | _ => 0) < _
          rw [mq, upd_same]
          show (((s0 :: sr).map rv_).eraseIdx j).length < _
          rw [List.length_eraseIdx, List.length_map, if_pos hjl, List.length_cons]
          omega
    · exact fun σ H Q Q' hq ⟨v, e1, e2, f⟩ => ⟨v, e1, e2, fun e he => by
        obtain ⟨dd, ee, a1, a2, a3, a4, b, e3, h⟩ := f e he
        exact ⟨dd, ee, a1, a2, a3, a4, b, e3, hq _ _ h⟩⟩
end
end Lw

set_option Elab.async false
set_option linter.all false
set_option maxRecDepth 100000
set_option maxHeartbeats 4000000
/-! zip of two lists or of two tuples at two slots -/
namespace Gv
open L2 hiding Ext
open PySem PySem.Spec PyProof.Rows Gn Gk Gu
theorem walk_zipT {K : PySem.W.Frag} {a b : Addr} {xs ys : List V} {n : Nat} (h : n = min xs.length ys.length) : Walk (RZ.ItzT K a b) n (fun H => SqT K H a xs ∧ SqT K H b ys) (YPair (fun i => xs[i]?) fun i => ys[i]?) := by
  refine ⟨fun i H hi g => ?_, fun H g => ?_, fun i H x H' hi g y => ?_⟩
  · exact ⟨xs, ys, _, _, g.1, g.2, List.getElem?_eq_getElem (by omega), List.getElem?_eq_getElem (by omega)⟩
  · exact ⟨xs, ys, g.1, g.2, by omega⟩
  · obtain ⟨T, x1, x2, e, hT, e2, k1, k2⟩ := y
    exact ⟨T, x1, x2, e, hT, e2, k1 xs g.1, k2 ys g.2⟩
def SameK (H : Hp) (a b : Addr) (xs ys : List V) : Prop := (H a = some (.lst xs) ∧ H b = some (.lst ys)) ∨ (H a = some (.tup xs) ∧ H b = some (.tup ys))
theorem SameK.ext {H H' : Hp} {a b : Addr} {xs ys : List V} (h : SameK H a b xs ys) (k : Ext H H') : SameK H' a b xs ys := h.elim (fun e => .inl ⟨k _ _ e.1, k _ _ e.2⟩) (fun e => .inr ⟨k _ _ e.1, k _ _ e.2⟩)
theorem SameK.c1 {H : Hp} {a b : Addr} {xs ys : List V} (h : SameK H a b xs ys) : ClAt H a xs := h.elim (fun e => .inl e.1) (fun e => .inr e.1)
theorem SameK.c2 {H : Hp} {a b : Addr} {xs ys : List V} (h : SameK H a b xs ys) : ClAt H b ys := h.elim (fun e => .inl e.2) (fun e => .inr e.2)
def iZipV (i j : Nat) : TI := fun σ H R => ∃ (a b : Addr) (xs ys : List V), σ[i]? = some (some (.ref a)) ∧ σ[j]? = some (some (.ref b)) ∧ SameK H a b xs ys ∧ ∀ J, Walk J (min xs.length ys.length) (fun H' => H' a = H a ∧ H' b = H b) (YPair (fun i => xs[i]?) fun i => ys[i]?) → R J H
theorem iZip_ok {K : PySem.W.Frag} {i j : Nat} : ∀ (σ : L2.St) (H : Hp) (R : It → Hp → Prop), iZipV i j σ H R → RZ.iZipA K (tCons (tVar i) (tCons (tVar j) tNil)) σ H R := by
  rintro σ H R ⟨a, b, xs, ys, h1, h2, hc, k⟩
  rcases hc with ⟨h3, h4⟩ | ⟨h3, h4⟩
  · exact ⟨_, h1, _, h2, a, b, xs, ys, rfl, .inl ⟨SqL.of h3, SqL.of h4, k _ (wW (walk_zip rfl) fun H' e => ⟨SqL.of (e.1.trans h3), SqL.of (e.2.trans h4)⟩)⟩⟩
  · exact ⟨_, h1, _, h2, a, b, xs, ys, rfl, .inr ⟨SqT.of h3, SqT.of h4, k _ (wW (walk_zipT rfl) fun H' e => ⟨SqT.of (e.1.trans h3), SqT.of (e.2.trans h4)⟩)⟩⟩
end Gv

set_option Elab.async false
set_option linter.all false
set_option maxRecDepth 100000
set_option maxHeartbeats 4000000
/-! zip of two lists, of two tuples, or of a tuple and a list -/
namespace Gm
open L2 hiding Ext
open PySem PySem.Spec PyProof.Rows Gn Gk Gu
def ItM (K : PySem.W.Frag) (a b : Addr) : It where
  go := fun i H => ∃ xs ys x y, SqT K H a xs ∧ SqL K H b ys ∧ xs[i]? = some x ∧ ys[i]? = some y
  yld := fun i H v H' => ∃ T x y, v = V.ref T ∧ H T = none ∧ H' = upd H T (.tup [x, y]) ∧ (∀ xs, SqT K H a xs → xs[i]? = some x) ∧ ∀ ys, SqL K H b ys → ys[i]? = some y
  stop := fun i H => ∃ xs ys, SqT K H a xs ∧ SqL K H b ys ∧ i = min xs.length ys.length
def tnM (a b z TI TO i1 i2 : Addr) (i : Nat) (h : Heap) : Prop :=
  IsZip h z TI TO Value.none ∧ IsTupOf2 h TI (Value.ref i1) (Value.ref i2) ∧ (∃ x y, IsTupOf2 h TO x y) ∧ h.IsTupleIter i1 a i ∧ h.IsListIter i2 b i
theorem lt_of_get {h : Heap} {a : Addr} {o : Obj} (e : h.get? a = some o) : a < h.objs.size := Heap.lt_size e
theorem turn_zipM {P : Program} {w : World} {K : PySem.W.Frag} {elts : List Expr} {kk : Nat} {tpos : Pos} {a b z TI TO i1 i2 : Addr} (h : ZipApart z TI TO i1 i2 a b) :
    Turn P w K (Expr.Tuple elts kk tpos) (ItM K a b) [z, TI, TO, i1, i2] z (tnM a b z TI TO i1 i2) := by
  have sep : ZipSep2 z TI TO i1 i2 [i1, a] [i2, b] := by
    refine ⟨h.TIz, h.TOz, h.TITO, h.TIi1, by simp, ?_, ?_, h.TIi2, by simp, ?_, ?_, ?_, ?_⟩ <;>
      simp only [List.mem_cons, List.not_mem_nil, or_false, not_or]
    · exact ⟨h.i1z.symm, h.l1z.symm⟩
    · exact ⟨h.TOi1, h.l1TO.symm⟩
    · exact ⟨h.i2z.symm, h.l2z.symm⟩
    · exact ⟨h.TOi2, h.l2TO.symm⟩
    · exact ⟨h.i12, h.l2i1.symm⟩
    · exact ⟨h.i12.symm, h.l1i2.symm⟩
  refine ⟨by simp, ?_, ?_, ?_, ?_, ?_⟩
  · rintro i hp ⟨h1, h2, ⟨x, y, h3⟩, ⟨o4, h4, _, d4⟩, ⟨o5, h5, _, d5⟩⟩ b' hb
    simp only [List.mem_cons, List.not_mem_nil, or_false] at hb
    rcases hb with rfl | rfl | rfl | rfl | rfl
    · exact ⟨_, h1, fun v e => by cases e⟩
    · exact ⟨_, h2, fun v e => by cases e⟩
    · exact ⟨_, h3, fun v e => by cases e⟩
    · exact ⟨_, h4, fun v e => by rw [d4] at e; cases e⟩
    · exact ⟨_, h5, fun v e => by rw [d5] at e; cases e⟩
  · rintro i hp hp' ⟨h1, h2, ⟨x, y, h3⟩, ⟨o4, h4, c4, d4⟩, ⟨o5, h5, c5, d5⟩⟩ k
    exact ⟨k _ (by simp) _ h1, k _ (by simp) _ h2, ⟨x, y, k _ (by simp) _ h3⟩, ⟨o4, k _ (by simp) _ h4, c4, d4⟩, ⟨o5, k _ (by simp) _ h5, c5, d5⟩⟩
  · rintro X rfl rfl rfl hc i pins s σ H E I fp ⟨t1, t2, t3, t4, t5⟩ ⟨xs, ys, x, y, hx, hy, ex, ey⟩
    obtain ⟨its1, v1, p1, _⟩ := I.tuple hx
    obtain ⟨its2, v2, p2, _⟩ := I.list hy
    have hd : X.A.in1.handled = none := I.ok.hd hc
    have G := GoesN.zip2 (elts := elts) (x1 := kk) (pos := tpos) sep (Draws.tuple (prog := X.prog) (w := X.w) hd i1 a h.l1i1 its1.toArray) (Draws.list (prog := X.prog) (w := X.w) hd i2 b h.l2i2 its2.toArray)
    have hi1 := (List.getElem?_eq_some_iff.mp ex).1
    have hi2 := (List.getElem?_eq_some_iff.mp ey).1
    have l1 := v1.length
    have l2 := v2.length
    refine G.goes i s (fun u s2 => ∃ x H', L2.Inv X pins σ H' s2 ∧ L2.RelV x u ∧ (ItM X.K a b).yld i H x H' ∧ tnM a b z TI TO i1 i2 (i + 1) s2.heap ∧ ∀ b ∈ [z, TI, TO, i1, i2], H' b = none) E (by simp; omega) ⟨t1, t2, t3, ⟨t4, p1⟩, ⟨t5, p2.isList⟩⟩ ?_
    rintro v h' tk ⟨T, x', y', rfl, hT, e1, e2, tup⟩ ⟨s1, s2, s3, ⟨s4, _⟩, ⟨s5, _⟩⟩ keep _
    obtain ⟨u1, g1, r1⟩ := v1.get ex
    obtain ⟨u2, g2, r2⟩ := v2.get ey
    have e1 : its1[i]? = some x' := by simpa using e1
    have e2 : its2[i]? = some y' := by simpa using e2
    rw [g1] at e1
    rw [g2] at e2
    cases e1
    cases e2
    have fr := I.hok.fresh hT
    refine ⟨V.ref T, upd H T (.tup [x, y]), ?_, rfl, ⟨T, x, y, rfl, fr, rfl, fun xs' hx' => ?_, fun ys' hy' => ?_⟩, ⟨s1, s2, s3, s4, s5⟩, fun b' hb' => ?_⟩
    · refine I.turnedNew keep (fun b' hb' => fp b' ?_) hT ?_
      · simp only [List.mem_cons, List.not_mem_nil, or_false] at hb' ⊢
        rcases hb' with rfl | rfl | rfl | rfl <;> simp
      · exact ⟨by show 2 ≤ sizeLine; decide, _, .cons r1 (.cons r2 .nil), tup⟩
    · rw [I.tuple_inj hx' hx]; exact ex
    · rw [I.list_inj hy' hy]; exact ey
    · have : b' < s.heap.objs.size := by
        obtain ⟨x, y, t3⟩ := t3
        obtain ⟨o4, t4, _, _⟩ := t4
        obtain ⟨o5, t5, _, _⟩ := t5
        simp only [List.mem_cons, List.not_mem_nil, or_false] at hb'
        rcases hb' with rfl | rfl | rfl | rfl | rfl
        · exact lt_of_get t1
        · exact lt_of_get t2
        · exact lt_of_get t3
        · exact lt_of_get t4
        · exact lt_of_get t5
      rw [upd_ne (Nat.ne_of_lt (Nat.lt_of_lt_of_le this hT))]
      exact (fp b' hb').1
  · rintro X rfl rfl rfl hc i pins s σ H E I fp ⟨t1, t2, t3, t4, t5⟩ ⟨xs, ys, hx, hy, rfl⟩
    obtain ⟨its1, v1, p1, _⟩ := I.tuple hx
    obtain ⟨its2, v2, p2, _⟩ := I.list hy
    have hd : X.A.in1.handled = none := I.ok.hd hc
    have G := GoesN.zip2 (elts := elts) (x1 := kk) (pos := tpos) sep (Draws.tuple (prog := X.prog) (w := X.w) hd i1 a h.l1i1 its1.toArray) (Draws.list (prog := X.prog) (w := X.w) hd i2 b h.l2i2 its2.toArray)
    have l1 := v1.length
    have l2 := v2.length
    have en : min its1.toArray.size its2.toArray.size = min xs.length ys.length := by simp; omega
    rw [en] at G
    refine G.stops s (fun s1 => L2.Inv X pins σ H s1) E ⟨t1, t2, t3, ⟨t4, p1⟩, ⟨t5, p2.isList⟩⟩ fun h' tk keep _ => ?_
    exact I.turnedL keep fun b' hb' => fp b' (by
      simp only [List.mem_cons, List.not_mem_nil, or_false] at hb' ⊢
      rcases hb' with rfl | rfl | rfl | rfl <;> simp)
  · rintro A i s Q E ⟨t1, _⟩ q
    exact wpAny_pyIter_zip t1 q
/-- two lists, two tuples, or a tuple and a list -/
def iZipM (K : PySem.W.Frag) (ta : TA) : TI := fun σ H R => ta σ H fun vs H1 => ∃ a b xs ys, vs = [V.ref a, V.ref b] ∧
  ((SqL K H1 a xs ∧ SqL K H1 b ys ∧ R (Itz K a b) H1) ∨ (SqT K H1 a xs ∧ SqT K H1 b ys ∧ R (RZ.ItzT K a b) H1) ∨ (SqT K H1 a xs ∧ SqL K H1 b ys ∧ R (ItM K a b) H1))
theorem fp5 {X : Cx} {pins : List (Addr × Obj)} {σ : L2.St} {H : Hp} {s : Shared} (I : L2.Inv X pins σ H s) : ∀ b ∈ [s.heap.objs.size + 4, s.heap.objs.size + 2, s.heap.objs.size + 3, s.heap.objs.size, s.heap.objs.size + 1], FpOk X pins H b := fun b hb => by
  simp only [List.mem_cons, List.not_mem_nil, or_false] at hb
  have h : s.heap.objs.size ≤ b := by rcases hb with rfl | rfl | rfl | rfl | rfl <;> first | exact Nat.le_add_right _ _ | exact Nat.le_refl _
  exact I.fpOk h (I.hok.fresh h)
theorem pi_zipM {X : Cx} {e e2 : Expr} {ta : TA} {p pos tpos : Pos} {elts : List Expr} {kk : Nat} (hg : Gl X "zip") (hm : X.mg "zip" = none) (ha : PA X [e, e2] ta)
    (hs : starEach [e, e2] X.env = (false, eval e X.env) :: starEach [e2] X.env := by rfl) (hpl : ((backTo pos (starEach [e2] X.env)).any fun x => x.1) = false := by rfl) :
    PI X (Expr.Tuple elts kk tpos) ((Expr.Name "zip" p).Call [e, e2] [] pos) (iZipM X.K ta) := by
  refine ⟨fun pins s σ H R I h => Call_ (ld_blt I hg hm boot_zip (PyProof.Rows.callWith_type1 (thn (ha.run pos pins s σ H _ I h) ?_) hs hpl))⟩
  rintro us s1 ⟨vs, H1, I1, r1, a, b, xs, ys, rfl, q1⟩
  cases r1 with
  | cons r1 rr => cases rr with
    | cons r2 rr =>
      cases rr
      cases r1
      cases r2
      rcases q1 with ⟨hx, hy, hR⟩ | ⟨hx, hy, hR⟩ | ⟨hx, hy, hR⟩
      · obtain ⟨its1, v1, p1, _⟩ := I1.list hx
        obtain ⟨its2, v2, p2, _⟩ := I1.list hy
        refine zip_begins2 (begins_list a its1.toArray) (begins_list b its2.toArray) p1.isList p2.isList fun h' z1 z2 z3 z4 z5 z6 z7 => wpAny_pyIter_zip z1 ?_
        exact ⟨_, _, _, _, H1, rfl, I1.kept z7, turn_zip (PySem.W.ktu_apart _ a b p1.lt p2.lt), ⟨z1, z2, ⟨_, _, z3⟩, ⟨_, z4, rfl, rfl⟩, ⟨_, z5, rfl, rfl⟩⟩, fp5 I1, hR⟩
      · obtain ⟨its1, v1, p1, _⟩ := I1.tuple hx
        obtain ⟨its2, v2, p2, _⟩ := I1.tuple hy
        refine zip_begins2 (begins_tuple a its1.toArray) (begins_tuple b its2.toArray) p1 p2 fun h' z1 z2 z3 z4 z5 z6 z7 => wpAny_pyIter_zip z1 ?_
        obtain ⟨o1, g1, _⟩ := p1
        obtain ⟨o2, g2, _⟩ := p2
        exact ⟨_, _, _, _, H1, rfl, I1.kept z7, RZ.turn_zipT (PySem.W.ktu_apart _ a b (lt_of_get g1) (lt_of_get g2)), ⟨z1, z2, ⟨_, _, z3⟩, ⟨_, z4, rfl, rfl⟩, ⟨_, z5, rfl, rfl⟩⟩, fp5 I1, hR⟩
      · obtain ⟨its1, v1, p1, _⟩ := I1.tuple hx
        obtain ⟨its2, v2, p2, _⟩ := I1.list hy
        refine zip_begins2 (begins_tuple a its1.toArray) (begins_list b its2.toArray) p1 p2.isList fun h' z1 z2 z3 z4 z5 z6 z7 => wpAny_pyIter_zip z1 ?_
        obtain ⟨o1, g1, _⟩ := p1
        exact ⟨_, _, _, _, H1, rfl, I1.kept z7, turn_zipM (PySem.W.ktu_apart _ a b (lt_of_get g1) p2.lt), ⟨z1, z2, ⟨_, _, z3⟩, ⟨_, z4, rfl, rfl⟩, ⟨_, z5, rfl, rfl⟩⟩, fp5 I1, hR⟩
theorem walk_zipM {K : PySem.W.Frag} {a b : Addr} {xs ys : List V} {n : Nat} (h : n = min xs.length ys.length) : Walk (ItM K a b) n (fun H => SqT K H a xs ∧ SqL K H b ys) (YPair (fun i => xs[i]?) fun i => ys[i]?) := by
  refine ⟨fun i H hi g => ?_, fun H g => ?_, fun i H x H' hi g y => ?_⟩
  · exact ⟨xs, ys, _, _, g.1, g.2, List.getElem?_eq_getElem (by omega), List.getElem?_eq_getElem (by omega)⟩
  · exact ⟨xs, ys, g.1, g.2, h⟩
  · obtain ⟨T, x1, x2, e, hT, e2, k1, k2⟩ := y
    exact ⟨T, x1, x2, e, hT, e2, k1 xs g.1, k2 ys g.2⟩
/-- of one kind, or a tuple beside a list -/
def Mix (H : Hp) (a b : Addr) (xs ys : List V) : Prop := Gv.SameK H a b xs ys ∨ (H a = some (.tup xs) ∧ H b = some (.lst ys))
theorem Mix.ext {H H' : Hp} {a b : Addr} {xs ys : List V} (h : Mix H a b xs ys) (k : Ext H H') : Mix H' a b xs ys := h.elim (fun e => .inl (e.ext k)) (fun e => .inr ⟨k _ _ e.1, k _ _ e.2⟩)
def iZipV (i j : Nat) : TI := fun σ H R => ∃ (a b : Addr) (xs ys : List V), σ[i]? = some (some (.ref a)) ∧ σ[j]? = some (some (.ref b)) ∧ Mix H a b xs ys ∧ ∀ J, Walk J (min xs.length ys.length) (fun H' => H' a = H a ∧ H' b = H b) (YPair (fun i => xs[i]?) fun i => ys[i]?) → R J H
theorem iZip_ok {K : PySem.W.Frag} {i j : Nat} : ∀ (σ : L2.St) (H : Hp) (R : It → Hp → Prop), iZipV i j σ H R → iZipM K (tCons (tVar i) (tCons (tVar j) tNil)) σ H R := by
  rintro σ H R ⟨a, b, xs, ys, h1, h2, hc, k⟩
  rcases hc with (⟨h3, h4⟩ | ⟨h3, h4⟩) | ⟨h3, h4⟩
  · exact ⟨_, h1, _, h2, a, b, xs, ys, rfl, .inl ⟨SqL.of h3, SqL.of h4, k _ (wW (walk_zip rfl) fun H' e => ⟨SqL.of (e.1.trans h3), SqL.of (e.2.trans h4)⟩)⟩⟩
  · exact ⟨_, h1, _, h2, a, b, xs, ys, rfl, .inr (.inl ⟨SqT.of h3, SqT.of h4, k _ (wW (Gv.walk_zipT rfl) fun H' e => ⟨SqT.of (e.1.trans h3), SqT.of (e.2.trans h4)⟩)⟩)⟩
  · exact ⟨_, h1, _, h2, a, b, xs, ys, rfl, .inr (.inr ⟨SqT.of h3, SqL.of h4, k _ (wW (walk_zipM rfl) fun H' e => ⟨SqT.of (e.1.trans h3), SqL.of (e.2.trans h4)⟩)⟩)⟩
end Gm

set_option Elab.async false
set_option linter.all false
set_option maxRecDepth 100000
set_option maxHeartbeats 4000000
/-! list(zip(a, b)) of two lists -/
namespace Gh
open PySem PySem.Calls PyProof.Rows PyProof.V PySem.Spec PySem.W
theorem zip_no_len : typeLookup (.type "zip") "__len__" = pure none := by rw [typeLookup_type, builtinLookup_eq_fast]; kernel_rfl
theorem zip_no_hint : typeLookup (.type "zip") "__length_hint__" = pure none := by rw [typeLookup_type, builtinLookup_eq_fast]; kernel_rfl
structure ZA (h : Heap) (z TI TO i1 i2 l1 l2 S : Addr) (xs ys : Array Value) (i : Nat) : Prop where
  t : IsPair h TI (.ref i1) (.ref i2)
  a1 : h.IsListIter i1 l1 i
  a2 : h.IsListIter i2 l2 i
  b1 : h.IsList l1 xs
  b2 : h.IsList l2 ys
  z : (IsZip h z TI TO .none ∧ ∃ a b, IsPair h TO a b) ∨ ∃ T f oT, IsZipHeld h z TI TO T f ∧ h.get? T = some oT ∧ T ≠ z ∧ T ≠ i1 ∧ T ≠ i2 ∧ T ≠ S
structure Low (z TI TO i1 i2 l1 l2 S : Addr) : Prop where
  z : z < S
  TI : TI < S
  TO : TO < S
  i1 : i1 < S
  i2 : i2 < S
  l1 : l1 < S
  l2 : l2 < S
section
variable {prog : Program} {w : World} {A : Around} {E : Value → Shared → Prop} {s : Shared} {z TI TO i1 i2 l1 l2 S : Addr} {xs ys : Array Value}
theorem ZA.keep {h h' : Heap} {i : Nat} (x : ZA h z TI TO i1 i2 l1 l2 S xs ys i) (L : Low z TI TO i1 i2 l1 l2 S) (hk : ∀ b o, b ≠ S → h.get? b = some o → h'.get? b = some o) : ZA h' z TI TO i1 i2 l1 l2 S xs ys i := by
  refine ⟨hk _ _ (Nat.ne_of_lt L.TI) x.t, x.a1.at fun o e => hk _ o (Nat.ne_of_lt L.i1) e, x.a2.at fun o e => hk _ o (Nat.ne_of_lt L.i2) e, x.b1.at fun o e => hk _ o (Nat.ne_of_lt L.l1) e, x.b2.at fun o e => hk _ o (Nat.ne_of_lt L.l2) e, ?_⟩
  rcases x.z with ⟨hz, a, b, hTO⟩ | ⟨T, f, oT, hz, hT, r1, r2, r3, r4⟩
  · exact .inl ⟨hk _ _ (Nat.ne_of_lt L.z) hz, a, b, hk _ _ (Nat.ne_of_lt L.TO) hTO⟩
  · exact .inr ⟨T, f, oT, hk _ _ (Nat.ne_of_lt L.z) hz, hk _ _ r4 hT, r1, r2, r3, r4⟩
theorem za_item {i : Nat} {x y : Value} {Q : Option Value → Shared → Prop} (D : ZipApart z TI TO i1 i2 l1 l2) (hS : S < s.heap.objs.size) (st : ZA s.heap z TI TO i1 i2 l1 l2 S xs ys i) (ex : xs[i]? = some x) (ey : ys[i]? = some y)
    (hQ : ∀ h', ZA h' z TI TO i1 i2 l1 l2 S xs ys (i + 1) → IsPair h' s.heap.objs.size x y → h'.objs.size = s.heap.objs.size + 1 → (∀ c o, c ≠ z → c ≠ TO → c ≠ i1 → c ≠ i2 → s.heap.get? c = some o → h'.get? c = some o) → Q (some (.ref s.heap.objs.size)) { s with heap := h' }) :
    wpAny (model prog w) A (pyNext (.ref z)) Q E s := by
  obtain ⟨hTI, h1, h2, hl1, hl2, hz⟩ := st
  have lt : ∀ {c o}, s.heap.get? c = some o → s.heap.objs.size ≠ c := fun e => Nat.ne_of_gt (Heap.lt_size e)
  have n1 : s.heap.objs.size ≠ i1 := let ⟨_, e, _⟩ := h1; lt e
  have n2 : s.heap.objs.size ≠ i2 := let ⟨_, e, _⟩ := h2; lt e
  rcases hz with ⟨hz, a, b, hTO⟩ | ⟨T, f, oT, hz, hT, r1, r2, r3, r4⟩
  · refine wpAny_pyNext_zip_item D hz hTI hTO h1 h2 hl1 hl2 ex ey fun h' a1 a2 a3 a4 a5 a6 hk => ?_
    exact hQ h' ⟨hk _ _ D.TIz D.TITO D.TIi1 D.TIi2 hTI, a3, a4, hl1.at fun o e => hk _ o D.l1z D.l1TO D.l1i1 D.l1i2 e, hl2.at fun o e => hk _ o D.l2z D.l2TO D.l2i1 D.l2i2 e,
      .inr ⟨s.heap.objs.size, false, _, a1, a5, lt hz, n1, n2, Nat.ne_of_gt hS⟩⟩ a5 a6 hk
  · refine wpAny_pyNext_zip_item_held D hz hT hTI h1 h2 hl1 hl2 ex ey fun h' a1 a3 a4 a5 a6 hk => ?_
    exact hQ h' ⟨hk _ _ D.TIz D.TIi1 D.TIi2 hTI, a3, a4, hl1.at fun o e => hk _ o D.l1z D.l1i1 D.l1i2 e, hl2.at fun o e => hk _ o D.l2z D.l2i1 D.l2i2 e,
      .inr ⟨T, true, oT, a1, hk _ _ r1 r2 r3 hT, r1, r2, r3, r4⟩⟩ a5 a6 fun c o c1 _ c3 c4 e => hk c o c1 c3 c4 e
theorem za_done {Q : Option Value → Shared → Prop} (hh : A.handled = none) (D : ZipApart z TI TO i1 i2 l1 l2) (st : ZA s.heap z TI TO i1 i2 l1 l2 S xs ys (min xs.size ys.size))
    (hQ : ∀ h', (∀ c o, c ≠ z → c ≠ TO → c ≠ i1 → c ≠ i2 → s.heap.get? c = some o → h'.get? c = some o) → Q none { s with heap := h' }) : wpAny (model prog w) A (pyNext (.ref z)) Q E s := by
  obtain ⟨hTI, h1, h2, hl1, hl2, hz⟩ := st
  have hend : xs[min xs.size ys.size]? = none ∨ ys[min xs.size ys.size]? = none := by
    rcases Nat.le_total xs.size ys.size with h | h
    · exact .inl (Array.getElem?_eq_none (by rw [Nat.min_eq_left h]; exact Nat.le_refl _))
    · exact .inr (Array.getElem?_eq_none (by rw [Nat.min_eq_right h]; exact Nat.le_refl _))
  rcases hz with ⟨hz, a, b, hTO⟩ | ⟨T, f, oT, hz, hT, r1, r2, r3, r4⟩
  · exact wpAny_pyNext_zip_end hh D hz hTI hTO h1 h2 hl1 hl2 hend fun h' hk => hQ h' hk
  · exact wpAny_pyNext_zip_end_held hh D hz hT hTI h1 h2 hl1 hl2 hend fun h' hk => hQ h' fun c o c1 _ c3 c4 e => hk c o c1 c3 c4 e
structure ZG (xs ys : Array Value) (lo : Addr) (h : Heap) (as : List Addr) : Prop where
  rise : as.Pairwise (· < ·)
  above : ∀ a ∈ as, lo < a
  pairs : ∀ (j : Nat) (a : Addr), as[j]? = some a → ∃ x y, xs[j]? = some x ∧ ys[j]? = some y ∧ h.get? a = some { cls := .type "tuple", data := .seq #[x, y] }
theorem ZG.there {lo : Addr} {h : Heap} {as : List Addr} (g : ZG xs ys lo h as) {a : Addr} (ha : a ∈ as) : a < h.objs.size := by
  obtain ⟨j, hj⟩ := List.mem_iff_getElem?.mp ha
  obtain ⟨_, _, _, _, e⟩ := g.pairs j a hj
  exact Heap.lt_size e
theorem za_loop {R : Result → Shared → Prop} (hh : A.handled = none) (D : ZipApart z TI TO i1 i2 l1 l2) (L : Low z TI TO i1 i2 l1 l2 S) (hn : min xs.size ys.size ≤ sizeLine) (res : Value) {h₁ : Heap}
    (hR : ∀ h' tk acc c as, (∀ b o, b ≠ S → b ≠ z → b ≠ TO → b ≠ i1 → b ≠ i2 → h₁.get? b = some o → h'.get? b = some o) → h'.get? S = some { cls := .type "list", dict := none, data := .seq acc c, slots := #[] } → as.length = min xs.size ys.size → ZG xs ys S h' as →
      acc.toList = as.map Value.ref → R (.ok (.ret res)) { s with heap := h', toks := tk }) :
    ∀ (k i : Nat) (h : Heap) (tk c : Nat) (acc : Array Value) (as : List Addr), min xs.size ys.size - i = k → i ≤ min xs.size ys.size → ZA h z TI TO i1 i2 l1 l2 S xs ys i → (∀ b o, b ≠ S → b ≠ z → b ≠ TO → b ≠ i1 → b ≠ i2 → h₁.get? b = some o → h.get? b = some o) →
      h.get? S = some { cls := .type "list", dict := none, data := .seq acc c, slots := #[] } → acc.toList = as.map Value.ref → as.length = i → ZG xs ys S h as →
      codeAny (model prog w) A (.builtin "list.extend.loop" ⟨[.ref S, .ref z, res], []⟩) R { s with heap := h, toks := tk } := by
  have nz := Nat.ne_of_gt L.z
  have nTO := Nat.ne_of_gt L.TO
  have n1 := Nat.ne_of_gt L.i1
  have n2 := Nat.ne_of_gt L.i2
  have hi : ∀ a, S < a → a ≠ z ∧ a ≠ TO ∧ a ≠ i1 ∧ a ≠ i2 := fun a ha => ⟨Nat.ne_of_gt (Nat.lt_trans L.z ha), Nat.ne_of_gt (Nat.lt_trans L.TO ha), Nat.ne_of_gt (Nat.lt_trans L.i1 ha), Nat.ne_of_gt (Nat.lt_trans L.i2 ha)⟩
  intro k
  induction k with
  | zero =>
    intro i h tk c acc as hk hle hst hkeep hS hacc hal hG
    have hin : i = min xs.size ys.size := by omega
    subst hin
    refine codeAny_builtin PySem.F.entry_extend_loop ?_
    rw [Around.under_plainId PySem.F.plain_extend_loop _]
    show wpAny _ A.in1 (pyNext (.ref z) >>= _) _ _ _
    refine wpAny_bind (za_done (s := { s with heap := h, toks := tk }) (A := A.in1) hh D hst fun h' he => ?_)
    refine wpAny_pure (hR h' tk acc c as (fun b o h1 h2 h3 h4 h5 e => he b o h2 h3 h4 h5 (hkeep b o h1 h2 h3 h4 h5 e)) (he S _ nz nTO n1 n2 hS) hal ⟨hG.rise, hG.above, fun j a hj => ?_⟩ hacc)
    obtain ⟨x, y, e1, e2, e3⟩ := hG.pairs j a hj
    obtain ⟨m1, m2, m3, m4⟩ := hi a (hG.above a (List.mem_of_getElem? hj))
    exact ⟨x, y, e1, e2, he a _ m1 m2 m3 m4 e3⟩
  | succ k ih =>
    intro i h tk c acc as hk hle hst hkeep hS hacc hal hG
    have hlt : i < min xs.size ys.size := by omega
    have ex := Array.getElem?_eq_getElem (Nat.lt_of_lt_of_le hlt (Nat.min_le_left ..))
    have ey := Array.getElem?_eq_getElem (Nat.lt_of_lt_of_le hlt (Nat.min_le_right ..))
    have hsz : acc.size = i := by rw [← Array.length_toList, hacc, List.length_map, hal]
    refine codeAny_builtin PySem.F.entry_extend_loop ?_
    rw [Around.under_plainId PySem.F.plain_extend_loop _]
    show wpAny _ A.in1 (pyNext (.ref z) >>= _) _ _ _
    refine wpAny_bind (za_item (s := { s with heap := h, toks := tk }) D (Heap.lt_size hS) hst ex ey fun h' hst' ht hz hkp => ?_)
    dsimp only at ht hz hkp ⊢
    have hS' := hkp S _ nz nTO n1 n2 hS
    have up : ∀ b o, b ≠ S → h'.get? b = some o → (h'.update S (Obj.mapSeq (·.push (Value.ref h.objs.size)))).get? b = some o := fun b o hb e => (Heap.get?_update_other _ _ (Ne.symm hb)).trans e
    have hSl : S < h.objs.size := Heap.lt_size hS
    show wpAny _ A.in1 (updateSeq S (·.push (Value.ref h.objs.size)) >>= _) _ _ _
    refine wpAny_bind ?_
    refine wpAny_updateSeq hS' rfl (wpAny_pure ⟨plainId_quiet PySem.F.plain_extend_loop _, ih (i + 1) _ tk _ (acc.push (Value.ref h.objs.size)) (as ++ [h.objs.size]) (by omega) hlt (hst'.keep L up)
      (fun b o h1 h2 h3 h4 h5 e => up b o h1 (hkp b o h2 h3 h4 h5 (hkeep b o h1 h2 h3 h4 h5 e))) (Heap.get?_update_self _ hS' rfl) (by rw [Array.toList_push, hacc, List.map_append]; rfl) (by rw [List.length_append, hal]; rfl) ⟨?_, ?_, ?_⟩⟩) (by rw [hsz]; omega) (by show (acc.push (Value.ref h.objs.size)).size ≤ sizeLine + 1; rw [Array.size_push, hsz]; omega)
    · refine List.pairwise_append.mpr ⟨hG.rise, List.pairwise_singleton _ _, fun a ha b hb => ?_⟩
      rw [List.mem_singleton.mp hb]
      exact hG.there ha
    · intro a ha
      rcases List.mem_append.mp ha with ha | ha
      · exact hG.above a ha
      · rw [List.mem_singleton.mp ha]; exact hSl
    · intro j b hj
      rcases Nat.lt_trichotomy j as.length with h1 | h1 | h1
      · rw [List.getElem?_append_left h1] at hj
        obtain ⟨x', y', e1, e2, e3⟩ := hG.pairs j b hj
        have hb := hG.above b (List.mem_of_getElem? hj)
        obtain ⟨m1, m2, m3, m4⟩ := hi b hb
        exact ⟨x', y', e1, e2, up b _ (Nat.ne_of_gt hb) (hkp b _ m1 m2 m3 m4 e3)⟩
      · subst h1
        have hb : h.objs.size = b := by simpa using hj
        subst hb
        exact ⟨_, _, by rw [hal]; exact ex, by rw [hal]; exact ey, up _ _ (Nat.ne_of_gt hSl) ht⟩
      · have hnone : (as ++ [h.objs.size])[j]? = none := List.getElem?_eq_none (by rw [List.length_append, List.length_singleton]; omega)
        rw [hnone] at hj; cases hj
theorem za_extend {R : Result → Shared → Prop} (hh : A.handled = none) (D : ZipApart z TI TO i1 i2 l1 l2) (L : Low z TI TO i1 i2 l1 l2 S) (hn : min xs.size ys.size ≤ sizeLine) (st : ZA s.heap z TI TO i1 i2 l1 l2 S xs ys 0) (hz0 : ∃ f0, IsZip s.heap z TI TO f0) (res : Value) (c₀ : Nat) (hS : s.heap.get? S = some { cls := .type "list", data := .seq #[] c₀ })
    (hR : ∀ h' tk acc c as, (∀ b o, b ≠ S → b ≠ z → b ≠ TO → b ≠ i1 → b ≠ i2 → s.heap.get? b = some o → h'.get? b = some o) → h'.get? S = some { cls := .type "list", dict := none, data := .seq acc c, slots := #[] } → as.length = min xs.size ys.size → ZG xs ys S h' as →
      acc.toList = as.map Value.ref → R (.ok (.ret res)) { s with heap := h', toks := tk }) :
    wpAny (model prog w) A.in1 (Builtin.List.listExtendWith (.ref S) (.ref z) res)
      (fun fin s' => match fin with | .done f => R (.ok f) s' | .again c' => c'.quiet = true ∧ codeAny (model prog w) A c' R s') (fun e s' => R (.error e) s') s := by
  obtain ⟨f0, hz0⟩ := hz0
  have hT : s.TypeIs (.ref z) "zip" := ⟨_, hz0, rfl⟩
  unfold Builtin.List.listExtendWith
  refine wpAny_bind (wpAny_typeOf hT ?_)
  have h1 : Builtin.List.listSameRef (.ref S) (.ref z) = false := by simp [Builtin.List.listSameRef, Nat.ne_of_gt L.z]
  have h2 : (Value.type "zip" == Value.type "list") = false := by decide
  have h3 : (Value.type "zip" == Value.type "tuple") = false := by decide
  simp only [h1, h2, h3, Bool.or_false, Bool.false_eq_true, if_false]
  refine wpAny_bind (wpAny_pyIter_zip hz0 ?_)
  refine wpAny_bind (wpAny_holding ?_)
  unfold Builtin.List.listLengthHint
  refine wpAny_bind (wpAny_specialOf hT zip_no_len ?_)
  show wpAny _ A.in1 (specialOf (Value.ref z) (Str.ofString "__length_hint__") >>= _) _ _ _
  refine wpAny_bind (wpAny_specialOf hT zip_no_hint ?_)
  refine wpAny_pure ?_
  show wpAny _ A.in1 (rule "list.extend.makes-room" >>= fun _ => Builtin.List.listTouch (.ref S) >>= fun _ =>
    again (.builtin "list.extend.loop" ⟨[.ref S, .ref z, res], []⟩)) _ _ _
  refine wpAny_bind (wpAny_rule ?_)
  refine wpAny_bind ?_
  show wpAny _ A.in1 (updateSeq S (·.push .none) >>= fun _ => updateSeq S (·.pop)) _ _ _
  refine wpAny_bind (wpAny_updateSeq hS rfl ?_)
  have hS₂ := Heap.get?_update_self (Obj.mapSeq (·.push Value.none)) hS rfl
  refine wpAny_updateSeq (hz := by seq_fits) hS₂ rfl ?_
  have hS₃ := Heap.get?_update_self (Obj.mapSeq (·.pop)) hS₂ rfl
  have up : ∀ b o, b ≠ S → s.heap.get? b = some o → ((s.heap.update S (Obj.mapSeq (·.push Value.none))).update S (Obj.mapSeq (·.pop))).get? b = some o := fun b o hb e => (Heap.get?_update_other _ _ (Ne.symm hb)).trans ((Heap.get?_update_other _ _ (Ne.symm hb)).trans e)
  exact wpAny_pure ⟨plainId_quiet PySem.F.plain_extend_loop _, za_loop (s := s) (h₁ := s.heap) hh D L hn res hR _ 0 _ _ _ #[] [] (Nat.sub_zero _) (Nat.zero_le _) (st.keep L up) (fun b o hb _ _ _ _ e => up b o hb e) hS₃ rfl rfl
    ⟨List.Pairwise.nil, (fun _ ha => nomatch ha), (fun j a hj => by simp at hj)⟩⟩
theorem za_init {R : Result → Shared → Prop} (hh : A.handled = none) (D : ZipApart z TI TO i1 i2 l1 l2) (L : Low z TI TO i1 i2 l1 l2 S) (hn : min xs.size ys.size ≤ sizeLine) (st : ZA s.heap z TI TO i1 i2 l1 l2 S xs ys 0) (hz0 : ∃ f0, IsZip s.heap z TI TO f0) (hS : s.heap.get? S = some { cls := .type "list", data := .seq #[] })
    (hR : ∀ h' tk acc c as, (∀ b o, b ≠ S → b ≠ z → b ≠ TO → b ≠ i1 → b ≠ i2 → s.heap.get? b = some o → h'.get? b = some o) → h'.get? S = some { cls := .type "list", dict := none, data := .seq acc c, slots := #[] } → as.length = min xs.size ys.size → ZG xs ys S h' as →
      acc.toList = as.map Value.ref → R (.ok (.ret .none)) { s with heap := h', toks := tk }) :
    wpAny (model prog w) A.in1 (Builtin.«list.__init__» ⟨[.ref S, .ref z], []⟩)
      (fun fin s' => match fin with | .done f => R (.ok f) s' | .again c' => c'.quiet = true ∧ codeAny (model prog w) A c' R s') (fun e s' => R (.error e) s') s := by
  show wpAny _ _ (do let old ← Builtin.List.listItems (.ref S); Builtin.List.listUpdate (.ref S) (fun _ => #[]); letGo old.toList.reverse; Builtin.List.listExtendWith (.ref S) (.ref z) .none) _ _ s
  refine wpAny_bind ?_
  unfold Builtin.List.listItems
  refine wpAny_bind (wpAny_seqItems hS rfl (wpAny_pure ?_))
  show wpAny _ _ (updateSeq S (fun _ => #[]) >>= fun _ => letGo (#[] : Array Value).toList.reverse >>= fun _ => Builtin.List.listExtendWith (.ref S) (.ref z) .none) _ _ s
  refine wpAny_bind (wpAny_updateSeq hS rfl ?_)
  have hS₂ := Heap.get?_update_self (Obj.mapSeq (fun _ => (#[] : Array Value))) hS rfl
  have oth : ∀ b o, b ≠ S → s.heap.get? b = some o → (s.heap.update S (Obj.mapSeq (fun _ => (#[] : Array Value)))).get? b = some o :=
    fun b o hb e => (Heap.get?_update_other _ _ (Ne.symm hb)).trans e
  refine wpAny_bind (wpAny_letGo ?_)
  exact za_extend hh D L hn (st.keep L oth) (let ⟨f0, e⟩ := hz0; ⟨f0, oth _ _ (Nat.ne_of_lt L.z) e⟩) .none _ hS₂ fun h' tk acc c as hk hS' hl hG hacc =>
    hR h' tk acc c as (fun b o hb h2 h3 h4 h5 e => hk b o hb h2 h3 h4 h5 (oth b o hb e)) hS' hl hG hacc
theorem za_call {Q : Value → Shared → Prop} (hh : A.handled = none) (D : ZipApart z TI TO i1 i2 l1 l2) (L : Low z TI TO i1 i2 l1 l2 s.heap.objs.size) (hn : min xs.size ys.size ≤ sizeLine)
    (ht : IsPair s.heap TI (.ref i1) (.ref i2)) (h1 : s.heap.IsListIter i1 l1 0) (h2 : s.heap.IsListIter i2 l2 0) (hb1 : s.heap.IsList l1 xs) (hb2 : s.heap.IsList l2 ys) (hz : IsZip s.heap z TI TO .none) (hTO : ∃ a b, IsPair s.heap TO a b)
    (hQ : ∀ h' tk acc c as, (∀ b o, b ≠ z → b ≠ TO → b ≠ i1 → b ≠ i2 → s.heap.get? b = some o → h'.get? b = some o) → h'.get? s.heap.objs.size = some { cls := .type "list", dict := none, data := .seq acc c, slots := #[] } → as.length = min xs.size ys.size → ZG xs ys s.heap.objs.size h' as →
      acc.toList = as.map Value.ref → Q (.ref s.heap.objs.size) { s with heap := h', toks := tk }) :
    wpAny (model prog w) A (call (.type "list") [.ref z]) Q E s := by
  refine callType_codes (Q₁ := fun obj s₁ => obj = .ref s.heap.objs.size ∧ s₁ = { s with heap := s.heap.push { cls := .type "list", data := .seq #[] } }) PySem.F.called_list (PySem.F.typeCall_list_1 _) PySem.F.entry_list_init
    (code_list_new _ ⟨rfl, rfl⟩) fun obj s₁ h₁ => ?_
  obtain ⟨rfl, rfl⟩ := h₁
  have hS : (s.heap.push { cls := .type "list", data := .seq #[] }).get? s.heap.objs.size = some { cls := .type "list", data := .seq #[] } := Heap.get?_push_size _ rfl
  obtain ⟨a, b, hTO⟩ := hTO
  refine ⟨⟨_, hS, rfl⟩, PySem.F.args_list_init_2 _ _, za_init (A := A.in1) hh D L hn ⟨Heap.get?_push_of_some _ ht, h1.at fun o e => Heap.get?_push_of_some _ e, h2.at fun o e => Heap.get?_push_of_some _ e, hb1.push _, hb2.push _, .inl ⟨Heap.get?_push_of_some _ hz, a, b, Heap.get?_push_of_some _ hTO⟩⟩ ⟨_, Heap.get?_push_of_some _ hz⟩ hS (fun h' tk acc c as hk hS' hl hG hacc => ?_)⟩
  exact ⟨rfl, hQ h' tk acc c as (fun b o h2 h3 h4 h5 e => hk b o (Nat.ne_of_lt (Heap.lt_size e)) h2 h3 h4 h5 (Heap.get?_push_of_some _ e)) hS' hl hG hacc⟩
end
/-! ### the rule -/
section
open L2
def putP : Hp → List Addr → List (V × V) → Hp
  | H, a :: as, p :: ps => putP (upd H a (.tup [p.1, p.2])) as ps
  | H, _, _ => H
theorem putP_off {b : Addr} : ∀ (as : List Addr) (ps : List (V × V)) (H : Hp), b ∉ as → putP H as ps b = H b
  | [], _, _, _ => rfl
  | _ :: _, [], _, _ => rfl
  | a :: as, p :: ps, H, h => by
    show putP (upd H a (.tup [p.1, p.2])) as ps b = H b
    rw [putP_off as ps _ (fun z => h (List.mem_cons_of_mem _ z)), upd_ne (fun z => h (by rw [z]; exact List.mem_cons_self))]
theorem putP_at : ∀ (as : List Addr) (ps : List (V × V)) (H : Hp), as.length = ps.length → as.Nodup → Paired (fun (t : Addr) (p : V × V) => putP H as ps t = some (.tup [p.1, p.2])) as ps
  | [], [], _, _, _ => .nil
  | [], _ :: _, _, h, _ => by cases h
  | _ :: _, [], _, h, _ => by cases h
  | a :: as, p :: ps, H, h, hn => by
    have hn' := List.nodup_cons.mp hn
    have ih := putP_at as ps (upd H a (.tup [p.1, p.2])) (Nat.succ.inj h) hn'.2
    refine .cons ?_ ih
    show putP (upd H a (.tup [p.1, p.2])) as ps a = some (.tup [p.1, p.2])
    rw [putP_off as ps _ hn'.1, upd_same]
def iListZip (K : PySem.W.Frag) (ta : TA) : TE := fun σ H Q => ta σ H fun vs H1 => ∃ (a b : Addr) (xs ys : List V), vs = [.ref a, .ref b] ∧ SqL K H1 a xs ∧ SqL K H1 b ys ∧
  ∀ (H' : Hp) (p : Addr) (ts : List Addr), (∀ b o, H1 b = some o → H' b = some o) → H1 p = none → (∀ t ∈ ts, H1 t = none) → p ∉ ts → H' p = some (.lst (ts.map V.ref)) → Paired (fun (t : Addr) (q : V × V) => H' t = some (.tup [q.1, q.2])) ts (xs.zip ys) → Q (.ref p) H'
variable {X : Cx} {p pos : Pos}
theorem zip_laid {pins : List (Addr × Obj)} {σ : L2.St} {H : Hp} {s : Shared} {h' : Heap} {tk : Nat} {xs ys : List V} {us vs : List Value} {acc : Array Value} {c : Nat} {as : List Addr} {S : Addr} (I : Inv X pins σ H s) (hz : (xs.zip ys).length ≤ sizeLine) (rx : Vals xs us) (ry : Vals ys vs) (hSs : s.heap.objs.size ≤ S)
    (hk : ∀ b o, s.heap.get? b = some o → h'.get? b = some o) (hS : h'.get? S = some { cls := .type "list", dict := none, data := .seq acc c, slots := #[] }) (hl : as.length = (xs.zip ys).length) (hG : ZG us.toArray vs.toArray S h' as) (hacc : acc.toList = as.map Value.ref) :
    ∃ H' : Hp, (∀ b o, H b = some o → H' b = some o) ∧ H S = none ∧ (∀ t ∈ as, H t = none) ∧ S ∉ as ∧ H' S = some (.lst (as.map V.ref)) ∧ Paired (fun (t : Addr) (q : V × V) => H' t = some (.tup [q.1, q.2])) as (xs.zip ys) ∧ Inv X pins σ H' { s with heap := h', toks := tk } := by
  have hSn : S ∉ as := fun z => Nat.lt_irrefl _ (hG.above _ z)
  have nd : as.Nodup := List.Pairwise.imp (fun {a b} (h : a < b) => Nat.ne_of_lt h) hG.rise
  have new : ∀ t ∈ as, H t = none := fun t ht => I.hok.fresh (Nat.le_trans hSs (Nat.le_of_lt (hG.above t ht)))
  have newS : H S = none := I.hok.fresh hSs
  have atP := putP_at as (xs.zip ys) (upd H S (.lst (as.map V.ref))) hl nd
  have off : ∀ b, b ∉ as → b ≠ S → putP (upd H S (.lst (as.map V.ref))) as (xs.zip ys) b = H b := fun b h1 h2 => by rw [putP_off as _ _ h1, upd_ne h2]
  have low : ∀ b o, s.heap.get? b = some o → b ∉ as ∧ b ≠ S := fun b o e => ⟨fun z => absurd (Heap.lt_size e) (Nat.not_lt.mpr (Nat.le_trans hSs (Nat.le_of_lt (hG.above b z)))), Nat.ne_of_lt (Nat.lt_of_lt_of_le (Heap.lt_size e) hSs)⟩
  have kp : ∀ b u, H b = some u → (putP (upd H S (.lst (as.map V.ref))) as (xs.zip ys)) b = some u := fun b u e => by
    rw [off b (fun z => by rw [new b z] at e; cases e) (fun z => by rw [z, newS] at e; cases e)]
    exact e
  have eS : putP (upd H S (.lst (as.map V.ref))) as (xs.zip ys) S = some (.lst (as.map V.ref)) := by rw [putP_off as _ _ hSn, upd_same]
  refine ⟨putP (upd H S (.lst (as.map V.ref))) as (xs.zip ys), kp, newS, new, hSn, eS, atP, ?_⟩
  refine I.call' (ch := []) rfl ⟨fun b o q _ _ _ => hk b o q, fun b o q _ _ _ => ⟨o.slots, hk b o q⟩, fun b o q n _ => ?_, fun b o q _ => ⟨o, hk b o q⟩, fun b xs q => kp b _ q, fun b o u q => kp b _ q, fun b ps q => ⟨#[], by rw [kp b _ q]; simp⟩⟩ (fun b u q => ?_) I.bare fun b z => by simp at z
  · obtain ⟨z1, z2⟩ := low b o q
    rw [off b z1 z2]
    exact n
  · by_cases hb : b ∈ as
    · obtain ⟨j, pk, e1, e2, e3⟩ := LiI.paired_ix atP hb
      rw [e3] at q
      cases q
      obtain ⟨x, y, f1, f2, f3⟩ := hG.pairs j b e1
      have f1 : us[j]? = some x := by simpa using f1
      have f2 : vs[j]? = some y := by simpa using f2
      obtain ⟨g1, g2⟩ := List.getElem?_zip_eq_some.mp e2
      obtain ⟨x', w1, w2⟩ := rx.get g1
      obtain ⟨y', w3, w4⟩ := ry.get g2
      rw [f1] at w1
      cases w1
      rw [f2] at w3
      cases w3
      exact ⟨by show 2 ≤ sizeLine; decide, [x, y], .cons w2 (.cons w4 .nil), ⟨_, f3, rfl, _, rfl⟩⟩
    · by_cases hb2 : b = S
      · rw [hb2] at q ⊢
        rw [eS] at q
        cases q
        refine ⟨by rw [List.length_map]; omega, acc.toList, c, by rw [hacc]; exact LiI.vals_refs as, ?_⟩
        rw [Array.toArray_toList]
        exact hS
      · rw [off b hb hb2] at q
        exact (I.hok b u q).stay (fun d v _ y => hk d v y) (fun d y => kp d _ y) fun d xs y => kp d _ y
theorem pe_listZip {e e2 : Expr} {ta : TA} {zp cpos : Pos} (hc : X.calm = true) (ha : PA X [e, e2] ta) (hg : Gl X "list") (hm : X.mg "list" = none) (hv : bootBuiltins "list" = some (.type "list")) (hgz : Gl X "zip") (hmz : X.mg "zip" = none)
    (hs : starEach [.Call (.Name "zip" zp) [e, e2] [] cpos] X.env = (false, eval (.Call (.Name "zip" zp) [e, e2] [] cpos) X.env) :: starEach [] X.env := by rfl)
    (hs2 : starEach [e, e2] X.env = (false, eval e X.env) :: starEach [e2] X.env := by rfl) (hpl : ((backTo cpos (starEach [e2] X.env)).any fun x => x.1) = false := by rfl) :
    PE X (.Call (.Name "list" p) [.Call (.Name "zip" zp) [e, e2] [] cpos] [] pos) (iListZip X.K ta) := by
  refine ⟨fun pins s σ H Q I hq => ?_⟩
  refine wpAny_Call_Name_kw (ld_blt I hg hm hv ?_)
  refine PyProof.Rows.callWith_type1 ?_ hs rfl
  rw [hs]
  show wpAny _ _ (spliced ((false, eval (.Call (.Name "zip" zp) [e, e2] [] cpos) X.env) :: backTo pos (starEach [] X.env))) _ _ s
  refine Calls.spliced_cons ?_
  refine Call_ (ld_blt I hgz hmz boot_zip (PyProof.Rows.callWith_type1 (thn (ha.run cpos pins s σ H _ I hq) ?_) hs2 hpl))
  rintro us s1 ⟨vs, H1, I1, r1, a, b, xs, ys, rfl, hx, hy, q⟩
  cases r1 with
  | cons r1 rr => cases rr with
    | cons r2 rr =>
      cases rr
      cases r1
      cases r2
      obtain ⟨its1, v1, p1, n1⟩ := I1.list hx
      obtain ⟨its2, v2, p2, n2⟩ := I1.list hy
      refine zip_begins2 (begins_list a its1.toArray) (begins_list b its2.toArray) p1.isList p2.isList fun h' z1 z2 z3 z4 z5 z6 z7 => ?_
      have D := PySem.W.ktu_apart s1.heap.objs.size a b p1.lt p2.lt
      refine Calls.spliced_nil ?_
      have q1 := p1.lt
      have q2 := p2.lt
      have hlen : its1.toArray.size = xs.length ∧ its2.toArray.size = ys.length := ⟨by rw [List.size_toArray]; exact v1.length.symm, by rw [List.size_toArray]; exact v2.length.symm⟩
      have hmin : (xs.zip ys).length = min its1.toArray.size its2.toArray.size := by rw [List.length_zip, hlen.1, hlen.2]
      have Lo : Low (s1.heap.objs.size + 4) (s1.heap.objs.size + 2) (s1.heap.objs.size + 3) s1.heap.objs.size (s1.heap.objs.size + 1) a b h'.objs.size := by
        have hz : ∀ n : Nat, n < s1.heap.objs.size + 5 → n < h'.objs.size := fun n hn => by rw [z6]; exact hn
        exact ⟨hz _ (Nat.lt_succ_self _), hz _ (Nat.lt_add_of_pos_right (k := 3) (n := s1.heap.objs.size + 2) (by decide)), hz _ (Nat.lt_add_of_pos_right (k := 2) (n := s1.heap.objs.size + 3) (by decide)), hz _ (Nat.lt_add_of_pos_right (by decide)), hz _ (Nat.lt_add_of_pos_right (k := 4) (n := s1.heap.objs.size + 1) (by decide)), hz _ (Nat.lt_of_lt_of_le q1 (Nat.le_add_right _ _)), hz _ (Nat.lt_of_lt_of_le q2 (Nat.le_add_right _ _))⟩
      refine za_call (s := { s1 with heap := h' }) (I1.ok.hd hc) D Lo (by rw [← hmin, List.length_zip]; omega) z2 ⟨_, z4, rfl, rfl⟩ ⟨_, z5, rfl, rfl⟩ (p1.isList.at fun o e => z7 _ o e) (p2.isList.at fun o e => z7 _ o e) z1 ⟨_, _, z3⟩ fun h2 tk acc c as hk hS hl hG hacc => ?_
      obtain ⟨H', k1, k2, k3, k4, k5, k6, J⟩ := zip_laid (S := h'.objs.size) (tk := tk) I1 (by rw [List.length_zip]; omega) v1 v2 (by omega) (fun b o e => hk b o (Nat.ne_of_lt (Nat.lt_add_right 4 (Heap.lt_size e))) (Nat.ne_of_lt (Nat.lt_add_right 3 (Heap.lt_size e))) (Nat.ne_of_lt (Heap.lt_size e)) (Nat.ne_of_lt (Nat.lt_add_right 1 (Heap.lt_size e))) (z7 b o e)) hS (by rw [hl, hmin]) hG hacc
      exact ⟨.ref _, H', J, rfl, q H' _ as k1 k2 k3 k4 k5 k6⟩
end
end Gh

set_option Elab.async false
set_option linter.all false
set_option maxRecDepth 100000
set_option maxHeartbeats 4000000
namespace Lw
open L2 hiding Ext
open PySem PySem.Spec PyProof.Rows Gn Gr Gk Go Gt Gf Gu
/-! ### other names, by a dict -/
def nmF (ps : List FRow) (n : Str) : Str := (parOf ps n).getD n
def zipR : List Str → List Str → List FRow
  | n :: ns, w :: ws => (n, some w) :: zipR ns ws
  | _, _ => []
theorem zip_names : ∀ {ns ws : List Str}, ws.length = ns.length → fNames (zipR ns ws) = ns
  | [], [], _ => rfl
  | n :: ns, w :: ws, h => by
    show n :: fNames (zipR ns ws) = n :: ns
    rw [zip_names (by simpa using h)]
  | [], _ :: _, h => by cases h
  | _ :: _, [], h => by cases h
theorem zip_len : ∀ {ns ws : List Str}, ws.length = ns.length → (zipR ns ws).length = ns.length
  | [], [], _ => rfl
  | n :: ns, w :: ws, h => by
    show (zipR ns ws).length + 1 = ns.length + 1
    rw [zip_len (by simpa using h)]
  | [], _ :: _, h => by cases h
  | _ :: _, [], h => by cases h
theorem zip_at : ∀ {ns ws : List Str} {i : Nat} {n : Str}, ws.length = ns.length → ns[i]? = some n → ∃ w, ws[i]? = some w ∧ (n, some w) ∈ zipR ns ws
  | [], _, _, _, _, h => by cases h
  | n :: ns, w :: ws, 0, m, hl, h => by cases h; exact ⟨w, rfl, List.mem_cons_self ..⟩
  | n :: ns, w :: ws, i + 1, m, hl, h => by
    obtain ⟨v, h1, h2⟩ := zip_at (ns := ns) (ws := ws) (i := i) (by simpa using hl) (by simpa using h)
    exact ⟨v, h1, List.mem_cons_of_mem _ h2⟩
  | _ :: _, [], _, _, h, _ => by cases h
theorem paired_zip {K : PySem.W.Frag} {H : Hp} : ∀ {ns ws : List Str} {ts : List Addr}, ws.length = ns.length → Paired (fun (t : Addr) (q : V × V) => H t = some (.tup [q.1, q.2])) ts ((ns.map V.str).zip (ws.map V.str)) → Paired (fun t (kv : Key × V) => SqT K H t [kV kv.1, kv.2]) ts (kvs (zipR ns ws))
  | [], [], ts, _, h => by
    cases h
    exact .nil
  | n :: ns, w :: ws, ts, hl, h => by
    cases h with
    | cons a r => exact .cons (SqT.of a) (paired_zip (by simpa using hl) r)
  | [], _ :: _, _, h, _ => by cases h
  | _ :: _, [], _, h, _ => by cases h
section
variable {ns ws : List Str} (hl : ws.length = ns.length) (nd : ns.Nodup)
include hl nd in
theorem nm_at {i : Nat} {n : Str} (h : ns[i]? = some n) : ∃ w, ws[i]? = some w ∧ nmF (zipR ns ws) n = w ∧ valV (kvs (zipR ns ws)) (Sum.inr n : Key) = some (.str w) := by
  obtain ⟨w, h1, h2⟩ := zip_at hl h
  have e := zip_names hl
  have p := parOf_at (rs := zipR ns ws) (by rw [e]; exact nd) h2
  refine ⟨w, h1, ?_, ?_⟩
  · show (parOf (zipR ns ws) n).getD n = w
    rw [p]
    rfl
  · exact kvs_some (rs := zipR ns ws) (by rw [e]; exact nd) h2
include hl nd in
theorem nm_inj (nw : ws.Nodup) : ∀ a ∈ ns, ∀ b ∈ ns, nmF (zipR ns ws) a = nmF (zipR ns ws) b → a = b := fun a ha b hb e => by
  obtain ⟨i, hi⟩ := List.mem_iff_getElem?.mp ha
  obtain ⟨j, hj⟩ := List.mem_iff_getElem?.mp hb
  obtain ⟨v, v1, v2, _⟩ := nm_at hl nd hi
  obtain ⟨u, u1, u2, _⟩ := nm_at hl nd hj
  rw [v2, u2] at e
  subst e
  have il := (List.getElem?_eq_some_iff.mp v1).1
  have := (List.getElem?_inj il nw).mp (v1.trans u1.symm)
  subst this
  rw [hi] at hj
  exact Option.some.inj hj
include hl nd in
theorem nm_ok (ho : ∀ x ∈ ws, nameOk x = true) : ∀ a ∈ ns, nameOk (nmF (zipR ns ws) a) = true := fun a ha => by
  obtain ⟨i, hi⟩ := List.mem_iff_getElem?.mp ha
  obtain ⟨v, v1, v2, _⟩ := nm_at hl nd hi
  rw [v2]
  exact ho v (List.mem_of_getElem? v1)
include hl nd in
theorem nm_get {H : Hp} {D : Addr} (h : H D = some (.dK (kvs (zipR ns ws)))) {n : Str} (hn : n ∈ ns) : DGet H D (.str n) (some (.str (nmF (zipR ns ws) n))) := by
  obtain ⟨i, hi⟩ := List.mem_iff_getElem?.mp hn
  obtain ⟨v, _, v2, v3⟩ := nm_at hl nd hi
  rw [v2, ← v3]
  exact .inl ⟨_, Sum.inr n, .inl h, rfl, rfl⟩
end
/-- balances as pairs, given to dict() -/
theorem paired_bal {K : PySem.W.Frag} {H : Hp} : ∀ {ps : List Addr} {bs : List (Str × Int)}, CsAt H (ps.map V.ref) bs → Paired (fun p kv => SqT K H p [kV kv.1, kv.2]) ps (dB bs)
  | [], [], _ => .nil
  | [], _ :: _, h => by have := h.1; simp at this
  | _ :: _, [], h => by have := h.1; simp at this
  | p :: ps, b :: bs, h => by
    obtain ⟨q, h1, h2⟩ := h.2 0 b rfl
    have h1 : some (V.ref p) = some (V.ref q) := h1
    cases h1
    exact .cons (SqT.of h2) (paired_bal ⟨by have := h.1; simpa using this, fun i c' hc => h.2 (i + 1) c' (by simpa using hc)⟩)
theorem cs_refs {H : Hp} : ∀ {xs : List V} {cs : List (Str × Int)}, CsAt H xs cs → ∃ ps : List Addr, xs = ps.map V.ref
  | [], [], _ => ⟨[], rfl⟩
  | [], _ :: _, h => by have := h.1; simp at this
  | _ :: _, [], h => by have := h.1; simp at this
  | x :: xs, c :: cs, h => by
    obtain ⟨p, h1, _⟩ := h.2 0 c rfl
    have h1 : some x = some (V.ref p) := h1
    cases h1
    obtain ⟨ps, e⟩ := cs_refs (H := H) (xs := xs) (cs := cs) ⟨by have := h.1; simpa using this, fun i c' hc => h.2 (i + 1) c' (by simpa using hc)⟩
    exact ⟨p :: ps, by rw [e]; rfl⟩
theorem valV_dB_int : ∀ {bs : List (Str × Int)} {ky : Key} {v : V}, valV (dB bs) ky = some v → ∃ z, v = .int z
  | [], _, _, h => by cases h
  | p :: r, ky, v, h => by
    by_cases e : (Sum.inr p.1 : Key) = ky
    · have h : valV ((Sum.inr p.1, V.int p.2) :: dB r) ky = some v := h
      rw [valV_pos e] at h
      exact ⟨p.2, (Option.some.inj h).symm⟩
    · have h : valV ((Sum.inr p.1, V.int p.2) :: dB r) ky = some v := h
      rw [valV_neg e] at h
      exact valV_dB_int h
theorem merge_dB {bs : List (Str × Int)} (h : (bs.map (·.1)).Nodup) : mergeK [] (dB bs) = dB bs := merge_self (by
  unfold dB
  rw [List.map_map]
  exact nodup_inr (fun p : Str × Int => p.1) h)
theorem nodup_on {f : Str → Str} : ∀ {l : List Str}, (∀ a ∈ l, ∀ b ∈ l, f a = f b → a = b) → l.Nodup → (l.map f).Nodup
  | [], _, _ => List.nodup_nil
  | a :: r, h, nd => by
    obtain ⟨n1, n2⟩ := List.nodup_cons.mp nd
    refine List.nodup_cons.mpr ⟨fun hm => ?_, nodup_on (fun x hx y hy => h x (List.mem_cons_of_mem _ hx) y (List.mem_cons_of_mem _ hy)) n2⟩
    obtain ⟨b, hb, e⟩ := List.mem_map.mp hm
    have := h b (List.mem_cons_of_mem _ hb) a (List.mem_cons_self ..) e
    exact n1 (this ▸ hb)
/-- tuples stand -/
def TupX (H H' : Hp) : Prop := ∀ p xs, H p = some (.tup xs) → H' p = some (.tup xs)
theorem TupX.mk {H : Hp} {t oa : Addr} {o : HO} {u u' : List V} (ht : H t = none) (ho : H oa = some (.lst u)) : TupX H (upd (upd H t o) oa (.lst u')) := fun p xs e => by
  rw [upd_ne (ne_of e ho (by intro z; cases z)), upd_ne (ne_of_none e ht)]
  exact e
theorem CsAt.sn {H H' : Hp} {xs : List V} {cs : List (Str × Int)} {p : Addr} {c : Str × Int} (h : CsAt H xs cs) (k : TupX H H') (hp : H' p = some (.tup [.str c.1, .int c.2])) : CsAt H' (xs ++ [.ref p]) (cs ++ [c]) := by
  refine ⟨by rw [List.length_append, List.length_append, h.1]; rfl, fun i c' hc => ?_⟩
  by_cases hi : i < cs.length
  · rw [List.getElem?_append_left hi] at hc
    obtain ⟨q, h1, h2⟩ := h.2 i c' hc
    exact ⟨q, by rw [List.getElem?_append_left (by rw [h.1]; exact hi)]; exact h1, k _ _ h2⟩
  · have : i = cs.length := by
      have := (List.getElem?_eq_some_iff.mp hc).1
      rw [List.length_append, List.length_singleton] at this
      omega
    subst this
    rw [List.getElem?_append_right (Nat.le_refl _), Nat.sub_self] at hc
    cases hc
    exact ⟨p, by rw [List.getElem?_append_right (by rw [h.1]; exact Nat.le_refl _), h.1, Nat.sub_self]; rfl, hp⟩
theorem RowsAt.sn {H H' : Hp} {xs : List V} {rs : List FRow} {p : Addr} {c : FRow} (h : RowsAt H xs rs) (k : TupX H H') (hp : H' p = some (.tup [.str c.1, parV c.2])) : RowsAt H' (xs ++ [.ref p]) (rs ++ [c]) := by
  refine ⟨by rw [List.length_append, List.length_append, h.1]; rfl, fun i c' hc => ?_⟩
  by_cases hi : i < rs.length
  · rw [List.getElem?_append_left hi] at hc
    obtain ⟨q, h1, h2⟩ := h.2 i c' hc
    exact ⟨q, by rw [List.getElem?_append_left (by rw [h.1]; exact hi)]; exact h1, k _ _ h2⟩
  · have : i = rs.length := by
      have := (List.getElem?_eq_some_iff.mp hc).1
      rw [List.length_append, List.length_singleton] at this
      omega
    subst this
    rw [List.getElem?_append_right (Nat.le_refl _), Nat.sub_self] at hc
    cases hc
    exact ⟨p, by rw [List.getElem?_append_right (by rw [h.1]; exact Nat.le_refl _), h.1, Nat.sub_self]; rfl, hp⟩
theorem ext_two {H0 H : Hp} {t oa : Addr} {o u : HO} (k : Ext H0 H) (ho : H0 oa = none) (ht : H t = none) : Ext H0 (upd (upd H t o) oa u) := fun x w e => by
  rw [upd_ne (ne_of_none e ho), upd_ne (ne_of_none (k _ _ e) ht)]
  exact k _ _ e
theorem ren_take (f : Str → Str) {rs : List FRow} {i : Nat} {r : FRow} (h : rs[i]? = some r) : renR f (rs.take (i + 1)) = renR f (rs.take i) ++ [(f r.1, r.2.map f)] := by
  unfold renR
  rw [take_snoc h, List.map_append]
  rfl
theorem renC_take (f : Str → Str) {cs : List (Str × Int)} {i : Nat} {c : Str × Int} (h : cs[i]? = some c) : renC f (cs.take (i + 1)) = renC f (cs.take i) ++ [(f c.1, c.2)] := by
  unfold renC
  rw [take_snoc h, List.map_append]
  rfl
section
variable {P : Program} {w : World} {K : PySem.W.Frag} {mg : Str → Option Value} {base : Heap}
/-! ### _law_renamed -/
abbrev nRenamed : List Str := ["_law_state", "_law_rows", "_law_claims_here", "_law_balances_here", "_law_names", "_law_others", "_law_moved", "_law_row", "_law_name", "_law_parent", "_law_claim"]
def spRenamed (ns : List Int) : Sp := fun vs H Q _ => ∃ (d g c lr lw bf : Addr) (b : Nat) (rx xs : List V) (rs : List FRow) (cs bs : List (Str × Int)), vs = [.ref d, .ref lr, .ref lw, .ref bf] ∧ Dw ns d g c b H ∧ b ≤ 800000000 ∧
  (lr ≠ d ∧ lr ≠ g ∧ lw ≠ d ∧ lw ≠ g ∧ bf ≠ d ∧ bf ≠ g) ∧ H lr = some (.lst rx) ∧ RowsAt H rx rs ∧ Good rs ∧ H lw = some (.lst xs) ∧ CsAt H xs cs ∧ CsOk rs cs ∧ H bf = some (.dK (dB bs)) ∧ BsN rs bs ∧
  ∀ (f : Str → Str) (t lo lc lb : Addr) (ox ys : List V) (H' : Hp), H' t = some (.tup [.ref lo, .ref lc, .ref lb]) → (∀ a ∈ fNames rs, ∀ b ∈ fNames rs, f a = f b → a = b) → (∀ a ∈ fNames rs, nameOk (f a) = true) → H' lo = some (.lst ox) → RowsAt H' ox (renR f rs) → H' lc = some (.lst ys) → CsAt H' ys (renC f cs) → H' lb = some (.dK (dB (renC f bs))) →
    Dw ns d g c (b + 300) H' → Kp d g H H' → Q (.ref t) H'
theorem scRenamed : FnScope nRenamed ["_law_state", "_law_rows", "_law_claims_here", "_law_balances_here"] (defScope sLRenamed) := ⟨rfl, rfl, rfl, by decide +kernel, rfl, by decide +kernel, by decide +kernel⟩
theorem ok_renamed {f fW : Addr} {fd fdW : FuncData} (ns : List Int) (F : Fun K "_law_renamed" "_law_renamed" sLRenamed f fd) (T : Names mg)
    (GW : FnOk P w K mg base CX0 4 fW fdW ["_law_state", "_law_size"] (spWords ns)) (bW : Binds K fdW ["_law_state", "_law_size"] []) (kW : PySem.W.keepIn K (.ref fW) = true) (mW : mg "_law_words" = some (.ref fW)) :
    FnOk P w K mg base CX0 5 f fd ["_law_state", "_law_rows", "_law_claims_here", "_law_balances_here"] (spRenamed ns) := by
  refine F.ok scRenamed (fun vs H Q E h => ?_) (fun cdv A outer s H vs Q E hr h => ?_)
  · obtain ⟨d, g, c, lr, lw, bf, b, rx, xs, rs, cs, bs, rfl, _⟩ := h
    rfl
  · obtain ⟨d, g, c, lr, lw, bf, b, rx, xs, rs, cs, bs, rfl, D, hb, ⟨nrd, nrg, nwd, nwg, nbd, nbg⟩, hlr, hR, G, hlw, hC, hco, hbf, hN, k⟩ := h
    have hu := hu_of hr
    have nd := scRenamed.nd
    have hr4 := hr
    refine ⟨_, pss_cons (ps_set (i := 4) nd rfl (.inr rfl) (pe_callTy (call_dictP rfl) rfl T.dict (by decide +kernel) (pa_cons (Gh.pe_listZip rfl (pa_cons (pe_lc (own := [("_law_row", 7)]) (g := gName 7) (tt := tYes) rfl nd (pi_list (pv 1)) (blkOk_by (N := nRenamed) (sc := defScope sLRenamed) (by decide +kernel))
(fun _ _ _ _ _ => pg_name (i := 7) nd rfl (.inl rfl)) (fun _ _ _ _ _ => pts_nil) (fun _ _ _ _ _ => pe_ix (r := rIxT K) ix_tup (pv 7) pe_int (fun _ _ => rfl))) (pa_cons (pe_call GW hr4 rfl mW kW bW .nil pass0 (pa_cons (pv 0) (pa_cons (pe_callB call_len_seq rfl T.len PySem.boot_len (pa_cons (pv 1) pa_nil)) pa_nil))) pa_nil)) rfl T.list (by decide +kernel) rfl T.zip) pa_nil)))
(pss_cons (ps_setLc (i := 5) (own := [("_law_name", 8), ("_law_parent", 9)]) (g := gTup K 2 (gCons (gName 8) (gCons (gName 9) gNil))) (tt := tYes) rfl nd rfl rfl (sw_true rfl rfl rfl (by decide +kernel)) (pi_list (pv 1)) (blkOk_by (N := nRenamed) (sc := defScope sLRenamed) (by decide +kernel))
(fun _ _ _ _ _ => (by exact (pg_tup rfl (pgs_cons (pg_name (i := 8) nd rfl (.inl rfl)) (pgs_cons (pg_name (i := 9) nd rfl (.inl rfl)) pgs_nil))))) (fun _ _ _ _ _ => pts_nil) (fun _ _ _ _ _ => pe_tup (pa_cons (pe_dget hu (pv 4) (pv 8) (fun _ _ => rfl)) (pa_cons (pe_ifExp (pt_cmpR op_isN (pv 9) pe_non (nomark _)) pe_non (pe_dget hu (pv 4) (pv 9) (fun _ _ => rfl))) pa_nil))))
(pss_cons (ps_set (i := 6) nd rfl (.inl rfl) (pe_callTy (call_dictP rfl) rfl T.dict (by decide +kernel) (pa_cons (pe_lock (pe_lc (own := [("_law_name", 8)]) (g := gName 8) (tt := tYes) rfl nd (pi_keys (pv 3)) (blkOk_by (N := nRenamed) (sc := defScope sLRenamed) (by decide +kernel))
(fun _ _ _ _ _ => pg_name (i := 8) nd rfl (.inl rfl)) (fun _ _ _ _ _ => pts_nil) (fun _ _ _ _ _ => pe_tup (pa_cons (pe_dget hu (pv 4) (pv 8) (fun _ _ => rfl)) (pa_cons (pe_dget hu (pv 3) (pv 8) (fun _ _ => rfl)) pa_nil))))) pa_nil)))
(pss_one (ps_ret (pe_tup (pa_cons (pv 5) (pa_cons (pe_lc (own := [("_law_name", 8), ("_law_claim", 10)]) (g := gTup K 2 (gCons (gName 8) (gCons (gName 10) gNil))) (tt := tYes) rfl nd (pi_list (pv 2)) (blkOk_by (N := nRenamed) (sc := defScope sLRenamed) (by decide +kernel))
(fun _ _ _ _ _ => (by exact (pg_tup rfl (pgs_cons (pg_name (i := 8) nd rfl (.inl rfl)) (pgs_cons (pg_name (i := 10) nd rfl (.inl rfl)) pgs_nil))))) (fun _ _ _ _ _ => pts_nil) (fun _ _ _ _ _ => pe_tup (pa_cons (pe_dget hu (pv 4) (pv 8) (fun _ _ => rfl)) (pa_cons (pv 10) pa_nil)))) (pa_cons (pv 6) pa_nil)))))))), ?_⟩
    have rl : rx.length = rs.length := hR.1
    have r8 := G.2.1
    have nnd := (good_nodup G.2.2).1
    -- the names
    refine ⟨_, rfl, lr, rfl, ⟨_, SqL.of hlr⟩, fun na hna => ?_⟩
    refine lc_it walk_list (fun i H' => H' na = some (.lst (((fNames rs).take i).map V.str)) ∧ Ext H H') ⟨upd_same, Ext.new hna⟩ (fun i H' _ ⟨_, e⟩ => SqL.of (e _ _ hlr)) ?_ ?_
    · rintro i' z H6 H6' hi' ⟨d6, k6⟩ ⟨rfl, hz⟩
      obtain ⟨r, p, hr1', rfl, hp⟩ := hR.get hz
      have hrn : (fNames rs)[i']? = some r.1 := by unfold fNames; rw [List.getElem?_map, hr1']; rfl
      refine ⟨rfl, yes_of ?_⟩
      refine ⟨_, rfl, p, _, _, _, rfl, rfl, SqT.of (k6 _ _ hp), (show atI [V.str r.1, parV r.2] ((0 : Nat) : Int) = some (V.str r.1) from atI_nat rfl), _, d6, ?_, ?_, fun x o e => ?_⟩
      · rw [List.length_map, List.length_take]
        exact small1000 (by omega)
      · rw [upd_same, take_snoc hrn, List.map_append]
        rfl
      · rw [upd_ne (ne_of_none e hna)]
        exact k6 _ _ e
    rintro H1 ⟨d1, k1⟩
    have e6 : (fNames rs).take rx.length = fNames rs := List.take_of_length_le (by rw [hR.1]; unfold fNames; rw [List.length_map]; exact Nat.le_refl _)
    rw [e6] at d1
    have D1 := D.keep k1
    have nnd' := D.nd hna
    have nng' := D.ng hna
    refine ⟨_, rfl, _, rfl, lr, _, rfl, .inl (SqL.of (k1 _ _ hlr)), d, g, c, _, _, rfl, D1, by omega, by omega, by omega, fun wl ws H2 wl0 nwld nwlg w2 wlen wnd wok D2 k2 => ?_⟩
    have k02 := (Kp.of k1).trans k2
    have hl : ws.length = (fNames rs).length := by rw [wlen]; unfold fNames; rw [List.length_map]; omega
    have znd : (fNames (zipR (fNames rs) ws)).Nodup := by rw [zip_names hl]; exact nnd
    refine ⟨na, wl, _, _, rfl, SqL.of (k2 _ _ nnd' nng' d1), SqL.of w2, fun H3 lz ts K3 lz0 ts0 lzn hlz hpz => ?_⟩
    refine ⟨lz, ts, kvs (zipR (fNames rs) ws), rfl, SqL.of hlz, paired_zip hl hpz, fun nm hnm => ?_⟩
    rw [merge_rows znd]
    have K4 : Ext H2 (upd H3 nm (.dK (kvs (zipR (fNames rs) ws)))) := Gk.Ext.trans (fun b o e => K3 b o e) (Gk.Ext.new hnm)
    have n4 : (upd H3 nm (.dK (kvs (zipR (fNames rs) ws)))) nm = some (.dK (kvs (zipR (fNames rs) ws))) := upd_same
    generalize upd H3 nm (.dK (kvs (zipR (fNames rs) ws))) = H4 at K4 n4 ⊢
    have k04 := k02.trans (Kp.of K4)
    have D4 := D2.keep K4
    have lr4 := k04 _ _ nrd nrg hlr
    have lw4 := k04 _ _ nwd nwg hlw
    have bf4 := k04 _ _ nbd nbg hbf
    have R4 := hR.kp D k04
    have C4 := hC.kp D k04
    have fg : ∀ {H' : Hp}, H' nm = some (.dK (kvs (zipR (fNames rs) ws))) → ∀ {n : Str}, n ∈ fNames rs → DGet H' nm (.str n) (some (.str (nmF (zipR (fNames rs) ws) n))) := fun e n hn => nm_get hl nnd e hn
    have finj := nm_inj hl nnd wnd
    have fok := nm_ok hl nnd wok
    generalize nmF (zipR (fNames rs) ws) = f at fg finj fok
    generalize kvs (zipR (fNames rs) ws) = zk at fg n4
    clear K3 K4 hpz lzn ts0 hnm hlz k02 k2 D2 w2 d1 k1 D1 e6
    -- the rows
    refine ⟨_, rfl, lr, rfl, ⟨_, SqL.of lr4⟩, fun oa hoa => ?_⟩
    refine lc_it walk_list (fun i H' => ∃ ox, H' oa = some (.lst ox) ∧ RowsAt H' ox (renR f (rs.take i)) ∧ Ext H4 H') ⟨[], upd_same, ⟨rfl, fun i r h => by cases h⟩, Ext.new hoa⟩ (fun i H' _ ⟨_, _, _, e⟩ => SqL.of (e _ _ lr4)) ?_ ?_
    · rintro i' z H6 H6' hi' ⟨ox, d6, r6, k6⟩ ⟨rfl, hz⟩
      obtain ⟨r, p, hr1', rfl, hp⟩ := R4.get hz
      have hrm := List.mem_of_getElem? hr1'
      have hrn : r.1 ∈ fNames rs := List.mem_map.mpr ⟨r, hrm, rfl⟩
      have olen : ox.length = i' := by rw [r6.1]; unfold renR; rw [List.length_map, List.length_take]; omega
      have fin : ∀ t, H6' t = none → ∃ acc, (upd H6' t (.tup [.str (f r.1), parV (r.2.map f)])) oa = some (.lst acc) ∧ acc.length < sizeLine ∧ ∃ ox', (upd (upd H6' t (.tup [.str (f r.1), parV (r.2.map f)])) oa (.lst (acc ++ [.ref t]))) oa = some (.lst ox') ∧ RowsAt (upd (upd H6' t (.tup [.str (f r.1), parV (r.2.map f)])) oa (.lst (acc ++ [.ref t]))) ox' (renR f (rs.take (i' + 1))) ∧ Ext H4 (upd (upd H6' t (.tup [.str (f r.1), parV (r.2.map f)])) oa (.lst (acc ++ [.ref t]))) := fun t ht => by
        have nto : t ≠ oa := fun e => by rw [e, d6] at ht; cases ht
        refine ⟨ox, by rw [upd_ne nto.symm]; exact d6, small1000 (by omega), _, upd_same, ?_, ext_two k6 hoa ht⟩
        rw [ren_take f hr1']
        exact r6.sn (TupX.mk ht d6) (by rw [upd_ne nto, upd_same])
      have kp := k6 _ _ hp
      obtain ⟨n, par⟩ := r
      cases par with
      | none =>
        refine ⟨p, _, rfl, SqT.of kp, rfl, _, _, rfl, _, _, rfl, rfl, rfl, yes_of ?_⟩
        refine ⟨_, rfl, _, rfl, nm, _, rfl, fg (k6 _ _ n4) hrn, _, rfl, rfl, _, rfl, iteS rfl ⟨by show 2 ≤ sizeLine; decide, fun t ht => fin t ht⟩⟩
      | some m =>
        have hmn := ((good_mem G.2.2 hrm).2 m rfl).1
        refine ⟨p, _, rfl, SqT.of kp, rfl, _, _, rfl, _, _, rfl, rfl, rfl, yes_of ?_⟩
        refine ⟨_, rfl, _, rfl, nm, _, rfl, fg (k6 _ _ n4) hrn, _, rfl, rfl, _, rfl, iteN (by intro z; cases z) ⟨_, rfl, _, rfl, nm, _, rfl, fg (k6 _ _ n4) hmn, by show 2 ≤ sizeLine; decide, fun t ht => fin t ht⟩⟩
    rintro H5 ⟨ox, d5, r5, k5⟩
    rw [show rs.take rx.length = rs from List.take_of_length_le (by omega)] at r5
    have bf5 := k5 _ _ bf4
    have lw5 := k5 _ _ lw4
    have C5 := C4.ext k5
    have D5 := D4.keep k5
    have k05 := k04.trans (Kp.of k5)
    have n5 := k5 _ _ n4
    clear k5 D4 k04 lr4 lw4 bf4 R4 C4 n4
    have nmb : nm ≠ bf := fun e => by
      obtain ⟨n, hn⟩ : ∃ n, n ∈ fNames rs := by
        have := good_names G
        cases e : fNames rs with
        | nil => exact absurd e this.1
        | cons a _ => exact ⟨a, List.mem_cons_self ..⟩
      have h := fg n5 hn
      rw [e] at h
      rcases h with ⟨kvs, ky, h1 | ⟨_, h1⟩, h2, h3⟩ | ⟨kvs, ky, _, h1 | ⟨_, h1⟩, h2, _⟩
      · rw [bf5] at h1
        cases h1
        have := valV_dB_int h3.symm
        obtain ⟨z, hz⟩ := this
        cases hz
      · rw [bf5] at h1; cases h1
      · rw [bf5] at h1; cases h1
      · rw [bf5] at h1; cases h1
    -- the balances
    refine ⟨bf, _, bf5, trivial, fun od => ?_⟩
    have nL : (upd H5 bf (.frz od (.dK (dB bs)))) nm = some (.dK zk) := by rw [upd_ne nmb]; exact n5
    have oth : ∀ x o, x ≠ bf → H5 x = some o → (upd H5 bf (.frz od (.dK (dB bs)))) x = some o := fun x o n e => by rw [upd_ne n]; exact e
    have atL : (upd H5 bf (.frz od (.dK (dB bs)))) bf = some (.frz od (.dK (dB bs))) := upd_same
    have nonL : ∀ x, (upd H5 bf (.frz od (.dK (dB bs)))) x = none → H5 x = none ∧ x ≠ bf := fun x hx => by
      have n : x ≠ bf := fun e => by rw [e, atL] at hx; cases hx
      rw [upd_ne n] at hx
      exact ⟨hx, n⟩
    generalize upd H5 bf (.frz od (.dK (dB bs))) = HL at nL oth atL nonL ⊢
    refine ⟨_, rfl, bf, od, rfl, .inl ⟨_, atL, fun ba hba => ?_⟩⟩
    refine lc_it walk_keys (fun i H' => ∃ yx, H' ba = some (.lst yx) ∧ CsAt H' yx (renC f (bs.take i)) ∧ Ext HL H') ⟨[], upd_same, ⟨rfl, fun i r h => by cases h⟩, Ext.new hba⟩ (fun i H' _ ⟨_, _, _, e⟩ => e _ _ atL) ?_ ?_
    · rintro i' z H6 H6' hi' ⟨yx, d6, c6, k6⟩ ⟨rfl, ky, vv, hkv, rfl⟩
      obtain ⟨p, hp, rfl, rfl⟩ : ∃ p : Str × Int, bs[i']? = some p ∧ (Sum.inr p.1 : Key) = ky ∧ V.int p.2 = vv := by
        unfold dB at hkv
        rw [List.getElem?_map] at hkv
        obtain ⟨p, hp, e⟩ := Option.map_eq_some_iff.mp hkv
        cases e
        exact ⟨p, hp, rfl, rfl⟩
      have hpm := List.mem_of_getElem? hp
      have b8 := bs_len G hN
      have ilt := (List.getElem?_eq_some_iff.mp hp).1
      have ylen : yx.length = i' := by rw [c6.1]; unfold renC; rw [List.length_map, List.length_take]; omega
      refine ⟨rfl, yes_of ?_⟩
      refine ⟨_, rfl, _, rfl, nm, _, rfl, fg (k6 _ _ nL) (hN.2 p hpm), _, rfl, _, rfl, bf, _, rfl, get_dB (.inr ⟨od, k6 _ _ atL⟩) hN.1 hpm, by show 2 ≤ sizeLine; decide, fun t ht => ?_⟩
      have nto : t ≠ ba := fun e => by rw [e, d6] at ht; cases ht
      refine ⟨yx, by rw [upd_ne nto.symm]; exact d6, small1000 (by omega), _, upd_same, ?_, ext_two k6 hba ht⟩
      rw [renC_take f hp]
      exact CsAt.sn c6 (TupX.mk ht d6) (by rw [upd_ne nto, upd_same])
    rintro H6 ⟨yx, d6, c6, k6⟩
    have hbl : (dB bs).length = bs.length := by unfold dB; rw [List.length_map]
    rw [show bs.take (dB bs).length = bs from List.take_of_length_le (by omega)] at c6
    refine ⟨k6 _ _ atL, ?_⟩
    have nba := (nonL ba hba).2
    have K7 : Ext H5 (upd H6 bf (.dK (dB bs))) := fun x o e => by
      by_cases n : x = bf
      · subst n
        rw [upd_same, ← bf5, e]
      · rw [upd_ne n]
        exact k6 _ _ (oth x o n e)
    have d7 : (upd H6 bf (.dK (dB bs))) ba = some (.lst yx) := by rw [upd_ne nba]; exact d6
    have c7 : CsAt (upd H6 bf (.dK (dB bs))) yx (renC f bs) := ⟨c6.1, fun i c hc => by
      obtain ⟨p, a1, a2⟩ := c6.2 i c hc
      exact ⟨p, a1, by rw [upd_ne (ne_of a2 (k6 _ _ atL) (by intro z; cases z))]; exact a2⟩⟩
    generalize upd H6 bf (.dK (dB bs)) = H7 at K7 d7 c7 ⊢
    obtain ⟨ps, rfl⟩ := cs_refs c7
    have ndb : ((renC f bs).map (·.1)).Nodup := by
      unfold renC
      rw [List.map_map]
      have : (bs.map ((fun x : Str × Int => x.1) ∘ fun c : Str × Int => (f c.1, c.2))) = (bs.map (·.1)).map f := by rw [List.map_map]; rfl
      rw [this]
      refine nodup_on ?_ hN.1
      intro a ha b hb e
      obtain ⟨p, hp, rfl⟩ := List.mem_map.mp ha
      obtain ⟨q, hq, rfl⟩ := List.mem_map.mp hb
      exact finj _ (hN.2 p hp) _ (hN.2 q hq) e
    refine ⟨ba, ps, dB (renC f bs), rfl, SqL.of d7, paired_bal c7, fun lb hlb => ?_⟩
    rw [merge_dB ndb]
    have K8 : Ext H5 (upd H7 lb (.dK (dB (renC f bs)))) := K7.trans (Gk.Ext.new hlb)
    have l8 : (upd H7 lb (.dK (dB (renC f bs)))) lb = some (.dK (dB (renC f bs))) := upd_same
    generalize upd H7 lb (.dK (dB (renC f bs))) = H8 at K8 l8 ⊢
    clear K7 d7 c7 k6 c6 d6 nonL atL oth nL hba nba
    have n8 := K8 _ _ n5
    have lw8 := K8 _ _ lw5
    have C8 := C5.ext K8
    have o8 := K8 _ _ d5
    have r8' := r5.ext K8
    have D8 := D5.keep K8
    have k08 := k05.trans (Kp.of K8)
    -- the claims
    refine ⟨_, rfl, _, rfl, lw, rfl, ⟨_, SqL.of lw8⟩, fun ca hca => ?_⟩
    refine lc_it walk_list (fun i H' => ∃ yx, H' ca = some (.lst yx) ∧ CsAt H' yx (renC f (cs.take i)) ∧ Ext H8 H') ⟨[], upd_same, ⟨rfl, fun i r h => by cases h⟩, Ext.new hca⟩ (fun i H' _ ⟨_, _, _, e⟩ => SqL.of (e _ _ lw8)) ?_ ?_
    · rintro i' z H6 H6' hi' ⟨yx, d6, c6, k6⟩ ⟨rfl, hz⟩
      obtain ⟨q, p, hq1, rfl, hp⟩ := CsAt.get C8 hz
      have hqm := List.mem_of_getElem? hq1
      have ilt := (List.getElem?_eq_some_iff.mp hq1).1
      have c20 := hco.1
      have ylen : yx.length = i' := by rw [c6.1]; unfold renC; rw [List.length_map, List.length_take]; omega
      refine ⟨p, _, rfl, SqT.of (k6 _ _ hp), rfl, _, _, rfl, _, _, rfl, rfl, rfl, yes_of ?_⟩
      refine ⟨_, rfl, _, rfl, nm, _, rfl, fg (k6 _ _ n8) (hco.2 q hqm).1, _, rfl, by show 2 ≤ sizeLine; decide, fun t ht => ?_⟩
      have nto : t ≠ ca := fun e => by rw [e, d6] at ht; cases ht
      refine ⟨yx, by rw [upd_ne nto.symm]; exact d6, small1000 (by omega), _, upd_same, ?_, ext_two k6 hca ht⟩
      rw [renC_take f hq1]
      exact CsAt.sn c6 (TupX.mk ht d6) (by rw [upd_ne nto, upd_same])
    rintro H9 ⟨yx, d9, c9, k9⟩
    rw [show cs.take xs.length = cs from List.take_of_length_le (by rw [hC.1]; exact Nat.le_refl _)] at c9
    refine ⟨_, rfl, by show 3 ≤ sizeLine; decide, fun t ht => ?_⟩
    have KT := k9.trans (Gk.Ext.new (o := .tup [.ref oa, .ref ca, .ref lb]) ht)
    have kt : Ext H9 (upd H9 t (.tup [.ref oa, .ref ca, .ref lb])) := Gk.Ext.new ht
    exact k f t oa ca lb _ yx _ upd_same finj fok (KT _ _ o8) (r8'.ext KT) (kt _ _ d9) (c9.ext kt) (KT _ _ l8) ((D8.keep KT).mono (by omega)) (k08.trans (Kp.of KT))
end
end Lw

set_option Elab.async false
set_option linter.all false
set_option maxRecDepth 100000
set_option maxHeartbeats 4000000
namespace Lw
open L2 hiding Ext
open PySem PySem.Spec PyProof.Rows Gn Gr Gk Go Gt Gf Gu
theorem cut_drop (xs : List V) (i : Nat) (h : i ≤ xs.length) : cutV xs (some (i : Nat)) none = xs.drop i := by
  unfold cutV
  have e : HT.sIx xs.length 0 (some ((i : Nat) : Int)) = min i xs.length := HT.sIx_nat _ _ _
  rw [e, Nat.min_eq_left h]
  have e0 : HT.sIx xs.length xs.length none = xs.length := rfl
  rw [e0]
  exact List.take_of_length_le (by rw [List.length_drop]; exact Nat.le_refl _)
theorem CsAt.app {H : Hp} {xs ys : List V} {cs es : List (Str × Int)} (h : CsAt H xs cs) (k : CsAt H ys es) : CsAt H (xs ++ ys) (cs ++ es) := by
  refine ⟨by rw [List.length_append, List.length_append, h.1, k.1], fun i c hc => ?_⟩
  by_cases hi : i < cs.length
  · rw [List.getElem?_append_left hi] at hc
    rw [List.getElem?_append_left (by rw [h.1]; exact hi)]
    exact h.2 i c hc
  · rw [List.getElem?_append_right (by omega)] at hc
    rw [List.getElem?_append_right (by rw [h.1]; omega), h.1]
    exact k.2 _ c hc
theorem CsAt.drop {H : Hp} {xs : List V} {cs : List (Str × Int)} (h : CsAt H xs cs) (n : Nat) : CsAt H (xs.drop n) (cs.drop n) := by
  refine ⟨by rw [List.length_drop, List.length_drop, h.1], fun i c hc => ?_⟩
  rw [List.getElem?_drop] at hc
  obtain ⟨p, h1, h2⟩ := h.2 _ c hc
  exact ⟨p, by rw [List.getElem?_drop]; exact h1, h2⟩
theorem split_at : ∀ {l : List (Str × Int)} {i : Nat} {x : Str × Int}, l[i]? = some x → l.take i ++ [x] ++ l.drop (i + 1) = l
  | [], _, _, h => by cases h
  | a :: r, 0, x, h => by cases h; rfl
  | a :: r, i + 1, x, h => by
    show a :: (r.take i ++ [x] ++ r.drop (i + 1)) = a :: r
    rw [split_at (l := r) (by simpa using h)]
section
variable {P : Program} {w : World} {K : PySem.W.Frag} {mg : Str → Option Value} {base : Heap} {C fI pN fN fA : Addr} {mc : Value} {fdN fdA : FuncData}
/-! ### entitlements, totals, subtree -/
abbrev nEnt : List Str := ["forest", "claims", "balances"]
def spEnt (C : Addr) : Sp := fun vs H Q _ => ∃ (a cl b : Addr) (rs : List FRow) (bs cs : List (Str × Int)) (xs : List V), vs = [.ref a, .ref cl, .ref b] ∧ FoAt C H a rs ∧ Good rs ∧ ClAt H cl xs ∧ CsAt H xs cs ∧ CsOk rs cs ∧ H b = some (.dK (dB bs)) ∧ BsOk rs bs ∧
  ∀ H' p, Ext H H' → H p = none → H' p = some (.lst ((entF rs bs cs).map V.int)) → Q (.ref p) H'
theorem scEnt : FnScope nEnt ["forest", "claims", "balances"] (defScope sEntitlements) := ⟨rfl, rfl, rfl, by decide +kernel, rfl, by decide +kernel, by decide +kernel⟩
theorem ok_ent {f f2 f3 f5 : Addr} {fd fd2 fd3 fd5 : FuncData} (F : Fun K "entitlements" "entitlements" sEntitlements f fd)
    (GC : FnOk P w K mg base CX0 4 f2 fd2 ["forest", "claims"] (spCkClaims C)) (bC : Binds K fd2 ["forest", "claims"] []) (kC : PySem.W.keepIn K (.ref f2) = true) (mC : mg "check_claims" = some (.ref f2))
    (GB : FnOk P w K mg base CX0 3 f3 fd3 ["forest", "balances"] (spCkBal C)) (bB : Binds K fd3 ["forest", "balances"] []) (kB : PySem.W.keepIn K (.ref f3) = true) (mB : mg "check_balances" = some (.ref f3))
    (GG : FnOk P w K mg base CX0 5 f5 fd5 ["forest", "claims", "balances"] (spGrants C)) (bG : Binds K fd5 ["forest", "claims", "balances"] []) (kG : PySem.W.keepIn K (.ref f5) = true) (mG : mg "grants" = some (.ref f5)) :
    FnOk P w K mg base CX0 6 f fd ["forest", "claims", "balances"] (spEnt C) := by
  refine F.ok scEnt (fun vs H Q E h => ?_) (fun cdv A outer s H vs Q E hr h => ?_)
  · obtain ⟨a, cl, b, rs, bs, cs, xs, rfl, _⟩ := h
    rfl
  · obtain ⟨a, cl, b, rs, bs, cs, xs, rfl, hF, hG, hcl, hcs, hco, hb, hB, k⟩ := h
    have nd := scEnt.nd
    have hr3 : Room 3 (A.deeper (envOfC "entitlements" (defScope sEntitlements) s.heap.objs.size f cdv)) := hr.mono (by decide)
    have hr4 : Room 4 (A.deeper (envOfC "entitlements" (defScope sEntitlements) s.heap.objs.size f cdv)) := hr.mono (by decide)
    refine ⟨_, pss_cons (ps_expr (pe_call GC hr4 rfl mC kC bC .nil pass0 (pa_cons (pv 0) (pa_cons (pv 1) pa_nil))))
(pss_cons (ps_expr (pe_call GB hr3 rfl mB kB bB .nil pass0 (pa_cons (pv 0) (pa_cons (pv 2) pa_nil))))
(pss_one (ps_ret (pe_call GG hr rfl mG kG bG .nil pass0 (pa_cons (pv 0) (pa_cons (pv 1) (pa_cons (pv 2) pa_nil))))))), ?_⟩
    refine ⟨_, rfl, _, rfl, a, cl, rs, cs, xs, rfl, hF, hG, hcl, hcs, hco, fun H1 k1 => ?_⟩
    refine ⟨_, rfl, _, rfl, a, b, rs, bs, rfl, hF.ext k1, hG, k1 _ _ hb, hB, fun H2 k2 => ?_⟩
    have k2 := k1.trans k2
    refine ⟨_, rfl, _, rfl, _, rfl, a, cl, b, rs, bs, cs, xs, rfl, hF.ext k2, hG, hcl.ext k2, hcs.ext k2, fun c hc => (hco.2 c hc).1, by have := hco.1; omega, k2 _ _ hb, hB.1, fun H3 p k3 hp0 hp => ?_⟩
    exact k _ p (k2.trans k3) (none_of k2 hp0) hp

abbrev nTotals : List Str := ["forest", "balances"]
def spTotals (C : Addr) : Sp := fun vs H Q _ => ∃ (a b : Addr) (rs : List FRow) (bs : List (Str × Int)), vs = [.ref a, .ref b] ∧ FoAt C H a rs ∧ Good rs ∧ H b = some (.dK (dB bs)) ∧ BsOk rs bs ∧
  ∀ H' q, Ext H H' → H q = none → H' q = some (.dK (dN (fNames rs) (totF rs bs))) → Q (.ref q) H'
theorem scTotals : FnScope nTotals ["forest", "balances"] (defScope sTotals) := ⟨rfl, rfl, rfl, by decide +kernel, rfl, by decide +kernel, by decide +kernel⟩
theorem ok_totals {f fB fT : Addr} {fd fdB fdT : FuncData} (F : Fun K "totals" "totals" sTotals f fd)
    (GB : FnOk P w K mg base CX0 3 fB fdB ["forest", "balances"] (spCkBal C)) (bB : Binds K fdB ["forest", "balances"] []) (kB : PySem.W.keepIn K (.ref fB) = true) (mB : mg "check_balances" = some (.ref fB))
    (GT : FnOk P w K mg base CX0 4 fT fdT ["forest", "balances"] (spTotOf C)) (bT : Binds K fdT ["forest", "balances"] []) (kT : PySem.W.keepIn K (.ref fT) = true) (mT : mg "totals_of" = some (.ref fT)) :
    FnOk P w K mg base CX0 5 f fd ["forest", "balances"] (spTotals C) := by
  refine F.ok scTotals (fun vs H Q E h => ?_) (fun cdv A outer s H vs Q E hr h => ?_)
  · obtain ⟨a, b, rs, bs, rfl, _⟩ := h
    rfl
  · obtain ⟨a, b, rs, bs, rfl, hF, hG, hb, hB, k⟩ := h
    have nd := scTotals.nd
    have hr3 : Room 3 (A.deeper (envOfC "totals" (defScope sTotals) s.heap.objs.size f cdv)) := hr.mono (by decide)
    refine ⟨_, pss_cons (ps_expr (pe_call GB hr3 rfl mB kB bB .nil pass0 (pa_cons (pv 0) (pa_cons (pv 1) pa_nil))))
(pss_one (ps_ret (pe_call GT hr rfl mT kT bT .nil pass0 (pa_cons (pv 0) (pa_cons (pv 1) pa_nil))))), ?_⟩
    refine ⟨_, rfl, _, rfl, a, b, rs, bs, rfl, hF, hG, hb, hB, fun H1 k1 => ?_⟩
    refine ⟨_, rfl, _, rfl, a, b, rs, bs, rfl, hF.ext k1, hG, k1 _ _ hb, hB.1, fun H2 q k2 hq0 hq => ?_⟩
    exact k H2 q (k1.trans k2) (none_of k1 hq0) hq
abbrev nSub : List Str := ["self", "name", "inner"]
theorem scSub : FnScope nSub ["self", "name"] (defScope sSub) := ⟨rfl, rfl, rfl, by decide +kernel, rfl, by decide +kernel, by decide +kernel⟩
/-! ### subtree -/
def subF (rs : List FRow) (n : Str) : List Str := (fNames rs).filter fun m => decide (n ∈ anc rs m)
def spSub (C : Addr) : Sp := fun vs H Q _ => ∃ (a : Addr) (rs : List FRow) (n : Str), vs = [.ref a, .str n] ∧ FoAt C H a rs ∧ Good rs ∧ n ∈ fNames rs ∧
  ∀ H' l, Ext H H' → H l = none → H' l = some (.lst ((subF rs n).map V.str)) → Q (.ref l) H'
theorem ok_sub {f : Addr} {fd : FuncData} (F : Fun K "subtree" "Forest.subtree" sSub f fd) (T : Names mg) (Z : Fo P w K mg base C fI pN fN fA mc fdN fdA) : FnOk P w K mg base CX0 4 f fd ["self", "name"] (spSub C) := by
  refine F.ok scSub (fun vs H Q E h => ?_) (fun cdv A outer s H vs Q E hr h => ?_)
  · obtain ⟨a, rs, n, rfl, _⟩ := h
    rfl
  · obtain ⟨a, rs, n, rfl, hF, hG, hn, k⟩ := h
    have hu := hu_of hr
    have nd := scSub.nd
    have hrN : Room 2 (A.deeper (envOfC "Forest.subtree" (defScope sSub) s.heap.objs.size f cdv)) := hr.mono (by decide)
    have hrA : Room 3 (A.deeper (envOfC "Forest.subtree" (defScope sSub) s.heap.objs.size f cdv)) := hr
    refine ⟨_, pss_cons (ps_if (pt_cmpR op_notIn_seq (pv 1) (pe_prop (pv 0) Z.Z.cl Z.hpN Z.GN hrN Z.bN .nil pass0 rfl) rfl) (pss_never) pss_nil)
(pss_one (ps_ret (pe_lc (own := [("inner", 2)]) (g := gName 2) rfl nd (pi_tup (pe_prop (pv 0) Z.Z.cl Z.hpN Z.GN hrN Z.bN .nil pass0 rfl)) (blkOk_by (N := nSub) (sc := defScope sSub) (by decide +kernel))
(fun _ _ _ _ _ => pg_name (i := 2) nd rfl (.inl rfl)) (fun _ _ _ _ _ => pts_one (pt_cmpR (r := rIn K false) op_in_seq (pv 1) (pe_meth (pv 0) Z.Z.cl Z.mA Z.GA hrA Z.bA .nil pass0 (pa_cons (pv 2) pa_nil)) rfl)) (fun _ _ _ _ _ => pv 2)))), ?_⟩
    obtain ⟨dx, q0, h1, h2⟩ := id hF
    refine ⟨_, rfl, _, rfl, a, dx, _, rfl, h1, a, rs, rfl, hF, fun H1 t k1 _ ht => ?_⟩
    refine ⟨t, _, rfl, .inr (SqT.of ht), rfl, strs_flat _, _, rfl, ?_⟩
    show if (!inV (V.str n) ((fNames rs).map V.str)) = true then _ else _
    rw [inV_strs, decide_eq_true hn]
    refine iteF ?_
    have f1 := hF.ext k1
    refine ⟨_, rfl, a, dx, _, rfl, k1 _ _ h1, a, rs, rfl, f1, fun H2 t2 k2 _ ht2 => ?_⟩
    refine ⟨t2, rfl, ⟨_, SqT.of ht2⟩, fun D hD => ?_⟩
    have k02 := k1.trans k2
    have hD0 : H D = none := none_of k02 hD
    have hl8 : (fNames rs).length ≤ 8 := by rw [fNames, List.length_map]; exact hG.2.1
    refine lc_it walk_tup (fun i H' => H' D = some (.lst ((((fNames rs).take i).filter fun m => decide (n ∈ anc rs m)).map V.str)) ∧ Ext H2 H') ⟨upd_same, Ext.new hD⟩ (fun i H' _ ⟨_, e⟩ => SqT.of (e _ _ ht2)) ?_ ?_
    · rintro i y H3 H4 hi ⟨d3, k3⟩ ⟨rfl, hy⟩
      rw [List.getElem?_map] at hy
      obtain ⟨m, hm, rfl⟩ := Option.map_eq_some_iff.mp hy
      have hmm := List.mem_of_getElem? hm
      obtain ⟨j, r, hj, hr1, hanc⟩ := anc_call hG hmm
      have f3 := hF.ext (k02.trans k3)
      obtain ⟨dx3, q3, g1, g2⟩ := id f3
      refine ⟨rfl, _, rfl, _, rfl, a, dx3, _, rfl, g1, rfl, _, rfl, a, rs, j, r, by rw [hr1]; rfl, f3, hG, hj, fun H5 l k5 hl0 hl => ?_⟩
      rw [hanc] at hl
      refine ⟨l, _, rfl, .inl (SqL.of hl), rfl, strs_flat _, _, rfl, ?_⟩
      show if inV (V.str n) ((anc rs m).map V.str) = true then _ else _
      rw [inV_strs]
      have ef := filter_take (fun m => decide (n ∈ anc rs m)) hm
      have d5 := k5 _ _ d3
      refine ite2 (fun e => ?_) (fun e => ?_)
      · rw [if_pos e] at ef
        refine ⟨_, rfl, _, d5, ?_, ?_, fun b o hb => ?_⟩
        · have h1 := List.length_filter_le (fun m => decide (n ∈ anc rs m)) ((fNames rs).take i)
          rw [List.length_take] at h1
          rw [List.length_map]
          exact small1000 (by omega)
        · rw [upd_same, ef, List.map_append]
          rfl
        · rw [upd_ne (ne_of_none hb hD)]
          exact k5 _ _ (k3 _ _ hb)
      · rw [if_neg e, List.append_nil] at ef
        exact ⟨by rw [ef]; exact d5, k3.trans k5⟩
    · rintro H3 ⟨d3, k3⟩
      rw [List.length_map, List.take_length] at d3
      exact k H3 D (k02.trans k3) hD0 d3
end
structure S10 (C y lw bf am : Addr) (rs : List FRow) (xs : List V) (cs bs : List (Str × Int)) (H : Hp) : Prop where
  F : FoAt C H y rs
  w : H lw = some (.lst xs)
  c : CsAt H xs cs
  b : H bf = some (.dK (dB bs))
  a : H am = some (.lst ((entF rs bs cs).map V.int))
theorem S10.ext {C y lw bf am : Addr} {rs : List FRow} {xs : List V} {cs bs : List (Str × Int)} {H H' : Hp} (h : S10 C y lw bf am rs xs cs bs H) (k : Ext H H') : S10 C y lw bf am rs xs cs bs H' :=
  ⟨h.F.ext k, k _ _ h.w, h.c.ext k, k _ _ h.b, k _ _ h.a⟩
theorem S10.kp {C y lw bf am : Addr} {rs : List FRow} {xs : List V} {cs bs : List (Str × Int)} {H H' : Hp} {ns : List Int} {d g c : Addr} {b : Nat} (h : S10 C y lw bf am rs xs cs bs H) (G : Good rs) (D : Dw ns d g c b H) (k : Kp d g H H') (h3 : lw ≠ d) (h4 : lw ≠ g) (h5 : bf ≠ d) (h6 : bf ≠ g) (h7 : am ≠ d) (h8 : am ≠ g) : S10 C y lw bf am rs xs cs bs H' :=
  ⟨h.F.kp G D k, k _ _ h3 h4 h.w, h.c.kp D k, k _ _ h5 h6 h.b, k _ _ h7 h8 h.a⟩
section
variable {P : Program} {w : World} {K : PySem.W.Frag} {mg : Str → Option Value} {base : Heap} {C : Addr}
/-! ### _law_split_right -/
abbrev nSplit : List Str := ["_law_state", "_law_forest_here", "_law_claims_here", "_law_balances_here", "_law_amounts", "_law_rank", "_law_name", "_law_claim", "_law_part", "_law_halves", "_law_told", "_law_due"]
def spSplit (C : Addr) (ns : List Int) : Sp := fun vs H Q _ => ∃ (d g c y lw bf am : Addr) (b : Nat) (rs : List FRow) (xs : List V) (cs bs : List (Str × Int)), vs = [.ref d, .ref y, .ref lw, .ref bf, .ref am] ∧ Dw ns d g c b H ∧ b ≤ 800000000 ∧ Good rs ∧ S10 C y lw bf am rs xs cs bs H ∧
  (lw ≠ d ∧ lw ≠ g ∧ bf ≠ d ∧ bf ≠ g ∧ am ≠ d ∧ am ≠ g) ∧ cs.length ≤ 19 ∧ 0 < cs.length ∧ CsOk rs cs ∧ BsOk rs bs ∧ ∀ H', Dw ns d g c (b + 10) H' → Kp d g H H' → Q (.bl true) H'
theorem scSplit : FnScope nSplit ["_law_state", "_law_forest_here", "_law_claims_here", "_law_balances_here", "_law_amounts"] (defScope sLSplitRight) := ⟨rfl, rfl, rfl, by decide +kernel, rfl, by decide +kernel, by decide +kernel⟩
theorem ok_split {f fT fP fEn : Addr} {fd fdT fdP fdEn : FuncData} (ns : List Int) (F : Fun K "_law_split_right" "_law_split_right" sLSplitRight f fd) (T : Names mg) (mmax : mg "max" = none) (R : Draw P w K mg base ns fT fP fdT fdP)
    (GEn : FnOk P w K mg base CX0 6 fEn fdEn ["forest", "claims", "balances"] (spEnt C)) (bEn : Binds K fdEn ["forest", "claims", "balances"] []) (kEn : PySem.W.keepIn K (.ref fEn) = true) (mEn : mg "entitlements" = some (.ref fEn)) :
    FnOk P w K mg base CX0 7 f fd ["_law_state", "_law_forest_here", "_law_claims_here", "_law_balances_here", "_law_amounts"] (spSplit C ns) := by
  refine F.ok scSplit (fun vs H Q E h => ?_) (fun cdv A outer s H vs Q E hr h => ?_)
  · obtain ⟨d, g, c, y, lw, bf, am, b, rs, xs, cs, bs, rfl, _⟩ := h
    rfl
  · obtain ⟨d, g, c, y, lw, bf, am, b, rs, xs, cs, bs, rfl, D0, hb, G, S0, ⟨nwd, nwg, nbd, nbg, nad, nag⟩, c19, cpos, co, hB, k⟩ := h
    have hu := hu_of hr
    have nd := scSplit.nd
    have hr6 := hr
    have hr2 : Room 2 (A.deeper (envOfC "_law_split_right" (defScope sLSplitRight) s.heap.objs.size f cdv)) := hr.mono (by decide)
    refine ⟨_, pss_cons (ps_set (i := 5) nd rfl (.inl rfl) (pe_call R.GT hr2 rfl R.mT R.kT R.bT .nil pass0 (pa_cons (pv 0) (pa_cons (pe_callB call_len_seq rfl T.len PySem.boot_len (pa_cons (pv 2) pa_nil)) pa_nil))))
(pss_cons (ps_asg (pe_ix ix_list (pv 2) (pv 5) (fun _ _ => rfl)) (by exact (pg_tup rfl (pgs_cons (pg_name (i := 6) nd rfl (.inl rfl)) (pgs_cons (pg_name (i := 7) nd rfl (.inl rfl)) pgs_nil)))))
(pss_cons (ps_set (i := 8) nd rfl (.inl rfl) (pe_call R.GT hr2 rfl R.mT R.kT R.bT .nil pass0 (pa_cons (pv 0) (pa_cons (pe_op op_add (pv 7) pe_int) pa_nil))))
(pss_cons (ps_set (i := 9) nd rfl (.inl rfl) (pe_op op_cat (pe_op op_cat (pe_slice sl_list (pv 2) po_none (po_some (pv 5))) (pe_lst (pa_cons (pe_tup (pa_cons (pv 6) (pa_cons (pv 8) pa_nil))) (pa_cons (pe_tup (pa_cons (pv 6) (pa_cons (pe_op op_sub (pv 7) (pv 8)) pa_nil))) pa_nil)))) (pe_slice sl_list (pv 2) (po_some (pe_op op_add (pv 5) pe_int)) po_none)))
(pss_cons (ps_set (i := 10) nd rfl (.inl rfl) (pe_call GEn hr6 rfl mEn kEn bEn .nil pass0 (pa_cons (pv 1) (pa_cons (pv 9) (pa_cons (pv 3) pa_nil)))))
(pss_cons (ps_set (i := 11) nd rfl (.inl rfl) (pe_op op_cat (pe_op op_cat (pe_slice sl_list (pv 4) po_none (po_some (pv 5))) (pe_lst (pa_cons (pe_callB (call_min2 rfl) rfl T.min (by decide +kernel) (pa_cons (pv 8) (pa_cons (pe_ix ix_list (pv 4) (pv 5) (fun _ _ => rfl)) pa_nil))) (pa_cons (pe_callB (call_max2 rfl) rfl mmax (by decide +kernel) (pa_cons pe_int (pa_cons (pe_op op_sub (pe_ix ix_list (pv 4) (pv 5) (fun _ _ => rfl)) (pv 8)) pa_nil))) pa_nil)))) (pe_slice sl_list (pv 4) (po_some (pe_op op_add (pv 5) pe_int)) po_none)))
(pss_one (ps_ret (pe_cmpR (op_eqD hr.units) (pv 10) (pv 11) (nomark _))))))))), ?_⟩
    have xl := S0.c.1
    have hbp : ∀ p ∈ bs, 0 ≤ p.2 := fun p hp => (hB.2 p hp).1
    -- the rank, its claim, a part
    refine ⟨_, rfl, _, rfl, lw, _, rfl, .inl (SqL.of S0.w), d, g, c, _, _, rfl, D0, by omega, by omega, by omega, fun r H1 r0 r1 D1 k1 => ?_⟩
    obtain ⟨i, rfl⟩ : ∃ n : Nat, r = (n : Nat) := ⟨r.toNat, by omega⟩
    have il : i < cs.length := by omega
    have ix : i < xs.length := by omega
    have S1 := S0.kp G D0 k1 nwd nwg nbd nbg nad nag
    have hc := List.getElem?_eq_getElem il
    generalize hcv : cs[i] = cc at hc
    obtain ⟨p, hp, hpc⟩ := S1.c.2 i cc hc
    obtain ⟨cm, cc0, cc9⟩ := co.2 cc (List.mem_of_getElem? hc)
    refine ⟨_, rfl, _, rfl, lw, _, _, _, rfl, rfl, SqL.of S1.w, atI_nat hp, ?_⟩
    refine ⟨p, _, rfl, SqT.of hpc, rfl, _, _, rfl, _, _, rfl, rfl, ?_⟩
    refine ⟨_, rfl, _, rfl, _, _, rfl, rfl, d, g, c, _, cc.2 + 1, rfl, D1, by omega, by omega, by omega, fun o H2 o0 o1 D2 k2 => ?_⟩
    have S2 := S1.kp G D1 k2 nwd nwg nbd nbg nad nag
    have kk := k1.trans k2
    clear S0 S1 D0 D1 k1 k2 hpc hp r0 r1
    dsimp only [List.set, L2.start, List.map, List.replicate, List.length, List.append, HAppend.hAppend, Append.append]
    -- the halves
    refine ⟨_, rfl, _, rfl, _, rfl, lw, _, rfl, SqL.of S2.w, fun p1 hp1 => ?_⟩
    rw [cut_take xs i (by omega)]
    have K1 := Gk.Ext.new (o := .lst (xs.take i)) hp1
    have P1 : (upd H2 p1 (.lst (xs.take i))) p1 = some (.lst (xs.take i)) := upd_same
    generalize upd H2 p1 (.lst (xs.take i)) = Ha at K1 P1 ⊢
    refine ⟨_, rfl, _, rfl, by show 2 ≤ sizeLine; decide, fun t1 ht1 => ?_⟩
    have K2 := K1.trans (Gk.Ext.new (o := .tup [.str cc.1, .int o]) ht1)
    have P2 := new_same (o := .tup [.str cc.1, .int o]) ht1 _ _ P1
    have T2 : (upd Ha t1 (.tup [.str cc.1, .int o])) t1 = some (.tup [.str cc.1, .int o]) := upd_same
    generalize upd Ha t1 (.tup [.str cc.1, .int o]) = Hb at K2 P2 T2 ⊢
    refine ⟨_, rfl, _, rfl, _, rfl, _, _, rfl, rfl, by show 2 ≤ sizeLine; decide, fun t2 ht2 => ?_⟩
    have K3 := K2.trans (Gk.Ext.new (o := .tup [.str cc.1, .int (cc.2 - o)]) ht2)
    have P3 := new_same (o := .tup [.str cc.1, .int (cc.2 - o)]) ht2 _ _ P2
    have T3 := new_same (o := .tup [.str cc.1, .int (cc.2 - o)]) ht2 _ _ T2
    have V3 : (upd Hb t2 (.tup [.str cc.1, .int (cc.2 - o)])) t2 = some (.tup [.str cc.1, .int (cc.2 - o)]) := upd_same
    generalize upd Hb t2 (.tup [.str cc.1, .int (cc.2 - o)]) = Hc at K3 P3 T3 V3 ⊢
    refine ⟨by show 2 ≤ sizeLine; decide, fun uu huu => ?_⟩
    have K4 := K3.trans (Gk.Ext.new (o := .lst [.ref t1, .ref t2]) huu)
    have P4 := new_same (o := .lst [.ref t1, .ref t2]) huu _ _ P3
    have T4 := new_same (o := .lst [.ref t1, .ref t2]) huu _ _ T3
    have V4 := new_same (o := .lst [.ref t1, .ref t2]) huu _ _ V3
    have U4 : (upd Hc uu (.lst [.ref t1, .ref t2])) uu = some (.lst [.ref t1, .ref t2]) := upd_same
    generalize upd Hc uu (.lst [.ref t1, .ref t2]) = Hd at K4 P4 T4 V4 U4 ⊢
    refine ⟨p1, uu, _, _, rfl, rfl, P4, U4, by rw [List.length_take, sizeLine_eq]; show _ + 2 ≤ _; omega, fun p2 hp2 => ?_⟩
    have K5 := K4.trans (Gk.Ext.new (o := .lst (xs.take i ++ [.ref t1, .ref t2])) hp2)
    have T5 := new_same (o := .lst (xs.take i ++ [.ref t1, .ref t2])) hp2 _ _ T4
    have V5 := new_same (o := .lst (xs.take i ++ [.ref t1, .ref t2])) hp2 _ _ V4
    have P5 : (upd Hd p2 (.lst (xs.take i ++ [.ref t1, .ref t2]))) p2 = some (.lst (xs.take i ++ [.ref t1, .ref t2])) := upd_same
    generalize upd Hd p2 (.lst (xs.take i ++ [.ref t1, .ref t2])) = He at K5 T5 V5 P5 ⊢
    refine ⟨_, rfl, _, rfl, _, _, rfl, rfl, _, rfl, lw, _, rfl, SqL.of (K5 _ _ S2.w), fun p3 hp3 => ?_⟩
    rw [show ((i : Nat) : Int) + 1 = ((i + 1 : Nat) : Int) by omega, cut_drop xs (i + 1) (by omega)]
    have K6 := K5.trans (Gk.Ext.new (o := .lst (xs.drop (i + 1))) hp3)
    have T6 := new_same (o := .lst (xs.drop (i + 1))) hp3 _ _ T5
    have V6 := new_same (o := .lst (xs.drop (i + 1))) hp3 _ _ V5
    have P6 := new_same (o := .lst (xs.drop (i + 1))) hp3 _ _ P5
    have Q6 : (upd He p3 (.lst (xs.drop (i + 1)))) p3 = some (.lst (xs.drop (i + 1))) := upd_same
    generalize upd He p3 (.lst (xs.drop (i + 1))) = Hf at K6 T6 V6 P6 Q6 ⊢
    refine ⟨p2, p3, _, _, rfl, rfl, P6, Q6, by rw [List.length_append, List.length_take, List.length_drop, sizeLine_eq]; show _ + 2 + _ ≤ _; omega, fun sm hsm => ?_⟩
    have K7 := K6.trans (Gk.Ext.new (o := .lst (xs.take i ++ [.ref t1, .ref t2] ++ xs.drop (i + 1))) hsm)
    have T7 := new_same (o := .lst (xs.take i ++ [.ref t1, .ref t2] ++ xs.drop (i + 1))) hsm _ _ T6
    have V7 := new_same (o := .lst (xs.take i ++ [.ref t1, .ref t2] ++ xs.drop (i + 1))) hsm _ _ V6
    have M7 : (upd Hf sm (.lst (xs.take i ++ [.ref t1, .ref t2] ++ xs.drop (i + 1)))) sm = some (.lst (xs.take i ++ [.ref t1, .ref t2] ++ xs.drop (i + 1))) := upd_same
    generalize upd Hf sm (.lst (xs.take i ++ [.ref t1, .ref t2] ++ xs.drop (i + 1))) = Hg at K7 T7 V7 M7 ⊢
    have S7 := S2.ext K7
    have D7 := D2.keep K7
    have k7 := kk.trans (Kp.of K7)
    have cM : CsAt Hg [.ref t1, .ref t2] [(cc.1, o), (cc.1, cc.2 - o)] := ⟨rfl, fun j q hq => by
      match j, hq with
      | 0, hq => cases hq; exact ⟨t1, rfl, T7⟩
      | 1, hq => cases hq; exact ⟨t2, rfl, V7⟩
      | j + 2, hq => cases hq⟩
    have cH := CsAt.app (CsAt.app (CsAt.take S7.c i) cM) (CsAt.drop S7.c (i + 1))
    have coH : CsOk rs (cs.take i ++ [(cc.1, o), (cc.1, cc.2 - o)] ++ cs.drop (i + 1)) := ⟨by rw [List.length_append, List.length_append, List.length_take, List.length_drop]; show _ + 2 + _ ≤ _; omega, fun q hq => by
      rcases List.mem_append.mp hq with hq | hq
      · rcases List.mem_append.mp hq with hq | hq
        · exact co.2 q (List.mem_of_mem_take hq)
        · simp only [List.mem_cons, List.not_mem_nil, or_false] at hq
          rcases hq with rfl | rfl
          · exact ⟨cm, o0, by show o ≤ 1000000000; omega⟩
          · exact ⟨cm, by show 0 ≤ cc.2 - o; omega, by show cc.2 - o ≤ 1000000000; omega⟩
      · exact co.2 q (List.mem_of_mem_drop hq)⟩
    clear K1 K2 K3 K4 K5 K6 K7 P1 P2 P3 P4 P5 P6 T2 T3 T4 T5 T6 T7 V3 V4 V5 V6 V7 Q6 U4 S2 D2 kk hp1 hp2 hp3 ht1 ht2 huu hsm cM
    refine ⟨_, rfl, _, rfl, _, rfl, y, sm, bf, rs, bs, _, _, rfl, S7.F, G, .inl M7, cH, coH, S7.b, hB, fun Hh la Kh _ hla => ?_⟩
    have S8 := S7.ext Kh
    have D8 := D7.keep Kh
    have k8 := k7.trans (Kp.of Kh)
    dsimp only [List.set]
    -- what is due
    obtain ⟨x, hx, he⟩ := ent_split (A := cs.take i) (B := cs.drop (i + 1)) (p := o) (q := cc.2 - o) G hbp (fun q hq => (co.2 q (List.mem_of_mem_take hq)).1) cm o0 (by omega)
    rw [show o + (cc.2 - o) = cc.2 by omega, split_at hc, show (cs.take i).length = i by rw [List.length_take]; omega] at hx he
    rw [he] at hla
    generalize hW : entF rs bs cs = W at hx hla
    have wl : W.length = cs.length := by rw [← hW, ent_len]
    have am8 : Hh am = some (.lst (W.map V.int)) := by rw [← hW]; exact S8.a
    clear cH coH M7 S7 D7 k7 Kh he
    refine ⟨_, rfl, _, rfl, _, rfl, am, _, rfl, SqL.of am8, fun p1 hp1 => ?_⟩
    rw [cut_take _ i (by rw [List.length_map]; omega), ← List.map_take]
    have K1 := Gk.Ext.new (o := .lst ((W.take i).map V.int)) hp1
    have P1 : (upd Hh p1 (.lst ((W.take i).map V.int))) p1 = some (.lst ((W.take i).map V.int)) := upd_same
    generalize upd Hh p1 (.lst ((W.take i).map V.int)) = Ha at K1 P1 ⊢
    have hat : atI (W.map V.int) ((i : Nat) : Int) = some (V.int x) := atI_nat (by rw [List.getElem?_map, hx]; rfl)
    refine ⟨_, rfl, _, rfl, _, rfl, am, _, _, _, rfl, rfl, SqL.of (K1 _ _ am8), hat, _, _, rfl, ?_⟩
    refine ⟨_, rfl, _, rfl, am, _, _, _, rfl, rfl, SqL.of (K1 _ _ am8), hat, _, rfl, _, _, rfl, rfl, _, _, rfl, ?_⟩
    rw [show (if x < o then x else o) = min o x by omega, show (if x - o > 0 then x - o else 0) = max 0 (x - o) by omega]
    refine ⟨by show 2 ≤ sizeLine; decide, fun uu huu => ?_⟩
    have K2 := K1.trans (Gk.Ext.new (o := .lst [.int (min o x), .int (max 0 (x - o))]) huu)
    have P2 := new_same (o := .lst [.int (min o x), .int (max 0 (x - o))]) huu _ _ P1
    have U2 : (upd Ha uu (.lst [.int (min o x), .int (max 0 (x - o))])) uu = some (.lst [.int (min o x), .int (max 0 (x - o))]) := upd_same
    generalize upd Ha uu (.lst [.int (min o x), .int (max 0 (x - o))]) = Hb at K2 P2 U2 ⊢
    refine ⟨p1, uu, _, _, rfl, rfl, P2, U2, by rw [List.length_map, List.length_take, sizeLine_eq]; show _ + 2 ≤ _; omega, fun p2 hp2 => ?_⟩
    have K3 := K2.trans (Gk.Ext.new (o := .lst ((W.take i).map V.int ++ [.int (min o x), .int (max 0 (x - o))])) hp2)
    have P3 : (upd Hb p2 (.lst ((W.take i).map V.int ++ [.int (min o x), .int (max 0 (x - o))]))) p2 = some (.lst ((W.take i).map V.int ++ [.int (min o x), .int (max 0 (x - o))])) := upd_same
    generalize upd Hb p2 (.lst ((W.take i).map V.int ++ [.int (min o x), .int (max 0 (x - o))])) = Hc at K3 P3 ⊢
    refine ⟨_, rfl, _, rfl, _, _, rfl, rfl, _, rfl, am, _, rfl, SqL.of (K3 _ _ am8), fun p3 hp3 => ?_⟩
    rw [show ((i : Nat) : Int) + 1 = ((i + 1 : Nat) : Int) by omega, cut_drop _ (i + 1) (by rw [List.length_map]; omega), ← List.map_drop]
    have K4 := K3.trans (Gk.Ext.new (o := .lst ((W.drop (i + 1)).map V.int)) hp3)
    have P4 := new_same (o := .lst ((W.drop (i + 1)).map V.int)) hp3 _ _ P3
    have Q4 : (upd Hc p3 (.lst ((W.drop (i + 1)).map V.int))) p3 = some (.lst ((W.drop (i + 1)).map V.int)) := upd_same
    generalize upd Hc p3 (.lst ((W.drop (i + 1)).map V.int)) = Hd at K4 P4 Q4 ⊢
    refine ⟨p2, p3, _, _, rfl, rfl, P4, Q4, by rw [List.length_append, List.length_map, List.length_map, List.length_take, List.length_drop, sizeLine_eq]; show _ + 2 + _ ≤ _; omega, fun du hdu => ?_⟩
    have ed : (W.take i).map V.int ++ [V.int (min o x), V.int (max 0 (x - o))] ++ (W.drop (i + 1)).map V.int = (W.take i ++ [min o x, max 0 (x - o)] ++ W.drop (i + 1)).map V.int := by
      rw [List.map_append, List.map_append]
      rfl
    rw [ed]
    have K5 := K4.trans (Gk.Ext.new (o := .lst ((W.take i ++ [min o x, max 0 (x - o)] ++ W.drop (i + 1)).map V.int)) hdu)
    have P5 : (upd Hd du (.lst ((W.take i ++ [min o x, max 0 (x - o)] ++ W.drop (i + 1)).map V.int))) du = some (.lst ((W.take i ++ [min o x, max 0 (x - o)] ++ W.drop (i + 1)).map V.int)) := upd_same
    generalize upd Hd du (.lst ((W.take i ++ [min o x, max 0 (x - o)] ++ W.drop (i + 1)).map V.int)) = He at K5 P5 ⊢
    refine ⟨_, rfl, _, rfl, _, _, dp_intl (K5 _ _ hla), dp_intl P5, shaped_ints _, shaped_ints _, ?_⟩
    rw [eqv_same (shaped_ints _)]
    exact k _ ((D8.keep K5).mono (by omega)) (k8.trans (Kp.of K5))
end
end Lw

set_option Elab.async false
set_option linter.all false
set_option maxRecDepth 100000
set_option maxHeartbeats 8000000
namespace Lw
open L2 hiding Ext
open PySem PySem.Spec PyProof.Rows Gn Gr Gk Go Gt Gf Gu
theorem ent_at_ {rs : List FRow} {bs cs : List (Str × Int)} {k : Nat} {c : Str × Int} {x : Int} (hk : cs[k]? = some c) (h : (entF rs bs cs)[k]? = some x) : (grF rs (totF rs bs) cs)[k]? = some (c.1, x) := by
  rw [ent_gr, List.getElem?_map] at h
  obtain ⟨p, h1, rfl⟩ := Option.map_eq_some_iff.mp h
  rw [h1]
  rw [gr_at hk] at h1
  cases h1
  rfl
theorem getB_nn {bs : List (Str × Int)} {M : Int} (hM : 0 ≤ M) (h : ∀ p ∈ bs, 0 ≤ p.2 ∧ p.2 ≤ M) (n : Str) : 0 ≤ getB bs n ∧ getB bs n ≤ M := by
  unfold getB
  cases e : bs.find? (fun p => decide (p.1 = n)) with
  | some q => exact h q (List.mem_of_find?_eq_some e)
  | none => exact ⟨Int.le_refl _, hM⟩
theorem put_le {bs : List (Str × Int)} {M z : Int} {n : Str} (hz : 0 ≤ z ∧ z ≤ M) (h : ∀ p ∈ bs, 0 ≤ p.2 ∧ p.2 ≤ M) : ∀ p ∈ putB bs n z, 0 ≤ p.2 ∧ p.2 ≤ M := fun p hp => by
  rcases putB_mem hp with rfl | hp
  · exact hz
  · exact h p hp
section
variable {rs : List FRow} (g : Good rs) {bs cs : List (Str × Int)} {n p : Str} (hB : BsOk rs bs) (hv : ∀ q ∈ bs, 0 ≤ q.2 ∧ q.2 ≤ 2000000000) (hc : ∀ c ∈ cs, c.1 ∈ fNames rs ∧ 0 ≤ c.2) (hn : n ∈ fNames rs) (hp : p ∈ fNames rs) (ha : anc rs n = n :: anc rs p)
include hB hv hn hp in
theorem mov_ok : BsOk rs (putB bs n 0) ∧ BsOk rs (movB bs n p) := by
  have h1 := putB_ok (z := 0) hB hn (Int.le_refl _) (by decide)
  have a := getB_nn (M := 2000000000) (by decide) hv n
  have b := getB_nn (M := 2000000000) (by decide) (put_le (n := n) (z := 0) ⟨Int.le_refl _, by decide⟩ hv) p
  exact ⟨h1, putB_ok h1 hp (by omega) (by omega)⟩
include g hB hv hc hn hp ha in
theorem mov_at {k : Nat} {c : Str × Int} {x y : Int} (hk : cs[k]? = some c) (hx : (entF rs bs cs)[k]? = some x) (hy : (entF rs (movB bs n p) cs)[k]? = some y) : (n ∈ anc rs c.1 → y ≤ x) ∧ (n ∉ anc rs c.1 → x ≤ y) := by
  have b0 := (getB_nn (M := 2000000000) (by decide) hv n).1
  have hs := mov_same g hB.1 b0 hn ha
  have ht : ∀ m, 0 ≤ totF rs bs m := fun m => tot_nn (fun q hq => (hB.2 q hq).1) m
  have ht' : ∀ m, 0 ≤ totF rs (movB bs n p) m := fun m => tot_nn (fun q hq => ((mov_ok hB hv hn hp).2.2 q hq).1) m
  have ex := ent_at_ hk hx
  have ey := ent_at_ hk hy
  exact ⟨fun h => in_le g ht ht' hs hc k c _ _ hk ex ey h, fun h => out_ge g ht ht' hs hc hk ex ey h⟩
include g hB hv hn ha in
theorem mov_same_out (h : ∀ c ∈ cs, n ∉ anc rs c.1) : entF rs (movB bs n p) cs = entF rs bs cs := by
  have b0 := (getB_nn (M := 2000000000) (by decide) hv n).1
  rw [ent_gr, ent_gr, out_same (mov_same g hB.1 b0 hn ha) h]
end
def sgn (rs : List FRow) (n : Str) (c : Str × Int) : Int := if n ∈ anc rs c.1 then 1 else -1
theorem sgn_64 (rs : List FRow) (n : Str) (c : Str × Int) : -(2 ^ 64) < sgn rs n c ∧ sgn rs n c < 2 ^ 64 := by
  unfold sgn
  split <;> decide
theorem inV_ints (x : Int) (E : List Int) : inV (.int x) (E.map V.int) = decide (x ∈ E) := by
  unfold inV
  rw [List.any_map]
  induction E with
  | nil => simp
  | cons y r ih =>
    rw [List.any_cons, ih]
    show ((y == x) || _) = _
    by_cases e : y = x
    · subst e; simp
    · have e' : ¬ x = y := fun z => e z.symm
      simp [e, e']
theorem ints_flat (E : List Int) : (E.map V.int).all flatV = true := by
  rw [List.all_map]
  induction E with
  | nil => rfl
  | cons y r ih => rw [List.all_cons, ih]; rfl
theorem anc_cons (rs : List FRow) (p : Str) : ∃ tl, anc rs p = p :: tl := ⟨_, ancF_s rs 7 p⟩
section
variable {P : Program} {w : World} {K : PySem.W.Frag} {mg : Str → Option Value} {base : Heap} {C fI pN fN fA : Addr} {mc : Value} {fdN fdA : FuncData}
/-! ### _law_moved_right -/
abbrev nMoved : List Str := ["_law_forest_here", "_law_names", "_law_claims_here", "_law_balances_here", "_law_amounts", "_law_name", "_law_line", "_law_moved", "_law_inside", "_law_told", "_law_signs", "_law_pair", "_law_rank", "_law_sign"]
def spMoved (C : Addr) : Sp := fun vs H Q _ => ∃ (y ln lw bf am : Addr) (rs : List FRow) (xs : List V) (cs bs : List (Str × Int)), vs = [.ref y, .ref ln, .ref lw, .ref bf, .ref am] ∧ Good rs ∧ H ln = some (.lst ((fNames rs).map V.str)) ∧ S10 C y lw bf am rs xs cs bs H ∧
  CsOk rs cs ∧ BsOk rs bs ∧ (∀ q ∈ bs, 0 ≤ q.2 ∧ q.2 ≤ 2000000000) ∧ ∀ H', Ext H H' → Q (.bl true) H'
theorem scMoved : FnScope nMoved ["_law_forest_here", "_law_names", "_law_claims_here", "_law_balances_here", "_law_amounts"] (defScope sLMovedRight) := ⟨rfl, rfl, rfl, by decide +kernel, rfl, by decide +kernel, by decide +kernel⟩
theorem ok_moved {f fEn fS : Addr} {fd fdEn fdS : FuncData} (F : Fun K "_law_moved_right" "_law_moved_right" sLMovedRight f fd) (T : Names mg) (Z : Fo P w K mg base C fI pN fN fA mc fdN fdA)
    (GS : FnOk P w K mg base CX0 4 fS fdS ["self", "name"] (spSub C)) (bS : Binds K fdS ["self", "name"] []) (mS : Meth K C "subtree" fS)
    (GEn : FnOk P w K mg base CX0 6 fEn fdEn ["forest", "claims", "balances"] (spEnt C)) (bEn : Binds K fdEn ["forest", "claims", "balances"] []) (kEn : PySem.W.keepIn K (.ref fEn) = true) (mEn : mg "entitlements" = some (.ref fEn)) :
    FnOk P w K mg base CX0 7 f fd ["_law_forest_here", "_law_names", "_law_claims_here", "_law_balances_here", "_law_amounts"] (spMoved C) := by
  refine F.ok scMoved (fun vs H Q E h => ?_) (fun cdv A outer s H vs Q E hr h => ?_)
  · obtain ⟨y, ln, lw, bf, am, rs, xs, cs, bs, rfl, _⟩ := h
    rfl
  · obtain ⟨y, ln, lw, bf, am, rs, xs, cs, bs, rfl, G, hln, S0, co, hB, hv, k⟩ := h
    have hu := hu_of hr
    have nd := scMoved.nd
    have hr6 := hr
    have hr4 : Room 4 (A.deeper (envOfC "_law_moved_right" (defScope sLMovedRight) s.heap.objs.size f cdv)) := hr.mono (by decide)
    have hr3 : Room 3 (A.deeper (envOfC "_law_moved_right" (defScope sLMovedRight) s.heap.objs.size f cdv)) := hr.mono (by decide)
    refine ⟨_, pss_cons (ps_for PassesOwn.never rfl (pi_list (pv 1)) (pg_name (i := 5) nd rfl (.inl rfl))
(pss_cons (ps_set (i := 6) nd rfl (.inl rfl) (pe_meth (pv 0) Z.Z.cl Z.mA Z.GA hr3 Z.bA .nil pass0 (pa_cons (pv 5) pa_nil)))
(pss_one (ps_if (PW.pt (pw_and (pt_cmpR op_gt (pe_callB call_len_seq rfl T.len PySem.boot_len (pa_cons (pv 6) pa_nil)) pe_int (nomark _)) (pw_and1 (pt_cmpR op_gt (pe_dget2 hu (pv 3) (pv 5) pe_int ⟨rfl, rfl, rfl, rfl⟩) pe_int (nomark _))))) (pss_cons (ps_set (i := 7) nd rfl (.inl rfl) (pe_callTy call_dictD rfl T.dict (by decide +kernel) (pa_cons (pv 3) pa_nil)))
(pss_cons (ps_dput hu (pv 7) (pv 5) pe_int rfl)
(pss_cons (ps_dput hu (pv 7) (pe_ix ix_list (pv 6) pe_int (fun _ _ => rfl)) (pe_op op_add (pe_dget2 hu (pv 7) (pe_ix ix_list (pv 6) pe_int (fun _ _ => rfl)) pe_int ⟨rfl, rfl, rfl, rfl⟩) (pe_dget hu (pv 3) (pv 5) (fun _ _ => rfl))) rfl)
(pss_cons (ps_asg (pe_tup (pa_cons (pe_meth (pv 0) Z.Z.cl mS GS hr4 bS .nil pass0 (pa_cons (pv 5) pa_nil)) (pa_cons (pe_call GEn hr6 rfl mEn kEn bEn .nil pass0 (pa_cons (pv 0) (pa_cons (pv 2) (pa_cons (pv 7) pa_nil)))) pa_nil))) (by exact (pg_tup rfl (pgs_cons (pg_name (i := 8) nd rfl (.inr rfl)) (pgs_cons (pg_name (i := 9) nd rfl (.inr rfl)) pgs_nil)))))
(pss_cons (ps_setLc (i := 10) (own := [("_law_pair", 11)]) (g := gName 11) (tt := tYes) rfl nd rfl rfl (sw_true rfl rfl rfl (by decide +kernel)) (pi_list (pv 2)) (blkOk_by (N := nMoved) (sc := defScope sLMovedRight) (by decide +kernel))
(fun _ _ _ _ _ => pg_name (i := 11) nd rfl (.inl rfl)) (fun _ _ _ _ _ => pts_nil) (fun _ _ _ _ _ => pe_ifExp (pt_cmpR (r := rIn K false) op_in_seq (pe_ix (r := rIxT K) ix_tup (pv 11) pe_int (fun _ _ => rfl)) (pv 8) rfl) pe_int (pe_un un_neg pe_int)))
(pss_cons (ps_if (pt_cmpR (op_neD hr.units) (pe_lc (own := [("_law_rank", 12), ("_law_sign", 13)]) (g := gTup K 2 (gCons (gName 12) (gCons (gName 13) gNil))) rfl nd (pi_enum rfl T.enum (pa_cons (pv 10) pa_nil)) (blkOk_by (N := nMoved) (sc := defScope sLMovedRight) (by decide +kernel))
(fun _ _ _ _ _ => (by exact (pg_tup rfl (pgs_cons (pg_name (i := 12) nd rfl (.inl rfl)) (pgs_cons (pg_name (i := 13) nd rfl (.inl rfl)) pgs_nil))))) (fun _ _ _ _ _ => pts_one (pt_cmpR op_gt (pe_op op_mul (pv 13) (pe_op op_sub (pe_ix (r := rIxL K) ix_list (pv 9) (pv 12) (fun _ _ => rfl)) (pe_ix (r := rIxL K) ix_list (pv 4) (pv 12) (fun _ _ => rfl)))) pe_int (nomark _))) (fun _ _ _ _ _ => pv 12)) (pe_lst pa_nil) (nomark _)) (pss_one (ps_ret pe_bl)) pss_nil)
(pss_one (ps_if (PW.pt (pw_and (pt_cmpR op_notIn_seq pe_int (pv 10) rfl) (pw_and1 (pt_cmpR (op_neD hr.units) (pv 9) (pv 4) (nomark _))))) (pss_one (ps_ret pe_bl)) pss_nil)))))))) pss_nil))))
(pss_one (ps_ret pe_bl)), ?_⟩
    have hcp : ∀ q ∈ cs, q.1 ∈ fNames rs ∧ 0 ≤ q.2 := fun q hq => ⟨(co.2 q hq).1, (co.2 q hq).2.1⟩
    have n8 : (fNames rs).length ≤ 8 := by unfold fNames; rw [List.length_map]; exact G.2.1
    have c20 := co.1
    refine ⟨_, rfl, ln, rfl, ⟨_, SqL.of hln⟩, ?_⟩
    refine for_it walk_list (fun i σ H' => ∃ (v5 v6 v7 v8 v9 v10 : Option V), σ = [some (.ref y), some (.ref ln), some (.ref lw), some (.ref bf), some (.ref am), v5, v6, v7, v8, v9, v10, none, none, none] ∧ Ext H H') ⟨none, none, none, none, none, none, rfl, Ext.refl⟩ (fun i σ H' _ ⟨_, _, _, _, _, _, _, e⟩ => SqL.of (e _ _ hln)) ?_ ?_
    · rintro i x σ H1 H1' hi ⟨v5, v6, v7, v8, v9, v10, rfl, k1⟩ ⟨rfl, hx⟩
      rw [List.getElem?_map] at hx
      obtain ⟨n, hn, rfl⟩ := Option.map_eq_some_iff.mp hx
      have hnm := List.mem_of_getElem? hn
      have S1 := S0.ext k1
      obtain ⟨dx, q0, g1, g2⟩ := id S1.F
      obtain ⟨j, r, hj, hr1, hanc⟩ := anc_call G hnm
      refine ⟨_, rfl, y, dx, _, rfl, g1, rfl, _, rfl, y, rs, j, r, by rw [hr1]; rfl, S1.F, G, hj, fun H2 l k2 hl0 hl => ?_⟩
      rw [hanc] at hl
      have k12 := k1.trans k2
      have S2 := S1.ext k2
      have nr := hr1
      cases e : r.2 with
      | none =>
        have ea := anc_root G hj e
        rw [hr1] at ea
        refine ⟨_, rfl, l, _, rfl, .inl (SqL.of hl), _, _, rfl, rfl, _, rfl, ?_⟩
        rw [ea]
        refine iteN (by show ¬ ((1 : Int) < ((1 : Nat) : Int)); omega) ?_
        exact ⟨_, _, _, _, _, _, rfl, k12⟩
      | some p =>
        obtain ⟨jp, rp, _, hjp, ep, ea⟩ := anc_step G hj e
        rw [hr1] at ea
        have hpm : p ∈ fNames rs := by rw [← ep]; exact name_at hjp
        obtain ⟨tl, etl⟩ := anc_cons rs p
        have len2 : (1 : Int) < (((anc rs n).map V.str).length : Nat) := by
          rw [List.length_map, ea, etl, List.length_cons, List.length_cons]
          omega
        have at1 : atI ((anc rs n).map V.str) ((1 : Nat) : Int) = some (V.str p) := atI_nat (by rw [ea, etl]; rfl)
        refine ⟨_, rfl, l, _, rfl, .inl (SqL.of hl), _, _, rfl, rfl, _, rfl, iteS len2 ?_⟩
        rcases dB_getB (n := n) hB.1.1 with ⟨g1, gm⟩ | ⟨g1, g2⟩
        case inr =>
          refine ⟨_, rfl, bf, rfl, .inl ⟨_, .inl S2.b⟩, _, rfl, _, .inl ⟨_, Sum.inr n, .inl S2.b, rfl, g1.symm⟩, _, _, rfl, rfl, _, rfl, ?_⟩
          refine iteN (by omega) ?_
          exact ⟨_, _, _, _, _, _, rfl, k12⟩
        refine ⟨_, rfl, bf, rfl, .inl ⟨_, .inl S2.b⟩, _, rfl, _, .inl ⟨_, Sum.inr n, .inl S2.b, rfl, g1.symm⟩, _, _, rfl, rfl, _, rfl, ?_⟩
        by_cases pos : (0 : Int) < getB bs n
        case neg =>
          refine iteN pos ?_
          exact ⟨_, _, _, _, _, _, rfl, k12⟩
        refine iteS pos ?_
        have mo := mov_ok hB hv hnm hpm
        have b8 := bs_len G hB.1
        have b8' := bs_len G mo.1.1
        -- the balances with one moved
        refine ⟨_, rfl, bf, _, rfl, .inl S2.b, fun q hq => ?_⟩
        have q3 : (upd H2 q (.dK (dB bs))) q = some (.dK (dB bs)) := upd_same
        have x3 : ∀ x o, x ≠ q → H2 x = some o → (upd H2 q (.dK (dB bs))) x = some o := fun x o nx ex => by rw [upd_ne nx]; exact ex
        generalize upd H2 q (.dK (dB bs)) = H3 at q3 x3 ⊢
        have put1 : DPut H3 q (.str n) (.int 0) (upd H3 q (.dK (dB (putB bs n 0)))) := by
          rw [← dB_put]
          exact DPut.k (k := Sum.inr n) q3 (by unfold dB; rw [List.length_map, sizeLine_eq]; omega)
        refine ⟨_, rfl, _, rfl, q, _, rfl, put1, ?_⟩
        have q4 : (upd H3 q (.dK (dB (putB bs n 0)))) q = some (.dK (dB (putB bs n 0))) := upd_same
        have x4 : ∀ x o, x ≠ q → H2 x = some o → (upd H3 q (.dK (dB (putB bs n 0)))) x = some o := fun x o nx ex => by rw [upd_ne nx]; exact x3 x o nx ex
        generalize upd H3 q (.dK (dB (putB bs n 0))) = H4 at q4 x4 ⊢
        have l4 := x4 _ _ (ne_of_none hl hq) hl
        have b4 := x4 _ _ (ne_of_none S2.b hq) S2.b
        obtain ⟨o, go, eo⟩ : ∃ o, DGet H4 q (.str p) o ∧ o.getD (V.int 0) = V.int (getB (putB bs n 0) p) := by
          rcases dB_getB (n := p) mo.1.1.1 with ⟨g3, _⟩ | ⟨g3, g4⟩
          · exact ⟨_, .inl ⟨_, Sum.inr p, .inl q4, rfl, g3.symm⟩, rfl⟩
          · exact ⟨_, .inl ⟨_, Sum.inr p, .inl q4, rfl, g3.symm⟩, by rw [g4]; rfl⟩
        have put2 : DPut H4 q (.str p) (.int (getB (putB bs n 0) p + getB bs n)) (upd H4 q (.dK (dB (movB bs n p)))) := by
          unfold movB
          rw [← dB_put (putB bs n 0)]
          exact DPut.k (k := Sum.inr p) q4 (by unfold dB; rw [List.length_map, sizeLine_eq]; omega)
        refine ⟨_, rfl, q, rfl, .inl ⟨_, .inl q4⟩, _, rfl, l, _, _, _, rfl, rfl, SqL.of l4, at1, o, go, ?_⟩
        rw [eo]
        refine ⟨_, rfl, _, rfl, bf, _, rfl, .inl ⟨_, Sum.inr n, .inl b4, rfl, g1.symm⟩, _, _, rfl, rfl, ?_⟩
        refine ⟨_, rfl, _, rfl, l, _, _, _, rfl, rfl, SqL.of l4, at1, q, _, rfl, put2, ?_⟩
        have q5 : (upd H4 q (.dK (dB (movB bs n p)))) q = some (.dK (dB (movB bs n p))) := upd_same
        have k5 : Ext H2 (upd H4 q (.dK (dB (movB bs n p)))) := fun x o ex => by rw [upd_ne (ne_of_none ex hq)]; exact x4 x o (ne_of_none ex hq) ex
        generalize upd H4 q (.dK (dB (movB bs n p))) = H5 at q5 k5 ⊢
        clear put1 put2 x3 x4 q3 q4 l4 b4 go eo
        have S5 := S2.ext k5
        have k15 := k12.trans k5
        obtain ⟨dx5, q05, g15, g25⟩ := id S5.F
        -- what is inside, what is told
        refine ⟨_, rfl, y, dx5, _, rfl, g15, rfl, _, rfl, y, rs, n, rfl, S5.F, G, hnm, fun H6 ia k6 ia0 hia => ?_⟩
        have S6 := S5.ext k6
        refine ⟨_, rfl, _, rfl, _, rfl, y, lw, q, rs, movB bs n p, cs, xs, rfl, S6.F, G, .inl S6.w, S6.c, co, k6 _ _ q5, mo.2, fun H7 ta k7 ta0 hta => ?_⟩
        refine ⟨by show 2 ≤ sizeLine; decide, fun t ht => ?_⟩
        have k8 : Ext H7 (upd H7 t (.tup [.ref ia, .ref ta])) := Gk.Ext.new ht
        have t8 : (upd H7 t (.tup [.ref ia, .ref ta])) t = some (.tup [.ref ia, .ref ta]) := upd_same
        generalize upd H7 t (.tup [.ref ia, .ref ta]) = H8 at k8 t8 ⊢
        refine ⟨t, _, rfl, SqT.of t8, rfl, _, _, rfl, _, _, rfl, rfl, ?_⟩
        have S8 := S6.ext (k7.trans k8)
        have i8 := (k7.trans k8) _ _ hia
        have a8 := k8 _ _ hta
        have k18 := k15.trans (k6.trans (k7.trans k8))
        have AT := fun (k : Nat) (c : Str × Int) (x y : Int) (hk : cs[k]? = some c) (hx : (entF rs bs cs)[k]? = some x) (hy : (entF rs (movB bs n p) cs)[k]? = some y) => mov_at G hB hv hcp hnm hpm ea hk hx hy
        have OUT := fun (h : ∀ c ∈ cs, n ∉ anc rs c.1) => mov_same_out G hB hv hnm ea h
        have wl : (entF rs bs cs).length = cs.length := ent_len
        have vl : (entF rs (movB bs n p) cs).length = cs.length := ent_len
        have am8 := S8.a
        generalize entF rs bs cs = W at AT OUT wl am8
        generalize entF rs (movB bs n p) cs = U at AT OUT vl a8
        clear k7 k8 k6 k5 ia0 ta0 t8 ht hia hta S6 S5 S2 S1
        dsimp only [List.set]
        -- the signs
        refine ⟨_, rfl, lw, rfl, ⟨_, SqL.of S8.w⟩, fun sa hsa => ?_⟩
        refine lc_it walk_list (fun i H' => H' sa = some (.lst (((cs.map (sgn rs n)).take i).map V.int)) ∧ Ext H8 H') ⟨upd_same, Ext.new hsa⟩ (fun i H' _ ⟨_, e⟩ => SqL.of (e _ _ S8.w)) ?_ ?_
        · rintro i' z H9 H9' hi' ⟨d9, k9⟩ ⟨rfl, hz⟩
          obtain ⟨c, pa, hc, rfl, hpa⟩ := CsAt.get S8.c hz
          have cm := (hcp c (List.mem_of_getElem? hc)).1
          have hs : (cs.map (sgn rs n))[i']? = some (sgn rs n c) := by rw [List.getElem?_map, hc]; rfl
          have fin : ∀ z : Int, z = sgn rs n c → ∃ acc, H9' sa = some (.lst acc) ∧ acc.length < sizeLine ∧ upd H9' sa (.lst (acc ++ [.int z])) sa = some (.lst (((cs.map (sgn rs n)).take (i' + 1)).map V.int)) ∧ Ext H8 (upd H9' sa (.lst (acc ++ [.int z]))) := by
            rintro z rfl
            refine ⟨_, d9, ?_, ?_, fun x o ex => ?_⟩
            · rw [List.length_map, List.length_take, List.length_map]
              exact small1000 (by omega)
            · rw [upd_same, take_snoc hs, List.map_append]
              rfl
            · rw [upd_ne (ne_of_none ex hsa)]
              exact k9 _ _ ex
          refine ⟨rfl, yes_of ?_⟩
          refine ⟨_, rfl, pa, _, _, _, rfl, rfl, SqT.of (k9 _ _ hpa), (show atI [V.str c.1, V.int c.2] ((0 : Nat) : Int) = some (V.str c.1) from atI_nat rfl), _, rfl, ia, _, rfl, .inl (SqL.of (k9 _ _ i8)), rfl, strs_flat _, _, rfl, ?_⟩
          show if inV (V.str c.1) ((subF rs n).map V.str) = true then _ else _
          rw [inV_strs]
          by_cases hm : n ∈ anc rs c.1
          · refine iteS (List.mem_filter.mpr ⟨cm, decide_eq_true hm⟩) (fin 1 ?_)
            unfold sgn
            rw [if_pos hm]
          · refine iteN (fun h => hm (of_decide_eq_true (List.mem_filter.mp h).2)) ⟨_, rfl, fin (-1) ?_⟩
            unfold sgn
            rw [if_neg hm]
        rintro H9 ⟨d9, k9⟩
        rw [show (cs.map (sgn rs n)).take xs.length = cs.map (sgn rs n) from List.take_of_length_le (by rw [List.length_map, S8.c.1]; exact Nat.le_refl _)] at d9
        have S9 := S8.ext k9
        have am9 := k9 _ _ am8
        have a9 := k9 _ _ a8
        have k19 := k18.trans k9
        clear S8 am8 a8 i8 k18 k9 hsa
        -- no sign is broken
        refine ⟨_, rfl, sa, _, rfl, SqL.of d9, fun D hD => ?_⟩
        refine lc_it walk_enum (fun i H' => H' D = some (.lst []) ∧ Ext H9 H') ⟨upd_same, Ext.new hD⟩ (fun i H' _ ⟨_, e⟩ => SqL.of (e _ _ d9)) ?_ ?_
        · rintro i' z HA HA' hi' ⟨dA, kA⟩ ⟨t, x1, x2, rfl, ht, rfl, e1, e2⟩
          cases e1
          have e2 : ((cs.map (sgn rs n)).map V.int)[i']? = some x2 := e2
          rw [List.getElem?_map, List.getElem?_map] at e2
          have il : i' < cs.length := by rw [List.length_map, List.length_map] at hi'; exact hi'
          have hc := List.getElem?_eq_getElem il
          generalize cs[i'] = c at hc
          rw [hc] at e2
          cases e2
          have hx := List.getElem?_eq_getElem (l := W) (i := i') (by omega)
          generalize W[i'] = x at hx
          have hy := List.getElem?_eq_getElem (l := U) (i := i') (by omega)
          generalize U[i'] = u at hy
          have kB := kA.trans (Gk.Ext.new (o := .tup [.int (i' : Nat), .int (sgn rs n c)]) ht)
          have dB' := new_same (o := .tup [.int (i' : Nat), .int (sgn rs n c)]) ht _ _ dA
          refine ⟨t, _, rfl, SqT.of upd_same, rfl, _, _, rfl, _, _, rfl, rfl, rfl, ?_⟩
          generalize upd HA t (.tup [.int (i' : Nat), .int (sgn rs n c)]) = HB at kB dB' ⊢
          refine ⟨_, rfl, _, rfl, _, rfl, ta, _, _, _, rfl, rfl, SqL.of (kB _ _ a9), atI_nat (by rw [List.getElem?_map, hy]; rfl), _, rfl, _, rfl, am, _, _, _, rfl, rfl, SqL.of (kB _ _ am9), atI_nat (by rw [List.getElem?_map, hx]; rfl), _, _, rfl, rfl, _, _, rfl, rfl, .inl (sgn_64 rs n c), _, _, rfl, rfl, _, rfl, ?_⟩
          obtain ⟨A1, A2⟩ := AT i' c x u hc hx hy
          refine iteN ?_ ⟨dB', kB⟩
          unfold sgn
          by_cases hm : n ∈ anc rs c.1
          · rw [if_pos hm]
            have := A1 hm
            omega
          · rw [if_neg hm]
            have := A2 hm
            omega
        rintro HA ⟨dA, kA⟩
        refine ⟨Nat.zero_le _, fun e0 he0 => ?_⟩
        refine ⟨_, _, .lst (SqL.of (new_same he0 _ _ dA)) .nil, .lst (SqL.of upd_same) .nil, shaped_nil, shaped_nil, _, rfl, ?_⟩
        rw [eqv_nil]
        refine iteF ?_
        have kC := kA.trans (Gk.Ext.new (o := .lst []) he0)
        generalize upd HA e0 (.lst []) = HC at kC ⊢
        have kk := k19.trans kC
        -- nothing inside: the same
        refine ⟨_, rfl, sa, _, rfl, .inl (SqL.of (kC _ _ d9)), rfl, ints_flat _, _, rfl, ?_⟩
        show if (!inV (.int 1) ((cs.map (sgn rs n)).map V.int)) = true then _ else _
        rw [inV_ints]
        by_cases h1 : (1 : Int) ∈ cs.map (sgn rs n)
        · rw [decide_eq_true h1]
          refine iteF ?_
          exact ⟨_, _, _, _, _, _, rfl, kk⟩
        · rw [decide_eq_false h1]
          refine iteT ?_
          have eU := OUT fun c hc hm => h1 (List.mem_map.mpr ⟨c, hc, by unfold sgn; rw [if_pos hm]⟩)
          subst eU
          refine ⟨_, rfl, _, rfl, _, _, dp_intl (kC _ _ a9), dp_intl (kC _ _ am9), shaped_ints _, shaped_ints _, _, rfl, ?_⟩
          rw [eqv_same (shaped_ints _)]
          refine iteF ?_
          exact ⟨_, _, _, _, _, _, rfl, kk⟩
    · rintro σ H1 ⟨v5, v6, v7, v8, v9, v10, rfl, k1⟩
      exact k _ k1
end
end Lw

set_option Elab.async false
set_option linter.all false
set_option maxRecDepth 100000
set_option maxHeartbeats 8000000
namespace Lw
open L2 hiding Ext
open PySem PySem.Spec PyProof.Rows Gn Gr Gk Go Gt Gf Gu Ge
theorem cut_tk (xs : List V) (i : Nat) : cutV xs none (some (i : Nat)) = xs.take i := by
  unfold cutV
  have e : HT.sIx xs.length xs.length (some ((i : Nat) : Int)) = min i xs.length := HT.sIx_nat _ _ _
  rw [e]
  have e0 : HT.sIx xs.length 0 none = 0 := rfl
  rw [e0]
  show (xs.drop 0).take (min i xs.length - 0) = xs.take i
  rw [List.drop_zero, Nat.sub_zero]
  by_cases h : i ≤ xs.length
  · rw [Nat.min_eq_left h]
  · rw [Nat.min_eq_right (by omega), List.take_length, List.take_of_length_le (by omega)]
structure T10 (C y lr ln lw bf am : Addr) (rx : List V) (rs : List FRow) (xs : List V) (cs bs : List (Str × Int)) (H : Hp) : Prop where
  s : S10 C y lw bf am rs xs cs bs H
  n : H ln = some (.lst ((fNames rs).map V.str))
  r : H lr = some (.lst rx)
  R : RowsAt H rx rs
theorem T10.ext {C y lr ln lw bf am : Addr} {rx : List V} {rs : List FRow} {xs : List V} {cs bs : List (Str × Int)} {H H' : Hp} (h : T10 C y lr ln lw bf am rx rs xs cs bs H) (k : Ext H H') : T10 C y lr ln lw bf am rx rs xs cs bs H' :=
  ⟨h.s.ext k, k _ _ h.n, k _ _ h.r, h.R.ext k⟩
structure N10 (d g lr ln lw bf am : Addr) : Prop where
  rd : lr ≠ d
  rg : lr ≠ g
  nd : ln ≠ d
  ng : ln ≠ g
  wd : lw ≠ d
  wg : lw ≠ g
  bd : bf ≠ d
  bg : bf ≠ g
  ad : am ≠ d
  ag : am ≠ g
theorem T10.kp {C y lr ln lw bf am : Addr} {rx : List V} {rs : List FRow} {xs : List V} {cs bs : List (Str × Int)} {H H' : Hp} {ns : List Int} {d g c : Addr} {b : Nat} (h : T10 C y lr ln lw bf am rx rs xs cs bs H) (G : Good rs) (D : Dw ns d g c b H) (k : Kp d g H H') (m : N10 d g lr ln lw bf am) : T10 C y lr ln lw bf am rx rs xs cs bs H' :=
  ⟨h.s.kp G D k m.wd m.wg m.bd m.bg m.ad m.ag, k _ _ m.nd m.ng h.n, k _ _ m.rd m.rg h.r, h.R.kp D k⟩
theorem strs_of {rs : List FRow} (G : Good rs) : ∀ r ∈ rs, PyData.strOk r.1 = true ∧ ∀ m, r.2 = some m → PyData.strOk m = true := fun r hr =>
  ⟨(name_asc19 (good_mem G.2.2 hr).1).ok, fun m e => (name_asc19 ((good_mem G.2.2 hr).2 m e).2).ok⟩
theorem ren_csok {f : Str → Str} {rs : List FRow} {cs : List (Str × Int)} (co : CsOk rs cs) : CsOk (renR f rs) (renC f cs) := by
  refine ⟨by unfold renC; rw [List.length_map]; exact co.1, fun q hq => ?_⟩
  obtain ⟨c, hc, rfl⟩ := List.mem_map.mp hq
  obtain ⟨h1, h2⟩ := co.2 c hc
  exact ⟨by rw [ren_names]; exact List.mem_map.mpr ⟨_, h1, rfl⟩, h2⟩
theorem ren_bsok {f : Str → Str} {rs : List FRow} {bs : List (Str × Int)} (hi : ∀ a ∈ fNames rs, ∀ b ∈ fNames rs, f a = f b → a = b) (hB : BsOk rs bs) : BsOk (renR f rs) (renC f bs) := by
  refine ⟨⟨?_, fun q hq => ?_⟩, fun q hq => ?_⟩
  · unfold renC
    rw [List.map_map]
    have : (bs.map ((fun x : Str × Int => x.1) ∘ fun c : Str × Int => (f c.1, c.2))) = (bs.map (·.1)).map f := by rw [List.map_map]; rfl
    rw [this]
    refine nodup_on ?_ hB.1.1
    intro a ha b hb e
    obtain ⟨p, hp, rfl⟩ := List.mem_map.mp ha
    obtain ⟨q, hq, rfl⟩ := List.mem_map.mp hb
    exact hi _ (hB.1.2 p hp) _ (hB.1.2 q hq) e
  · obtain ⟨c, hc, rfl⟩ := List.mem_map.mp hq
    rw [ren_names]
    exact List.mem_map.mpr ⟨_, hB.1.2 c hc, rfl⟩
  · obtain ⟨c, hc, rfl⟩ := List.mem_map.mp hq
    exact hB.2 c hc
theorem perm_names {rs ds : List FRow} (p : rs.Perm ds) {n : Str} (h : n ∈ fNames rs) : n ∈ fNames ds := (p.map fun r : FRow => r.1).mem_iff.mp h
theorem perm_csok {rs ds : List FRow} (p : rs.Perm ds) {cs : List (Str × Int)} (co : CsOk rs cs) : CsOk ds cs := ⟨co.1, fun q hq => ⟨perm_names p (co.2 q hq).1, (co.2 q hq).2⟩⟩
theorem perm_bsok {rs ds : List FRow} (p : rs.Perm ds) {bs : List (Str × Int)} (hB : BsOk rs bs) : BsOk ds bs := ⟨⟨hB.1.1, fun q hq => perm_names p (hB.1.2 q hq)⟩, hB.2⟩
theorem if_cont {c : TT} {t u : TS} {D : Ends} {σ : L2.St} {H : Hp} (I : L2.St → Hp → Prop) (rest : ∀ σ' H', I σ' H' → D.nx σ' H') (h : (∀ σ' H', I σ' H' → D.nx σ' H') → tIfS c t u D σ H) : tIfS c t u D σ H := h rest
theorem mulC_take (k : Int) {cs : List (Str × Int)} {i : Nat} {c : Str × Int} (h : cs[i]? = some c) : mulC k (cs.take (i + 1)) = mulC k (cs.take i) ++ [(c.1, k * c.2)] := by
  unfold mulC
  rw [take_snoc h, List.map_append]
  rfl
theorem mulC_len (k : Int) (cs : List (Str × Int)) : (mulC k cs).length = cs.length := by unfold mulC; rw [List.length_map]
theorem mul_le {k z M : Int} (k0 : 0 ≤ k) (k10 : k ≤ 10) (z0 : 0 ≤ z) (hz : z ≤ M) : 0 ≤ k * z ∧ k * z ≤ 10 * M := by
  have h1 := Int.mul_nonneg k0 z0
  have h2 := Int.mul_le_mul_of_nonneg_right k10 z0
  omega
theorem mul_csok {k : Int} (k0 : 0 ≤ k) (k10 : k ≤ 10) {rs : List FRow} {cs : List (Str × Int)} (hl : cs.length ≤ 20) (h : ∀ c ∈ cs, c.1 ∈ fNames rs ∧ 0 ≤ c.2 ∧ c.2 ≤ 12) : CsOk rs (mulC k cs) := by
  refine ⟨by rw [mulC_len]; exact hl, fun q hq => ?_⟩
  obtain ⟨c, hc, rfl⟩ := List.mem_map.mp hq
  obtain ⟨h1, h2, h3⟩ := h c hc
  have := mul_le k0 k10 h2 h3
  exact ⟨h1, this.1, by show k * c.2 ≤ 1000000000; omega⟩
theorem mul_bsok {k : Int} (k0 : 0 ≤ k) (k10 : k ≤ 10) {rs : List FRow} {bs : List (Str × Int)} (hN : BsN rs bs) (h : ∀ c ∈ bs, 0 ≤ c.2 ∧ c.2 ≤ 24) : BsOk rs (mulC k bs) := by
  refine ⟨⟨?_, fun q hq => ?_⟩, fun q hq => ?_⟩
  · unfold mulC
    rw [List.map_map]
    exact hN.1
  · obtain ⟨c, hc, rfl⟩ := List.mem_map.mp hq
    exact hN.2 c hc
  · obtain ⟨c, hc, rfl⟩ := List.mem_map.mp hq
    have := mul_le k0 k10 (h c hc).1 (h c hc).2
    exact ⟨this.1, by show k * c.2 ≤ 1000000000000; omega⟩
theorem nx_head {D : Ends} {σ : L2.St} {H : Hp} (h : D.nx σ H) : tNext D σ H := h
theorem nx_mk {n b c : L2.St → Hp → Prop} {r : VK} {σ : L2.St} {H : Hp} (h : n σ H) : Ends.nx ⟨n, r, b, c⟩ σ H := h
theorem if_cont3 {c : TT} {t u v : TS} {D : Ends} {σ : L2.St} {H : Hp} (I : L2.St → Hp → Prop) (rest : ∀ σ' H', I σ' H' → v D σ' H') (h : (∀ σ' H', I σ' H' → v D σ' H') → tIfS c t u { D with nx := v D } σ H) : tSeq (tIfS c t u) v D σ H := h rest
abbrev nLaw : List Str := ["_law_script", "_law_state", "_law_turn", "_law_rows", "_law_numbers", "_law_forest_here", "_law_names", "_law_claims_here", "_law_balances_here", "_law_amounts", "_law_rank", "_law_others", "_law_moved", "_law_purses", "_law_k", "_law_more", "_law_greater", "_law_whole", "_law_row", "_law_name", "_law_claim", "_law_one", "_law_parent"]
section
variable {P : Program} {w : World} {K : PySem.W.Frag} {mg : Str → Option Value} {base : Heap} {C fI pN fN fA : Addr} {mc : Value} {fdN fdA : FuncData}
theorem scLaw : FnScope nLaw ["_law_script"] (defScope sLaw) := ⟨rfl, rfl, rfl, by decide +kernel, rfl, by decide +kernel, by decide +kernel⟩
theorem ok_law {fB fT fP fF fCl fBa fEn fSo fRn fSp fMv fTt f : Addr} {fdB fdT fdP fdI fdF fdCl fdBa fdEn fdSo fdRn fdSp fdMv fdTt : FuncData} {ns : List Int} {a : Addr} {A : Around} {s : Shared} {H : Hp} {cdv : Value} (hl : ns.length ≤ 63) (B : Bed K mg base A) (hr : Room 8 (A.deeper (envOfC "law" (defScope sLaw) s.heap.objs.size f cdv))) (hS : SqL K H a (ns.map V.int))
    (R : Draw P w K mg base ns fT fP fdT fdP) (T : Names mg) (hsum : mg "sum" = none) (Z : FC K mg C fI mc)
    (GI : FnOk P w K mg base CX0 4 fI fdI ["self", "rows"] (spInit C)) (bI : Binds K fdI ["self", "rows"] [])
    (GB : FnOk P w K mg base CX0 1 fB fdB ["_law_script"] (spBegun K ns)) (bB : Binds K fdB ["_law_script"] []) (kB : PySem.W.keepIn K (.ref fB) = true) (mB : mg "_law_begun" = some (.ref fB))
    (GF : FnOk P w K mg base CX0 5 fF fdF ["_law_state", "_law_most"] (spForest ns)) (bF : Binds K fdF ["_law_state", "_law_most"] []) (kF : PySem.W.keepIn K (.ref fF) = true) (mF : mg "_law_forest" = some (.ref fF))
    (GCl : FnOk P w K mg base CX0 4 fCl fdCl ["_law_state", "_law_names", "_law_numbers"] (spClaims ns)) (bCl : Binds K fdCl ["_law_state", "_law_names", "_law_numbers"] []) (kCl : PySem.W.keepIn K (.ref fCl) = true) (mCl : mg "_law_claims" = some (.ref fCl))
    (GBa : FnOk P w K mg base CX0 4 fBa fdBa ["_law_state", "_law_names", "_law_numbers"] (spBal ns)) (bBa : Binds K fdBa ["_law_state", "_law_names", "_law_numbers"] []) (kBa : PySem.W.keepIn K (.ref fBa) = true) (mBa : mg "_law_balances" = some (.ref fBa))
    (GEn : FnOk P w K mg base CX0 6 fEn fdEn ["forest", "claims", "balances"] (spEnt C)) (bEn : Binds K fdEn ["forest", "claims", "balances"] []) (kEn : PySem.W.keepIn K (.ref fEn) = true) (mEn : mg "entitlements" = some (.ref fEn))
    (GSo : FnOk P w K mg base CX0 4 fSo fdSo ["_law_state", "_law_rows"] (spSorted ns)) (bSo : Binds K fdSo ["_law_state", "_law_rows"] []) (kSo : PySem.W.keepIn K (.ref fSo) = true) (mSo : mg "_law_sorted_rows" = some (.ref fSo))
    (GRn : FnOk P w K mg base CX0 5 fRn fdRn ["_law_state", "_law_rows", "_law_claims_here", "_law_balances_here"] (spRenamed ns)) (bRn : Binds K fdRn ["_law_state", "_law_rows", "_law_claims_here", "_law_balances_here"] []) (kRn : PySem.W.keepIn K (.ref fRn) = true) (mRn : mg "_law_renamed" = some (.ref fRn))
    (GSp : FnOk P w K mg base CX0 7 fSp fdSp ["_law_state", "_law_forest_here", "_law_claims_here", "_law_balances_here", "_law_amounts"] (spSplit C ns)) (bSp : Binds K fdSp ["_law_state", "_law_forest_here", "_law_claims_here", "_law_balances_here", "_law_amounts"] []) (kSp : PySem.W.keepIn K (.ref fSp) = true) (mSp : mg "_law_split_right" = some (.ref fSp))
    (GMv : FnOk P w K mg base CX0 7 fMv fdMv ["_law_forest_here", "_law_names", "_law_claims_here", "_law_balances_here", "_law_amounts"] (spMoved C)) (bMv : Binds K fdMv ["_law_forest_here", "_law_names", "_law_claims_here", "_law_balances_here", "_law_amounts"] []) (kMv : PySem.W.keepIn K (.ref fMv) = true) (mMv : mg "_law_moved_right" = some (.ref fMv))
    (GTt : FnOk P w K mg base CX0 5 fTt fdTt ["forest", "balances"] (spTotals C)) (bTt : Binds K fdTt ["forest", "balances"] []) (kTt : PySem.W.keepIn K (.ref fTt) = true) (mTt : mg "totals" = some (.ref fTt)) :
    ∃ t, PSs (cxOf CX0 P w K mg base nLaw "law" (defScope sLaw) f cdv A [] s H E0).nox (defBody sLaw) t ∧ t { nx := fun _ _ => False, rt := fun v _ => v = .bl true } (L2.start nLaw [.ref a]) H := by
  have nd := scLaw.nd
  have hu := hu_of hr
  have hr7 : Room 7 (A.deeper (envOfC "law" (defScope sLaw) s.heap.objs.size f cdv)) := hr.mono (by decide)
  have hr6 : Room 6 (A.deeper (envOfC "law" (defScope sLaw) s.heap.objs.size f cdv)) := hr.mono (by decide)
  have hr5 : Room 5 (A.deeper (envOfC "law" (defScope sLaw) s.heap.objs.size f cdv)) := hr.mono (by decide)
  have hr4 : Room 4 (A.deeper (envOfC "law" (defScope sLaw) s.heap.objs.size f cdv)) := hr.mono (by decide)
  have hr3 : Room 3 (A.deeper (envOfC "law" (defScope sLaw) s.heap.objs.size f cdv)) := hr.mono (by decide)
  have hr2 : Room 2 (A.deeper (envOfC "law" (defScope sLaw) s.heap.objs.size f cdv)) := hr.mono (by decide)
  have hr1 : Room 1 (A.deeper (envOfC "law" (defScope sLaw) s.heap.objs.size f cdv)) := hr.mono (by decide)
  refine ⟨_, pss_cons (ps_set (i := 1) nd rfl (.inl rfl) (pe_call GB hr1 rfl mB kB bB .nil pass0 (pa_cons (pv 0) pa_nil)))
(pss_cons (ps_for PassesOwn.never rfl (pi_range1 rfl T.range (pa_cons pe_int pa_nil)) (pg_name (i := 2) nd rfl (.inl rfl))
(pss_cons (ps_par (i := 3) (j := 4) (by rfl) nd rfl rfl (by decide) rfl rfl (pa_cons (pe_call GF hr5 rfl mF kF bF .nil pass0 (pa_cons (pv 1) (pa_cons pe_int pa_nil))) (pa_cons (pe_call R.GP hr3 rfl R.mP R.kP R.bP .nil pass0 (pa_cons (pv 1) (pa_cons (pe_lst (pa_cons pe_int (pa_cons pe_int (pa_cons (pe_op op_pow pe_int pe_int) pa_nil)))) pa_nil))) pa_nil)) (by rfl))
(pss_cons (ps_par (i := 5) (j := 6) (by rfl) nd rfl rfl (by decide) rfl rfl (pa_cons (pe_make Z.make GI hr5 rfl Z.g bI .nil pass0 (pa_cons (pv 3) pa_nil)) (pa_cons (pe_lc (own := [("_law_row", 18)]) (g := gName 18) (tt := tYes) rfl nd (pi_list (pv 3)) (blkOk_by (N := nLaw) (sc := defScope sLaw) (by decide +kernel))
(fun _ _ _ _ _ => pg_name (i := 18) nd rfl (.inl rfl)) (fun _ _ _ _ _ => pts_nil) (fun _ _ _ _ _ => pe_ix (r := rIxT K) ix_tup (pv 18) pe_int (fun _ _ => rfl))) pa_nil)) (by rfl))
(pss_cons (ps_asg (pe_tup (pa_cons (pe_slice sl_list (pe_call GCl hr4 rfl mCl kCl bCl .nil pass0 (pa_cons (pv 1) (pa_cons (pv 6) (pa_cons (pv 4) pa_nil)))) po_none (po_some pe_int)) (pa_cons (pe_call GBa hr4 rfl mBa kBa bBa .nil pass0 (pa_cons (pv 1) (pa_cons (pv 6) (pa_cons (pv 4) pa_nil)))) pa_nil))) (by exact (pg_tup rfl (pgs_cons (pg_name (i := 7) nd rfl (.inl rfl)) (pgs_cons (pg_name (i := 8) nd rfl (.inr rfl)) pgs_nil)))))
(pss_cons (ps_set (i := 9) nd rfl (.inl rfl) (pe_call GEn hr6 rfl mEn kEn bEn .nil pass0 (pa_cons (pv 5) (pa_cons (pv 7) (pa_cons (pv 8) pa_nil)))))
(pss_cons (ps_for PassesOwn.never rfl (pi_range1 rfl T.range (pa_cons (pe_op op_add (pe_callB call_len_seq rfl T.len PySem.boot_len (pa_cons (pv 7) pa_nil)) pe_int) pa_nil)) (pg_name (i := 10) nd rfl (.inl rfl))
(pss_one (ps_if (pt_cmpR (op_neD hr.units) (pe_call GEn hr6 rfl mEn kEn bEn .nil pass0 (pa_cons (pv 5) (pa_cons (pe_slice sl_list (pv 7) po_none (po_some (pv 10))) (pa_cons (pv 8) pa_nil)))) (pe_slice sl_list (pv 9) po_none (po_some (pv 10))) (nomark _)) (pss_one (ps_ret pe_bl)) pss_nil)))
(pss_cons (ps_if (pt_cmpR (op_neD hr.units) (pe_call GEn hr6 rfl mEn kEn bEn .nil pass0 (pa_cons (pe_make Z.make GI hr5 rfl Z.g bI .nil pass0 (pa_cons (pe_call GSo hr4 rfl mSo kSo bSo .nil pass0 (pa_cons (pv 1) (pa_cons (pv 3) pa_nil))) pa_nil)) (pa_cons (pv 7) (pa_cons (pv 8) pa_nil)))) (pv 9) (nomark _)) (pss_one (ps_ret pe_bl)) pss_nil)
(pss_cons (ps_asg (pe_call GRn hr5 rfl mRn kRn bRn .nil pass0 (pa_cons (pv 1) (pa_cons (pv 3) (pa_cons (pv 7) (pa_cons (pv 8) pa_nil))))) (by exact (pg_tup rfl (pgs_cons (pg_name (i := 11) nd rfl (.inl rfl)) (pgs_cons (pg_name (i := 12) nd rfl (.inl rfl)) (pgs_cons (pg_name (i := 13) nd rfl (.inl rfl)) pgs_nil))))))
(pss_cons (ps_if (pt_cmpR (op_neD hr.units) (pe_call GEn hr6 rfl mEn kEn bEn .nil pass0 (pa_cons (pe_make Z.make GI hr5 rfl Z.g bI .nil pass0 (pa_cons (pv 11) pa_nil)) (pa_cons (pv 12) (pa_cons (pv 13) pa_nil)))) (pv 9) (nomark _)) (pss_one (ps_ret pe_bl)) pss_nil)
(pss_cons (ps_if (pt_cmpR op_eq (pv 4) pe_int (nomark _)) (pss_cons (ps_set (i := 14) nd rfl (.inr rfl) (pe_op op_add pe_int (pe_call R.GT hr2 rfl R.mT R.kT R.bT .nil pass0 (pa_cons (pv 1) (pa_cons pe_int pa_nil)))))
(pss_cons (ps_set (i := 15) nd rfl (.inl rfl) (pe_callTy (call_dictP rfl) rfl T.dict (by decide +kernel) (pa_cons (pe_lock (pe_lc (own := [("_law_name", 19)]) (g := gName 19) (tt := tYes) rfl nd (pi_keys (pv 8)) (blkOk_by (N := nLaw) (sc := defScope sLaw) (by decide +kernel))
(fun _ _ _ _ _ => pg_name (i := 19) nd rfl (.inl rfl)) (fun _ _ _ _ _ => pts_nil) (fun _ _ _ _ _ => pe_tup (pa_cons (pv 19) (pa_cons (pe_op op_mul (pv 14) (pe_dget hu (pv 8) (pv 19) (fun _ _ => rfl))) pa_nil))))) pa_nil)))
(pss_cons (ps_setLc (i := 16) (own := [("_law_name", 19), ("_law_claim", 20)]) (g := gTup K 2 (gCons (gName 19) (gCons (gName 20) gNil))) (tt := tYes) rfl nd rfl rfl (sw_true rfl rfl rfl (by decide +kernel)) (pi_list (pv 7)) (blkOk_by (N := nLaw) (sc := defScope sLaw) (by decide +kernel))
(fun _ _ _ _ _ => (by exact (pg_tup rfl (pgs_cons (pg_name (i := 19) nd rfl (.inl rfl)) (pgs_cons (pg_name (i := 20) nd rfl (.inl rfl)) pgs_nil))))) (fun _ _ _ _ _ => pts_nil) (fun _ _ _ _ _ => pe_tup (pa_cons (pv 19) (pa_cons (pe_op op_mul (pv 14) (pv 20)) pa_nil))))
(pss_one (ps_if (pt_cmpR (op_neD hr.units) (pe_call GEn hr6 rfl mEn kEn bEn .nil pass0 (pa_cons (pv 5) (pa_cons (pv 16) (pa_cons (pv 15) pa_nil)))) (pe_lc (own := [("_law_one", 21)]) (g := gName 21) (tt := tYes) rfl nd (pi_list (pv 9)) (blkOk_by (N := nLaw) (sc := defScope sLaw) (by decide +kernel))
(fun _ _ _ _ _ => pg_name (i := 21) nd rfl (.inl rfl)) (fun _ _ _ _ _ => pts_nil) (fun _ _ _ _ _ => pe_op op_mul (pv 14) (pv 21))) (nomark _)) (pss_one (ps_ret pe_bl)) pss_nil))))) pss_nil)
(pss_cons (ps_if (pt_cmpR (op_neD hr.units) (pv 7) (pe_lst pa_nil) (nomark _)) (pss_one (ps_if (pt_not (pt_val (pe_call GSp hr7 rfl mSp kSp bSp .nil pass0 (pa_cons (pv 1) (pa_cons (pv 5) (pa_cons (pv 7) (pa_cons (pv 8) (pa_cons (pv 9) pa_nil)))))))) (pss_one (ps_ret pe_bl)) pss_nil)) pss_nil)
(pss_cons (ps_if (pt_not (pt_val (pe_call GMv hr7 rfl mMv kMv bMv .nil pass0 (pa_cons (pv 5) (pa_cons (pv 6) (pa_cons (pv 7) (pa_cons (pv 8) (pa_cons (pv 9) pa_nil)))))))) (pss_one (ps_ret pe_bl)) pss_nil)
(pss_cons (ps_set (i := 17) nd rfl (.inr rfl) (pe_call GTt hr5 rfl mTt kTt bTt .nil pass0 (pa_cons (pv 5) (pa_cons (pv 8) pa_nil))))
(pss_one (ps_if (pt_cmpR op_gt (pe_callB (cr_sum rfl) rfl hsum (by decide +kernel) (pa_cons (pv 9) pa_nil)) (pe_callB (cr_sum rfl) rfl hsum (by decide +kernel) (pa_cons (pe_lc (own := [("_law_name", 19), ("_law_parent", 22)]) (g := gTup K 2 (gCons (gName 19) (gCons (gName 22) gNil))) rfl nd (pi_list (pv 3)) (blkOk_by (N := nLaw) (sc := defScope sLaw) (by decide +kernel))
(fun _ _ _ _ _ => (by exact (pg_tup rfl (pgs_cons (pg_name (i := 19) nd rfl (.inl rfl)) (pgs_cons (pg_name (i := 22) nd rfl (.inl rfl)) pgs_nil))))) (fun _ _ _ _ _ => pts_one (pt_cmpR op_isN (pv 22) pe_non (nomark _))) (fun _ _ _ _ _ => pe_dget hu (pv 17) (pv 19) (fun _ _ => rfl))) pa_nil)) (nomark _)) (pss_one (ps_ret pe_bl)) pss_nil)))))))))))))))
(pss_one (ps_ret pe_bl))), ?_⟩
  refine ⟨_, rfl, a, rfl, hS, hl, fun d g c H1 D1 x1 fd fg fc => ?_⟩
  refine ⟨3, rfl, by decide, by decide, for_range (lo := 0) (n := 3) (fun i σ H' => ∃ (v2 v3 v4 v5 v6 v7 v8 v9 v10 v11 v12 v13 v14 v15 v16 v17 : Option V), σ = [some (.ref a), some (.ref d), v2, v3, v4, v5, v6, v7, v8, v9, v10, v11, v12, v13, v14, v15, v16, v17, none, none, none, none, none] ∧ Dw ns d g c (i * 3000) H') ⟨none, none, none, none, none, none, none, none, none, none, none, none, none, none, none, none, rfl, D1⟩ ?_ ?_⟩
  · rintro i σ H2 hi ⟨v2, v3, v4, v5, v6, v7, v8, v9, v10, v11, v12, v13, v14, v15, v16, v17, rfl, D2⟩
    refine ⟨_, rfl, d, g, c, _, 8, rfl, D2, by omega, by decide, by decide, fun lr rx rs H3 lr0 nrd nrg hr3' R3 G D3 k3 => ?_⟩
    refine ⟨_, rfl, _, _, rfl, rfl, ⟨by decide, by decide, by decide⟩, by show 3 ≤ sizeLine; decide, fun q hq => ?_⟩
    refine ⟨d, g, c, _, D3.new hq, by omega, .inl ⟨q, _, rfl, upd_same, D3.nd hq, D3.ng hq, by show 0 < 3; decide, by show 3 ≤ 1000000; decide, fun x H4 hx D4 k4 => ?_⟩⟩
    obtain ⟨m, rfl, m1, m9⟩ : ∃ m : Int, x = .int m ∧ 1 ≤ m ∧ m ≤ 1000000000 := by
      simp only [List.mem_cons, List.not_mem_nil, or_false] at hx
      rcases hx with rfl | rfl | rfl
      · exact ⟨_, rfl, by decide, by decide⟩
      · exact ⟨_, rfl, by decide, by decide⟩
      · exact ⟨_, rfl, by decide +kernel, by decide +kernel⟩
    have k34 : Kp d g H3 H4 := (Kp.new hq).trans k4
    have r4 := k34 _ _ nrd nrg hr3'
    have R4 : RowsAt H4 rx rs := R3.kp D3 k34
    refine ⟨_, _, rfl, ?_⟩
    clear k4 hx hq
    -- the forest, its names
    refine ⟨_, rfl, fun y dx hy hdx ne => ?_⟩
    have kx : Ext H4 (upd (upd H4 dx (.own y)) y (.ins C dx [])) := fun b o hb => by
      rw [upd_ne (ne_of_none hb hy), upd_ne (ne_of_none hb hdx)]
      exact hb
    refine ⟨y, lr, dx, rx, rs, rfl, upd_same, kx _ _ r4, R4.ext kx, G, fun H5 q k5 i5 q5 => ⟨rfl, ?_⟩⟩
    have k45 : Ext H4 H5 := fun b o hb => k5 _ _ (ne_of_none hb hy) (kx _ _ hb)
    have f5 : FoAt C H5 y rs := ⟨dx, q, i5, q5⟩
    obtain ⟨nm0, nm8, nmo, nmn⟩ := good_names G
    refine ⟨_, rfl, lr, rfl, ⟨_, SqL.of (k45 _ _ r4)⟩, fun ln hln => ?_⟩
    have D5 := D4.keep k45
    have nnd := D5.nd hln
    have nng := D5.ng hln
    refine lc_it walk_list (fun i H' => H' ln = some (.lst (((fNames rs).take i).map V.str)) ∧ Ext H5 H') ⟨upd_same, Ext.new hln⟩ (fun i H' _ ⟨_, e⟩ => SqL.of (e _ _ (k45 _ _ r4))) ?_ ?_
    · rintro i' z H6 H6' hi' ⟨d6, k6⟩ ⟨rfl, hz⟩
      obtain ⟨r, p, hr1', rfl, hp⟩ := R4.get hz
      have hrn : (fNames rs)[i']? = some r.1 := by unfold fNames; rw [List.getElem?_map, hr1']; rfl
      refine ⟨rfl, yes_of ?_⟩
      refine ⟨_, rfl, p, _, _, _, rfl, rfl, SqT.of (k6 _ _ (k45 _ _ hp)), (show atI [V.str r.1, parV r.2] ((0 : Nat) : Int) = some (V.str r.1) from atI_nat rfl), _, d6, ?_, ?_, fun x o e => ?_⟩
      · rw [List.length_map, List.length_take]
        exact small1000 (by omega)
      · rw [upd_same, take_snoc hrn, List.map_append]
        rfl
      · rw [upd_ne (ne_of_none e hln)]
        exact k6 _ _ e
    rintro H6 ⟨d6, k6⟩
    have e6 : (fNames rs).take rx.length = fNames rs := List.take_of_length_le (by rw [R4.1]; unfold fNames; rw [List.length_map]; exact Nat.le_refl _)
    rw [e6] at d6
    refine ⟨_, _, rfl, ?_⟩
    have k46 := k45.trans k6
    have g6 : Gd3 C H6 lr y ln rx rs := ⟨k46 _ _ r4, R4.ext k46, f5.ext k6, d6⟩
    have D6 : Dw ns d g c (i * 3000 + 400) H6 := (D5.keep k6).mono (by omega)
    clear kx k5 i5 q5 f5 k45 k6 D5 D4 D3 D2 k3 k34 R3 R4 r4 hr3' hln hy hdx k46 d6 lr0
    -- the claims, the balances
    refine ⟨_, rfl, _, rfl, _, rfl, d, g, c, ln, _, m, fNames rs, rfl, D6, by omega, nnd, nng, ⟨g6.n, nm0, nm8, nmo⟩, m1, m9, fun lw0 xs0 cs0 H7 lw00 nwd0 nwg0 w7 c7 cl co0 D7 k7 => ?_⟩
    have g7 := g6.kp G D6 k7 nrd nrg nnd nng
    refine ⟨_, rfl, lw0, _, rfl, SqL.of w7, fun lw hlw => ?_⟩
    rw [show (19 : Int) = ((19 : Nat) : Int) from rfl, cut_tk]
    have K8 : Ext H7 (upd H7 lw (.lst (xs0.take 19))) := Gk.Ext.new hlw
    have w8 : (upd H7 lw (.lst (xs0.take 19))) lw = some (.lst (xs0.take 19)) := upd_same
    have nwd := D7.nd hlw
    have nwg := D7.ng hlw
    have D8 := D7.keep K8
    have c8 := (CsAt.take c7 19).ext K8
    have g8 := g7.ext K8
    generalize upd H7 lw (.lst (xs0.take 19)) = H8 at K8 w8 D8 c8 g8 ⊢
    have cl19 : (cs0.take 19).length ≤ 19 := by rw [List.length_take]; omega
    have co1 : ∀ q ∈ cs0.take 19, q.1 ∈ fNames rs ∧ 0 ≤ q.2 ∧ q.2 ≤ m := fun q hq => co0 q (List.mem_of_mem_take hq)
    generalize xs0.take 19 = xs at w8 c8
    generalize cs0.take 19 = cs at c8 cl19 co1
    have co : CsOk rs cs := ⟨by omega, fun q hq => ⟨(co1 q hq).1, (co1 q hq).2.1, by have := (co1 q hq).2.2; omega⟩⟩
    clear w7 c7 cl co0 K8 g7 g6 D6 D7 k7 lw00
    refine ⟨_, rfl, _, rfl, _, rfl, d, g, c, ln, _, m, fNames rs, rfl, D8, by omega, nnd, nng, ⟨g8.n, nm0, nm8, nmo⟩, nmn, m1, m9, fun bf bs H9 bf0 nbd nbg hb0 bn bo D9 k9 => ?_⟩
    have hB : BsOk rs bs := ⟨⟨bn, fun q hq => (bo q hq).1⟩, fun q hq => ⟨(bo q hq).2.1, by have := (bo q hq).2.2; omega⟩⟩
    have hv : ∀ p ∈ bs, 0 ≤ p.2 ∧ p.2 ≤ 2000000000 := fun p hp => ⟨(bo p hp).2.1, by have := (bo p hp).2.2; omega⟩
    have g9 := g8.kp G D8 k9 nrd nrg nnd nng
    have w9 := k9 _ _ nwd nwg w8
    have c9 := c8.kp D8 k9
    refine ⟨by show 2 ≤ sizeLine; decide, fun t ht => ?_⟩
    have KA : Ext H9 (upd H9 t (.tup [.ref lw, .ref bf])) := Gk.Ext.new ht
    have tA : (upd H9 t (.tup [.ref lw, .ref bf])) t = some (.tup [.ref lw, .ref bf]) := upd_same
    generalize upd H9 t (.tup [.ref lw, .ref bf]) = HA at KA tA ⊢
    refine ⟨t, _, rfl, SqT.of tA, rfl, _, _, rfl, _, _, rfl, rfl, ?_⟩
    have gA := g9.ext KA
    have DA := D9.keep KA
    -- the entitlements
    refine ⟨_, rfl, _, rfl, _, rfl, y, lw, bf, rs, bs, cs, xs, rfl, gA.F, G, .inl (KA _ _ w9), c9.ext KA, co, KA _ _ hb0, hB, fun HB am KB am0 ham => ?_⟩
    have gB := gA.ext KB
    have T0 : T10 C y lr ln lw bf am rx rs xs cs bs HB := ⟨⟨gB.F, (KA.trans KB) _ _ w9, c9.ext (KA.trans KB), (KA.trans KB) _ _ hb0, ham⟩, gB.n, gB.r, gB.R⟩
    have M : N10 d g lr ln lw bf am := ⟨nrd, nrg, nnd, nng, nwd, nwg, nbd, nbg, DA.nd am0, DA.ng am0⟩
    have DB := DA.keep KB
    clear KA KB tA gA DA D9 k9 g9 w9 c9 g8 w8 c8 D8 gB am0 ham hb0 bf0 ht hlw
    have hbp : ∀ p ∈ bs, 0 ≤ p.2 := fun p hp => (hB.2 p hp).1
    have hcp : ∀ q ∈ cs, q.1 ∈ fNames rs ∧ 0 ≤ q.2 := fun q hq => ⟨(co.2 q hq).1, (co.2 q hq).2.1⟩
    have wl : (entF rs bs cs).length = cs.length := ent_len
    have xl := T0.s.c.1
    dsimp only [List.set]
    -- juniors
    refine ⟨_, rfl, lw, _, rfl, .inl (SqL.of T0.s.w), _, _, rfl, rfl, ?_⟩
    refine ⟨_, rfl, by omega, by omega, for_range (lo := 0) (n := (((xs.length : Nat) : Int) + 1).toNat) (fun j σ H' => ∃ (v10 : Option V), σ = [some (.ref a), some (.ref d), some (.int (0 + (i : Nat))), some (.ref lr), some (.int m), some (.ref y), some (.ref ln), some (.ref lw), some (.ref bf), some (.ref am), v10, v11, v12, v13, v14, v15, v16, v17, none, none, none, none, none] ∧ Ext HB H') ⟨_, rfl, Ext.refl⟩ ?_ ?_⟩
    · rintro j σ HC hj ⟨v10', rfl, kc⟩
      have T1 := T0.ext kc
      refine ⟨_, rfl, _, rfl, _, rfl, _, rfl, lw, _, rfl, SqL.of T1.s.w, fun p hp => ?_⟩
      rw [show (0 : Int) + (j : Nat) = ((j : Nat) : Int) by omega, cut_tk]
      have K1 := Gk.Ext.new (o := .lst (xs.take j)) hp
      have p1 : (upd HC p (.lst (xs.take j))) p = some (.lst (xs.take j)) := upd_same
      generalize upd HC p (.lst (xs.take j)) = HD at K1 p1 ⊢
      have T2 := T1.ext K1
      refine ⟨_, rfl, y, p, bf, rs, bs, cs.take j, xs.take j, rfl, T2.s.F, G, .inl p1, CsAt.take T2.s.c j, ⟨by rw [List.length_take]; omega, fun q hq => co.2 q (List.mem_of_mem_take hq)⟩, T2.s.b, hB, fun HE tl KE _ htl => ?_⟩
      have T3 := T2.ext KE
      refine ⟨_, rfl, _, rfl, _, rfl, am, _, rfl, SqL.of T3.s.a, fun p2 hp2 => ?_⟩
      rw [cut_tk, ← List.map_take]
      have K4 := Gk.Ext.new (o := .lst (((entF rs bs cs).take j).map V.int)) hp2
      have p2' : (upd HE p2 (.lst (((entF rs bs cs).take j).map V.int))) p2 = some (.lst (((entF rs bs cs).take j).map V.int)) := upd_same
      generalize upd HE p2 (.lst (((entF rs bs cs).take j).map V.int)) = HF at K4 p2' ⊢
      refine ⟨_, _, dp_intl (K4 _ _ htl), dp_intl p2', shaped_ints _, shaped_ints _, _, rfl, ?_⟩
      rw [ent_pre_, eqv_same (shaped_ints _)]
      refine iteF ?_
      exact ⟨_, rfl, kc.trans (K1.trans (KE.trans K4))⟩
    rintro σ HC ⟨v10', rfl, kc⟩
    have T1 := T0.ext kc
    have DC := DB.keep kc
    clear T0 DB kc v10
    -- the rows in another order
    obtain ⟨zs, ez1, ez2, ez3⟩ := rw_of T1.R (strs_of G)
    refine ⟨_, rfl, _, rfl, d, g, c, lr, _, zs, rfl, DC, by omega, by rw [← ez1]; exact T1.r, by rw [← ez2]; exact G, ez3, fun sp ys HD sp0 nsd nsg hsp hperm G' hys DD kD => ?_⟩
    have pm : rs.Perm (ys.map fun z => z.2) := by rw [ez2]; exact (hperm.map _).symm
    intro y2 dx2 hy2 hdx2 ne2
    have kx : Ext HD (upd (upd HD dx2 (.own y2)) y2 (.ins C dx2 [])) := fun b o hb => by
      rw [upd_ne (ne_of_none hb hy2), upd_ne (ne_of_none hb hdx2)]
      exact hb
    refine ⟨y2, sp, dx2, _, ys.map fun z => z.2, rfl, upd_same, kx _ _ hsp, (rows_of_rw hys).ext kx, G', fun HE q2 k5 i5 q5 => ⟨rfl, ?_⟩⟩
    have kE : Ext HD HE := fun b o hb => k5 _ _ (ne_of_none hb hy2) (kx _ _ hb)
    have T2 := T1.kp G DC (kD.trans (Kp.of kE)) M
    refine ⟨_, rfl, _, rfl, y2, lw, bf, _, bs, cs, xs, rfl, ⟨dx2, q2, i5, q5⟩, G', .inl T2.s.w, T2.s.c, perm_csok pm co, T2.s.b, perm_bsok pm hB, fun HF tl KF _ htl => ?_⟩
    have T3 := T2.ext KF
    have DF := DD.keep (kE.trans KF)
    refine ⟨_, rfl, _, _, dp_intl htl, dp_intl T3.s.a, shaped_ints _, shaped_ints _, _, rfl, ?_⟩
    rw [ent_anc (anc_perm pm nmn), eqv_same (shaped_ints _)]
    refine iteF ?_
    clear T1 T2 DC DD kD kx k5 i5 q5 kE htl hys hsp ez1 ez2 ez3 pm KF
    -- other names
    refine ⟨_, rfl, _, rfl, _, rfl, _, rfl, d, g, c, lr, lw, bf, _, rx, xs, rs, cs, bs, rfl, DF, by omega, ⟨M.rd, M.rg, M.wd, M.wg, M.bd, M.bg⟩, T3.r, T3.R, G, T3.s.w, T3.s.c, co, T3.s.b, hB.1, fun fr t lo lc lb ox yx HG ht finj fok hlo hR' hlc hC' hlb DG kG => ?_⟩
    refine ⟨t, _, rfl, SqT.of ht, rfl, _, _, rfl, _, _, rfl, _, _, rfl, rfl, ?_⟩
    have T4 := T3.kp G DF kG M
    have G4 := ren_good finj G fok
    refine ⟨_, rfl, fun y3 dx3 hy3 hdx3 ne3 => ?_⟩
    have kx : Ext HG (upd (upd HG dx3 (.own y3)) y3 (.ins C dx3 [])) := fun b o hb => by
      rw [upd_ne (ne_of_none hb hy3), upd_ne (ne_of_none hb hdx3)]
      exact hb
    refine ⟨y3, lo, dx3, _, renR fr rs, rfl, upd_same, kx _ _ hlo, hR'.ext kx, G4, fun HH q3 k5 i5 q5 => ⟨rfl, ?_⟩⟩
    have kH : Ext HG HH := fun b o hb => k5 _ _ (ne_of_none hb hy3) (kx _ _ hb)
    refine ⟨_, rfl, _, rfl, y3, lc, lb, renR fr rs, renC fr bs, renC fr cs, yx, rfl, ⟨dx3, q3, i5, q5⟩, G4, .inl (kH _ _ hlc), hC'.ext kH, ren_csok co, kH _ _ hlb, ren_bsok finj hB, fun HI tl KI _ htl => ?_⟩
    have T5 := T4.ext (kH.trans KI)
    have DI := DG.keep (kH.trans KI)
    refine ⟨_, rfl, _, _, dp_intl htl, dp_intl T5.s.a, shaped_ints _, shaped_ints _, _, rfl, ?_⟩
    rw [ent_ren finj G G4 (fun p hp => hB.1.2 p hp) (fun q hq => (hcp q hq).1), eqv_same (shaped_ints _)]
    refine iteF ?_
    clear T3 T4 DF DG kG kx k5 i5 q5 kH htl hlo hR' hlc hC' hlb ht KI G4
    dsimp only [List.set]
    -- k times all numbers
    refine nx_head (nx_mk ?_)
    refine if_cont3 (fun σ' H' => ∃ v14' v15' v16' : Option V, σ' = [some (.ref a), some (.ref d), some (.int (0 + (i : Nat))), some (.ref lr), some (.int m), some (.ref y), some (.ref ln), some (.ref lw), some (.ref bf), some (.ref am), v10', some (.ref lo), some (.ref lc), some (.ref lb), v14', v15', v16', v17, none, none, none, none, none] ∧ T10 C y lr ln lw bf am rx rs xs cs bs H' ∧ Dw ns d g c (i * 3000 + 2000) H') ?_ ?_
    · rintro σ' HJ ⟨v14', v15', v16', rfl, T6, DJ⟩
      -- a claim in two
      refine if_cont3 (fun σ' H' => σ' = [some (.ref a), some (.ref d), some (.int (0 + (i : Nat))), some (.ref lr), some (.int m), some (.ref y), some (.ref ln), some (.ref lw), some (.ref bf), some (.ref am), v10', some (.ref lo), some (.ref lc), some (.ref lb), v14', v15', v16', v17, none, none, none, none, none] ∧ T10 C y lr ln lw bf am rx rs xs cs bs H' ∧ Dw ns d g c (i * 3000 + 2100) H') ?_ ?_
      · rintro σ' HK ⟨rfl, T7, DK⟩
        -- a balance moved
        refine ⟨_, rfl, _, rfl, _, rfl, _, rfl, _, rfl, y, ln, lw, bf, am, rs, xs, cs, bs, rfl, G, T7.n, T7.s, co, hB, hv, fun HL kL => ⟨true, rfl, iteF ?_⟩⟩
        have T8 := T7.ext kL
        have DL := DK.keep kL
        -- the sum
        refine ⟨_, rfl, _, rfl, y, bf, rs, bs, rfl, T8.s.F, G, T8.s.b, hB, fun HM wh kM _ hwh => ?_⟩
        have T9 := T8.ext kM
        have DM := DL.keep kM
        clear T7 T8 DK DL kL kM
        refine ⟨_, rfl, am, _, rfl, SqL.of T9.s.a, ?_⟩
        refine ⟨_, rfl, lr, rfl, ⟨_, SqL.of T9.r⟩, fun D hD => ?_⟩
        refine lc_it walk_list (fun i H' => H' D = some (.lst ((((rs.take i).filter fun r => decide (r.2 = none)).map fun r => totF rs bs r.1).map V.int)) ∧ Ext HM H') ⟨upd_same, Ext.new hD⟩ (fun i H' _ ⟨_, e⟩ => SqL.of (e _ _ T9.r)) ?_ ?_
        · rintro i' z H6 H6' hi' ⟨d6, k6⟩ ⟨rfl, hz⟩
          obtain ⟨r, p, hr1', rfl, hp⟩ := T9.R.get hz
          have hrn : r.1 ∈ fNames rs := List.mem_map.mpr ⟨r, List.mem_of_getElem? hr1', rfl⟩
          have kp := k6 _ _ hp
          have etk : rs.take (i' + 1) = rs.take i' ++ [r] := take_snoc hr1'
          have r8 := G.2.1
          obtain ⟨n, par⟩ := r
          cases par with
          | none =>
            refine ⟨p, _, rfl, SqT.of kp, rfl, _, _, rfl, _, _, rfl, rfl, rfl, ?_⟩
            refine ⟨_, rfl, rfl, _, rfl, iteS rfl ?_⟩
            refine ⟨_, rfl, _, rfl, wh, _, rfl, get_dN (.inl (k6 _ _ hwh)) hrn, _, d6, ?_, ?_, fun x o ex => ?_⟩
            · rw [List.length_map, List.length_map]
              refine small1000 (Nat.le_trans (List.length_filter_le ..) ?_)
              rw [List.length_take]
              omega
            · rw [upd_same, etk, List.filter_append, List.map_append, List.map_append]
              rfl
            · rw [upd_ne (ne_of_none ex hD)]
              exact k6 _ _ ex
          | some mm =>
            refine ⟨p, _, rfl, SqT.of kp, rfl, _, _, rfl, _, _, rfl, rfl, rfl, ?_⟩
            refine ⟨_, rfl, rfl, _, rfl, iteN (by intro z; cases z) ⟨?_, k6⟩⟩
            rw [etk, List.filter_append, List.filter_cons_of_neg (by intro z; cases of_decide_eq_true z), List.filter_nil, List.append_nil]
            exact d6
        rintro HN ⟨dN', kN⟩
        rw [show rs.take rx.length = rs from List.take_of_length_le (by rw [T9.R.1]; exact Nat.le_refl _)] at dN'
        have le := ent_le (bs := bs) (cs := cs) G hbp hcp
        refine ⟨D, _, rfl, SqL.of dN', _, _, rfl, rfl, _, rfl, ?_⟩
        refine iteN (by omega) ?_
        exact ⟨_, _, _, _, _, _, _, _, _, _, _, _, _, _, _, _, rfl, (DM.keep kN).mono (by omega)⟩
      · intro rest
        obtain ⟨qs, eq1, eq2, eq3⟩ := pr_of T6.s.c (fun q hq => (name_asc19 (nmo _ (hcp q hq).1)).ok)
        refine ⟨_, rfl, Nat.zero_le _, fun q hq => ?_⟩
        have KA := Gk.Ext.new (o := .lst []) hq
        have T7 := T6.ext KA
        have zA : ∀ z ∈ qs, POk (upd HJ q (.lst [])) z := fun z hz => (eq3 z hz).ext KA
        have dA : DpAll K (upd HJ q (.lst [])) xs (qs.map pd_) := by rw [eq1]; exact dp_prs zA
        have D7 := DJ.keep KA
        refine ⟨_, _, .lst (SqL.of T7.s.w) dA, .lst (SqL.of upd_same) .nil, shaped_prs zA, shaped_nil, _, rfl, ?_⟩
        rw [eqv_nil]
        generalize upd HJ q (.lst []) = HA at T7 D7 ⊢
        cases qs with
        | nil =>
          refine iteF ?_
          exact rest _ _ ⟨rfl, T7, D7.mono (by omega)⟩
        | cons z0 zr =>
          refine iteT ?_
          have cpos : 0 < cs.length := by rw [eq2, List.length_map, List.length_cons]; omega
          refine ⟨_, rfl, _, rfl, _, rfl, _, rfl, _, rfl, d, g, c, y, lw, bf, am, _, rs, xs, cs, bs, rfl, D7, by omega, G, T7.s, ⟨M.wd, M.wg, M.bd, M.bg, M.ad, M.ag⟩, cl19, cpos, co, hB, fun H8 D8 k8 => ⟨true, rfl, iteF ?_⟩⟩
          exact rest _ _ ⟨rfl, T7.kp G D7 k8 M, D8.mono (by omega)⟩
    · intro rest
      refine ⟨_, rfl, rfl, _, rfl, ?_⟩
      by_cases h12 : m = 12
      case neg =>
        refine iteN (fun e => h12 (by injection e)) ?_
        exact rest _ _ ⟨_, _, _, rfl, T5, DI.mono (by omega)⟩
      refine iteS (by rw [h12]) ?_
      refine ⟨_, rfl, d, g, c, _, 9, rfl, DI, by omega, by decide, by decide, fun kz H6 k0 k9 D6 k6 => ?_⟩
      have T6 := T5.kp G DI k6 M
      refine ⟨_, _, rfl, rfl, ?_⟩
      dsimp only [List.set]
      generalize hK : 2 + kz = kk
      have kk0 : 0 ≤ kk := by omega
      have kk10 : kk ≤ 10 := by omega
      have k64 : -(2 ^ 64) < kk ∧ kk < 2 ^ 64 := ⟨by omega, by omega⟩
      have bf6 := T6.s.b
      have b8 := bs_len G hB.1
      -- the balances
      refine ⟨bf, _, bf6, trivial, fun od => ?_⟩
      have oth : ∀ x o, x ≠ bf → H6 x = some o → (upd H6 bf (.frz od (.dK (dB bs)))) x = some o := fun x o n e => by rw [upd_ne n]; exact e
      have atL : (upd H6 bf (.frz od (.dK (dB bs)))) bf = some (.frz od (.dK (dB bs))) := upd_same
      have nonL : ∀ x, (upd H6 bf (.frz od (.dK (dB bs)))) x = none → x ≠ bf := fun x hx e => by rw [e, atL] at hx; cases hx
      generalize upd H6 bf (.frz od (.dK (dB bs))) = HL at oth atL nonL ⊢
      refine ⟨_, rfl, bf, od, rfl, .inl ⟨_, atL, fun ba hba => ?_⟩⟩
      refine lc_it walk_keys (fun i H' => ∃ yx, H' ba = some (.lst yx) ∧ CsAt H' yx (mulC kk (bs.take i)) ∧ Ext HL H') ⟨[], upd_same, ⟨rfl, fun i r h => by cases h⟩, Ext.new hba⟩ (fun i H' _ ⟨_, _, _, e⟩ => e _ _ atL) ?_ ?_
      · rintro i' z H7 H7' hi' ⟨yx, d6, c6, k6⟩ ⟨rfl, ky, vv, hkv, rfl⟩
        obtain ⟨p, hp, rfl, rfl⟩ : ∃ p : Str × Int, bs[i']? = some p ∧ (Sum.inr p.1 : Key) = ky ∧ V.int p.2 = vv := by
          unfold dB at hkv
          rw [List.getElem?_map] at hkv
          obtain ⟨p, hp, e⟩ := Option.map_eq_some_iff.mp hkv
          cases e
          exact ⟨p, hp, rfl, rfl⟩
        have hpm := List.mem_of_getElem? hp
        have ilt := (List.getElem?_eq_some_iff.mp hp).1
        have ylen : yx.length = i' := by rw [c6.1, mulC_len, List.length_take]; omega
        refine ⟨rfl, yes_of ?_⟩
        refine ⟨_, rfl, _, rfl, _, rfl, _, rfl, bf, _, rfl, get_dB (.inr ⟨od, k6 _ _ atL⟩) hB.1.1 hpm, _, _, rfl, rfl, .inl k64, by show 2 ≤ sizeLine; decide, fun t ht => ?_⟩
        have nto : t ≠ ba := fun e => by rw [e, d6] at ht; cases ht
        refine ⟨yx, by rw [upd_ne nto.symm]; exact d6, small1000 (by omega), _, upd_same, ?_, ext_two k6 hba ht⟩
        rw [mulC_take kk hp]
        exact CsAt.sn c6 (TupX.mk ht d6) (by rw [upd_ne nto]; exact upd_same)
      rintro H7 ⟨yb, d6, c6, k7⟩
      have hbl : (dB bs).length = bs.length := by unfold dB; rw [List.length_map]
      rw [show bs.take (dB bs).length = bs from List.take_of_length_le (by omega)] at c6
      refine ⟨k7 _ _ atL, ?_⟩
      have nba := nonL ba hba
      have K7 : Ext H6 (upd H7 bf (.dK (dB bs))) := fun x o e => by
        by_cases n : x = bf
        · subst n
          rw [upd_same, ← bf6, e]
        · rw [upd_ne n]
          exact k7 _ _ (oth x o n e)
      have d7 : (upd H7 bf (.dK (dB bs))) ba = some (.lst yb) := by rw [upd_ne nba]; exact d6
      have c7 : CsAt (upd H7 bf (.dK (dB bs))) yb (mulC kk bs) := ⟨c6.1, fun i c hc => by
        obtain ⟨p, a1, a2⟩ := c6.2 i c hc
        exact ⟨p, a1, by rw [upd_ne (ne_of a2 (k7 _ _ atL) (by intro z; cases z))]; exact a2⟩⟩
      generalize upd H7 bf (.dK (dB bs)) = H8 at K7 d7 c7 ⊢
      have bm : ∀ c ∈ bs, 0 ≤ c.2 ∧ c.2 ≤ 24 := fun c hc => ⟨(bo c hc).2.1, by have := (bo c hc).2.2; omega⟩
      have bok := mul_bsok kk0 kk10 hB.1 bm
      have cok := mul_csok (rs := rs) (cs := cs) kk0 kk10 (by omega) fun c hc => ⟨(co1 c hc).1, (co1 c hc).2.1, by have := (co1 c hc).2.2; omega⟩
      obtain ⟨ps, rfl⟩ := cs_refs c7
      refine ⟨ba, ps, dB (mulC kk bs), rfl, SqL.of d7, paired_bal c7, fun lb' hlb => ?_⟩
      rw [merge_dB bok.1.1]
      have K8 : Ext H6 (upd H8 lb' (.dK (dB (mulC kk bs)))) := K7.trans (Gk.Ext.new hlb)
      have l8 : (upd H8 lb' (.dK (dB (mulC kk bs)))) lb' = some (.dK (dB (mulC kk bs))) := upd_same
      generalize upd H8 lb' (.dK (dB (mulC kk bs))) = H9 at K8 l8 ⊢
      have T9 := T6.ext K8
      have D9 := D6.keep K8
      clear K7 d7 c7 k7 c6 d6 nonL atL oth hba nba T6 D6 bf6 T5 DI
      dsimp only [List.set]
      -- the claims
      refine ⟨_, rfl, lw, rfl, ⟨_, SqL.of T9.s.w⟩, fun ca hca => ?_⟩
      refine lc_it walk_list (fun i H' => ∃ yx, H' ca = some (.lst yx) ∧ CsAt H' yx (mulC kk (cs.take i)) ∧ Ext H9 H') ⟨[], upd_same, ⟨rfl, fun i r h => by cases h⟩, Ext.new hca⟩ (fun i H' _ ⟨_, _, _, e⟩ => SqL.of (e _ _ T9.s.w)) ?_ ?_
      · rintro i' z HA HA' hi' ⟨yx, d6, c6, k6⟩ ⟨rfl, hz⟩
        obtain ⟨q, p, hq1, rfl, hp⟩ := CsAt.get T9.s.c hz
        have ilt := (List.getElem?_eq_some_iff.mp hq1).1
        have ylen : yx.length = i' := by rw [c6.1, mulC_len, List.length_take]; omega
        refine ⟨p, _, rfl, SqT.of (k6 _ _ hp), rfl, _, _, rfl, _, _, rfl, rfl, rfl, yes_of ?_⟩
        refine ⟨_, rfl, _, rfl, _, rfl, _, _, rfl, rfl, .inl k64, by show 2 ≤ sizeLine; decide, fun t ht => ?_⟩
        have nto : t ≠ ca := fun e => by rw [e, d6] at ht; cases ht
        refine ⟨yx, by rw [upd_ne nto.symm]; exact d6, small1000 (by omega), _, upd_same, ?_, ext_two k6 hca ht⟩
        rw [mulC_take kk hq1]
        exact CsAt.sn c6 (TupX.mk ht d6) (by rw [upd_ne nto]; exact upd_same)
      rintro HA ⟨yc, dA, cA, kA⟩
      rw [show cs.take xs.length = cs from List.take_of_length_le (by rw [xl]; exact Nat.le_refl _)] at cA
      have TA := T9.ext kA
      have DA := D9.keep kA
      -- k times what was told
      refine ⟨_, rfl, _, rfl, _, rfl, y, ca, lb', rs, mulC kk bs, mulC kk cs, yc, rfl, TA.s.F, G, .inl dA, cA, cok, kA _ _ l8, bok, fun HB tl kB _ htl => ?_⟩
      have TB := TA.ext kB
      have DB := DA.keep kB
      refine ⟨_, rfl, am, rfl, ⟨_, SqL.of TB.s.a⟩, fun D hD => ?_⟩
      refine lc_it walk_list (fun i H' => H' D = some (.lst ((((entF rs bs cs).map fun x => kk * x).take i).map V.int)) ∧ Ext HB H') ⟨upd_same, Ext.new hD⟩ (fun i H' _ ⟨_, e⟩ => SqL.of (e _ _ TB.s.a)) ?_ ?_
      · rintro i' z HC HC' hi' ⟨d6, k6⟩ ⟨rfl, hz⟩
        rw [List.getElem?_map] at hz
        obtain ⟨o, ho, rfl⟩ := Option.map_eq_some_iff.mp hz
        have hs : ((entF rs bs cs).map fun x => kk * x)[i']? = some (kk * o) := by rw [List.getElem?_map, ho]; rfl
        have ilt := (List.getElem?_eq_some_iff.mp ho).1
        refine ⟨rfl, yes_of ?_⟩
        refine ⟨_, rfl, _, rfl, _, _, rfl, rfl, .inl k64, _, d6, ?_, ?_, fun x w ex => ?_⟩
        · rw [List.length_map, List.length_take, List.length_map]
          exact small1000 (by omega)
        · rw [upd_same, take_snoc hs, List.map_append]
          rfl
        · rw [upd_ne (ne_of_none ex hD)]
          exact k6 _ _ ex
      rintro HC ⟨dC, kC⟩
      rw [show ((entF rs bs cs).map fun x => kk * x).take ((entF rs bs cs).map V.int).length = (entF rs bs cs).map fun x => kk * x from List.take_of_length_le (by rw [List.length_map, List.length_map]; exact Nat.le_refl _)] at dC
      refine ⟨_, _, dp_intl (kC _ _ htl), dp_intl dC, shaped_ints _, shaped_ints _, _, rfl, ?_⟩
      rw [ent_mul kk0, eqv_same (shaped_ints _)]
      refine iteF ?_
      exact rest _ _ ⟨_, _, _, rfl, TB.ext kC, (DB.keep kC).mono (by omega)⟩
  · rintro σ H2 ⟨v2, v3, v4, v5, v6, v7, v8, v9, v10, v11, v12, v13, v14, v15, v16, v17, rfl, D2⟩
    rfl
end
end Lw

set_option Elab.async false
set_option linter.all false
set_option maxRecDepth 100000
set_option maxHeartbeats 8000000
namespace Lw
open L2 hiding Ext
open PySem PySem.Spec PyProof.Rows Gn Gr Gk Go Gt Gf Gu Ge
theorem kit_self {K : PySem.W.Frag} {C : Addr} : PySem.W.kitOne K (.ref C) (.ref C) = some true := by
  unfold PySem.W.kitOne
  rw [if_pos (by simp)]
/-- what the top has left, def by def -/
theorem all_mk {P : Program} {w : World} {K : PySem.W.Frag} {h : Heap} {mg : Str → Option Value} {fa : Addr} (X : K.In h) (G : h.Ns mainGlobals mg) (hfa : mg "law" = some (.ref fa))
    {fq0 : Addr} {odq0 anq0 : Option Addr} {slq0 : Array (Option Value)} {ocq0 kVq0 dcq0 pmq0 cdq0 ctq0 : Value}
    (aq0 : PySem.W.nsIn K mainGlobals "_law_begun" = some (some (.ref fq0))) (lq0 : K.lookup fq0 = some ⟨ocq0, odq0, .func (PySem.W.fnOf "_law_begun" "_law_begun" (defArgs sBegun) (defBody sBegun) (defScope sBegun) .none kVq0 dcq0 pmq0 anq0 cdq0 ctq0), slq0⟩) (cq0 : PySem.W.codeIn K cdq0 "_law_begun" = true) (kq0 : PySem.W.keepIn K (.ref fq0) = true)
    {fq1 : Addr} {odq1 anq1 : Option Addr} {slq1 : Array (Option Value)} {ocq1 kVq1 dcq1 pmq1 cdq1 ctq1 : Value}
    (aq1 : PySem.W.nsIn K mainGlobals "_law_mixed" = some (some (.ref fq1))) (lq1 : K.lookup fq1 = some ⟨ocq1, odq1, .func (PySem.W.fnOf "_law_mixed" "_law_mixed" (defArgs sMixed) (defBody sMixed) (defScope sMixed) .none kVq1 dcq1 pmq1 anq1 cdq1 ctq1), slq1⟩) (cq1 : PySem.W.codeIn K cdq1 "_law_mixed" = true) (kq1 : PySem.W.keepIn K (.ref fq1) = true)
    {fq2 : Addr} {odq2 anq2 : Option Addr} {slq2 : Array (Option Value)} {ocq2 kVq2 dcq2 pmq2 cdq2 ctq2 : Value}
    (aq2 : PySem.W.nsIn K mainGlobals "_law_take" = some (some (.ref fq2))) (lq2 : K.lookup fq2 = some ⟨ocq2, odq2, .func (PySem.W.fnOf "_law_take" "_law_take" (defArgs sTake) (defBody sTake) (defScope sTake) .none kVq2 dcq2 pmq2 anq2 cdq2 ctq2), slq2⟩) (cq2 : PySem.W.codeIn K cdq2 "_law_take" = true) (kq2 : PySem.W.keepIn K (.ref fq2) = true)
    {fq3 : Addr} {odq3 anq3 : Option Addr} {slq3 : Array (Option Value)} {ocq3 kVq3 dcq3 pmq3 cdq3 ctq3 : Value}
    (aq3 : PySem.W.nsIn K mainGlobals "_law_pick" = some (some (.ref fq3))) (lq3 : K.lookup fq3 = some ⟨ocq3, odq3, .func (PySem.W.fnOf "_law_pick" "_law_pick" (defArgs sPick) (defBody sPick) (defScope sPick) .none kVq3 dcq3 pmq3 anq3 cdq3 ctq3), slq3⟩) (cq3 : PySem.W.codeIn K cdq3 "_law_pick" = true) (kq3 : PySem.W.keepIn K (.ref fq3) = true)
    {fq4 : Addr} {odq4 anq4 : Option Addr} {slq4 : Array (Option Value)} {ocq4 kVq4 dcq4 pmq4 cdq4 ctq4 : Value}
    (aq4 : PySem.W.nsIn K mainGlobals "_law_words" = some (some (.ref fq4))) (lq4 : K.lookup fq4 = some ⟨ocq4, odq4, .func (PySem.W.fnOf "_law_words" "_law_words" (defArgs sWords) (defBody sWords) (defScope sWords) .none kVq4 dcq4 pmq4 anq4 cdq4 ctq4), slq4⟩) (cq4 : PySem.W.codeIn K cdq4 "_law_words" = true) (kq4 : PySem.W.keepIn K (.ref fq4) = true)
    {fq5 : Addr} {odq5 anq5 : Option Addr} {slq5 : Array (Option Value)} {ocq5 kVq5 dcq5 pmq5 cdq5 ctq5 : Value}
    (aq5 : PySem.W.nsIn K mainGlobals "_law_forest" = some (some (.ref fq5))) (lq5 : K.lookup fq5 = some ⟨ocq5, odq5, .func (PySem.W.fnOf "_law_forest" "_law_forest" (defArgs sForest) (defBody sForest) (defScope sForest) .none kVq5 dcq5 pmq5 anq5 cdq5 ctq5), slq5⟩) (cq5 : PySem.W.codeIn K cdq5 "_law_forest" = true) (kq5 : PySem.W.keepIn K (.ref fq5) = true)
    {fq6 : Addr} {odq6 anq6 : Option Addr} {slq6 : Array (Option Value)} {ocq6 kVq6 dcq6 pmq6 cdq6 ctq6 : Value}
    (aq6 : PySem.W.nsIn K mainGlobals "is_int" = some (some (.ref fq6))) (lq6 : K.lookup fq6 = some ⟨ocq6, odq6, .func (PySem.W.fnOf "is_int" "is_int" (defArgs sInt) (defBody sInt) (defScope sInt) .none kVq6 dcq6 pmq6 anq6 cdq6 ctq6), slq6⟩) (cq6 : PySem.W.codeIn K cdq6 "is_int" = true) (kq6 : PySem.W.keepIn K (.ref fq6) = true)
    {fq7 : Addr} {odq7 anq7 : Option Addr} {slq7 : Array (Option Value)} {ocq7 kVq7 dcq7 pmq7 cdq7 ctq7 : Value}
    (aq7 : PySem.W.nsIn K mainGlobals "is_name" = some (some (.ref fq7))) (lq7 : K.lookup fq7 = some ⟨ocq7, odq7, .func (PySem.W.fnOf "is_name" "is_name" (defArgs sName) (defBody sName) (defScope sName) .none kVq7 dcq7 pmq7 anq7 cdq7 ctq7), slq7⟩) (cq7 : PySem.W.codeIn K cdq7 "is_name" = true) (kq7 : PySem.W.keepIn K (.ref fq7) = true)
    {fq8 : Addr} {odq8 anq8 : Option Addr} {slq8 : Array (Option Value)} {ocq8 kVq8 dcq8 pmq8 cdq8 ctq8 : Value}
    (aq8 : PySem.W.nsIn K mainGlobals "is_amount" = some (some (.ref fq8))) (lq8 : K.lookup fq8 = some ⟨ocq8, odq8, .func (PySem.W.fnOf "is_amount" "is_amount" (defArgs sAmount) (defBody sAmount) (defScope sAmount) .none kVq8 dcq8 pmq8 anq8 cdq8 ctq8), slq8⟩) (cq8 : PySem.W.codeIn K cdq8 "is_amount" = true) (kq8 : PySem.W.keepIn K (.ref fq8) = true)
    {fq9 : Addr} {odq9 anq9 : Option Addr} {slq9 : Array (Option Value)} {ocq9 kVq9 dcq9 pmq9 cdq9 ctq9 : Value}
    (aq9 : PySem.W.nsIn K mainGlobals "is_row" = some (some (.ref fq9))) (lq9 : K.lookup fq9 = some ⟨ocq9, odq9, .func (PySem.W.fnOf "is_row" "is_row" (defArgs sRow) (defBody sRow) (defScope sRow) .none kVq9 dcq9 pmq9 anq9 cdq9 ctq9), slq9⟩) (cq9 : PySem.W.codeIn K cdq9 "is_row" = true) (kq9 : PySem.W.keepIn K (.ref fq9) = true)
    {fq10 : Addr} {odq10 anq10 : Option Addr} {slq10 : Array (Option Value)} {ocq10 kVq10 dcq10 pmq10 cdq10 ctq10 : Value}
    (aq10 : PySem.W.nsIn K mainGlobals "first_wrong" = some (some (.ref fq10))) (lq10 : K.lookup fq10 = some ⟨ocq10, odq10, .func (PySem.W.fnOf "first_wrong" "first_wrong" (defArgs sWrong) (defBody sWrong) (defScope sWrong) .none kVq10 dcq10 pmq10 anq10 cdq10 ctq10), slq10⟩) (cq10 : PySem.W.codeIn K cdq10 "first_wrong" = true) (kq10 : PySem.W.keepIn K (.ref fq10) = true)
    {fq11 : Addr} {odq11 anq11 : Option Addr} {slq11 : Array (Option Value)} {ocq11 kVq11 dcq11 pmq11 cdq11 ctq11 : Value}
    (aq11 : PySem.W.nsIn K mainGlobals "law" = some (some (.ref fq11))) (lq11 : K.lookup fq11 = some ⟨ocq11, odq11, .func (PySem.W.fnOf "law" "law" (defArgs sLaw) (defBody sLaw) (defScope sLaw) .none kVq11 dcq11 pmq11 anq11 cdq11 ctq11), slq11⟩) (cq11 : PySem.W.codeIn K cdq11 "law" = true) (kq11 : PySem.W.keepIn K (.ref fq11) = true)
    {fq12 : Addr} {odq12 anq12 : Option Addr} {slq12 : Array (Option Value)} {ocq12 kVq12 dcq12 pmq12 cdq12 ctq12 : Value}
    (aq12 : PySem.W.nsIn K mainGlobals "is_claim" = some (some (.ref fq12))) (lq12 : K.lookup fq12 = some ⟨ocq12, odq12, .func (PySem.W.fnOf "is_claim" "is_claim" (defArgs sIsClaim) (defBody sIsClaim) (defScope sIsClaim) .none kVq12 dcq12 pmq12 anq12 cdq12 ctq12), slq12⟩) (cq12 : PySem.W.codeIn K cdq12 "is_claim" = true) (kq12 : PySem.W.keepIn K (.ref fq12) = true)
    {fq13 : Addr} {odq13 anq13 : Option Addr} {slq13 : Array (Option Value)} {ocq13 kVq13 dcq13 pmq13 cdq13 ctq13 : Value}
    (aq13 : PySem.W.nsIn K mainGlobals "check_claims" = some (some (.ref fq13))) (lq13 : K.lookup fq13 = some ⟨ocq13, odq13, .func (PySem.W.fnOf "check_claims" "check_claims" (defArgs sCheckClaims) (defBody sCheckClaims) (defScope sCheckClaims) .none kVq13 dcq13 pmq13 anq13 cdq13 ctq13), slq13⟩) (cq13 : PySem.W.codeIn K cdq13 "check_claims" = true) (kq13 : PySem.W.keepIn K (.ref fq13) = true)
    {fq14 : Addr} {odq14 anq14 : Option Addr} {slq14 : Array (Option Value)} {ocq14 kVq14 dcq14 pmq14 cdq14 ctq14 : Value}
    (aq14 : PySem.W.nsIn K mainGlobals "check_balances" = some (some (.ref fq14))) (lq14 : K.lookup fq14 = some ⟨ocq14, odq14, .func (PySem.W.fnOf "check_balances" "check_balances" (defArgs sCheckBalances) (defBody sCheckBalances) (defScope sCheckBalances) .none kVq14 dcq14 pmq14 anq14 cdq14 ctq14), slq14⟩) (cq14 : PySem.W.codeIn K cdq14 "check_balances" = true) (kq14 : PySem.W.keepIn K (.ref fq14) = true)
    {fq15 : Addr} {odq15 anq15 : Option Addr} {slq15 : Array (Option Value)} {ocq15 kVq15 dcq15 pmq15 cdq15 ctq15 : Value}
    (aq15 : PySem.W.nsIn K mainGlobals "totals_of" = some (some (.ref fq15))) (lq15 : K.lookup fq15 = some ⟨ocq15, odq15, .func (PySem.W.fnOf "totals_of" "totals_of" (defArgs sTotalsOf) (defBody sTotalsOf) (defScope sTotalsOf) .none kVq15 dcq15 pmq15 anq15 cdq15 ctq15), slq15⟩) (cq15 : PySem.W.codeIn K cdq15 "totals_of" = true) (kq15 : PySem.W.keepIn K (.ref fq15) = true)
    {fq16 : Addr} {odq16 anq16 : Option Addr} {slq16 : Array (Option Value)} {ocq16 kVq16 dcq16 pmq16 cdq16 ctq16 : Value}
    (aq16 : PySem.W.nsIn K mainGlobals "_law_order" = some (some (.ref fq16))) (lq16 : K.lookup fq16 = some ⟨ocq16, odq16, .func (PySem.W.fnOf "_law_order" "_law_order" (defArgs sLOrder) (defBody sLOrder) (defScope sLOrder) .none kVq16 dcq16 pmq16 anq16 cdq16 ctq16), slq16⟩) (cq16 : PySem.W.codeIn K cdq16 "_law_order" = true) (kq16 : PySem.W.keepIn K (.ref fq16) = true)
    {fq17 : Addr} {odq17 anq17 : Option Addr} {slq17 : Array (Option Value)} {ocq17 kVq17 dcq17 pmq17 cdq17 ctq17 : Value}
    (aq17 : PySem.W.nsIn K mainGlobals "_law_claims" = some (some (.ref fq17))) (lq17 : K.lookup fq17 = some ⟨ocq17, odq17, .func (PySem.W.fnOf "_law_claims" "_law_claims" (defArgs sLClaims) (defBody sLClaims) (defScope sLClaims) .none kVq17 dcq17 pmq17 anq17 cdq17 ctq17), slq17⟩) (cq17 : PySem.W.codeIn K cdq17 "_law_claims" = true) (kq17 : PySem.W.keepIn K (.ref fq17) = true)
    {fq18 : Addr} {odq18 anq18 : Option Addr} {slq18 : Array (Option Value)} {ocq18 kVq18 dcq18 pmq18 cdq18 ctq18 : Value}
    (aq18 : PySem.W.nsIn K mainGlobals "_law_balances" = some (some (.ref fq18))) (lq18 : K.lookup fq18 = some ⟨ocq18, odq18, .func (PySem.W.fnOf "_law_balances" "_law_balances" (defArgs sLBalances) (defBody sLBalances) (defScope sLBalances) .none kVq18 dcq18 pmq18 anq18 cdq18 ctq18), slq18⟩) (cq18 : PySem.W.codeIn K cdq18 "_law_balances" = true) (kq18 : PySem.W.keepIn K (.ref fq18) = true)
    {fq19 : Addr} {odq19 anq19 : Option Addr} {slq19 : Array (Option Value)} {ocq19 kVq19 dcq19 pmq19 cdq19 ctq19 : Value}
    (aq19 : PySem.W.nsIn K mainGlobals "grants" = some (some (.ref fq19))) (lq19 : K.lookup fq19 = some ⟨ocq19, odq19, .func (PySem.W.fnOf "grants" "grants" (defArgs sGrants) (defBody sGrants) (defScope sGrants) .none kVq19 dcq19 pmq19 anq19 cdq19 ctq19), slq19⟩) (cq19 : PySem.W.codeIn K cdq19 "grants" = true) (kq19 : PySem.W.keepIn K (.ref fq19) = true)
    {fq20 : Addr} {odq20 anq20 : Option Addr} {slq20 : Array (Option Value)} {ocq20 kVq20 dcq20 pmq20 cdq20 ctq20 : Value}
    (aq20 : PySem.W.nsIn K mainGlobals "entitlements" = some (some (.ref fq20))) (lq20 : K.lookup fq20 = some ⟨ocq20, odq20, .func (PySem.W.fnOf "entitlements" "entitlements" (defArgs sEntitlements) (defBody sEntitlements) (defScope sEntitlements) .none kVq20 dcq20 pmq20 anq20 cdq20 ctq20), slq20⟩) (cq20 : PySem.W.codeIn K cdq20 "entitlements" = true) (kq20 : PySem.W.keepIn K (.ref fq20) = true)
    {fq21 : Addr} {odq21 anq21 : Option Addr} {slq21 : Array (Option Value)} {ocq21 kVq21 dcq21 pmq21 cdq21 ctq21 : Value}
    (aq21 : PySem.W.nsIn K mainGlobals "totals" = some (some (.ref fq21))) (lq21 : K.lookup fq21 = some ⟨ocq21, odq21, .func (PySem.W.fnOf "totals" "totals" (defArgs sTotals) (defBody sTotals) (defScope sTotals) .none kVq21 dcq21 pmq21 anq21 cdq21 ctq21), slq21⟩) (cq21 : PySem.W.codeIn K cdq21 "totals" = true) (kq21 : PySem.W.keepIn K (.ref fq21) = true)
    {fq22 : Addr} {odq22 anq22 : Option Addr} {slq22 : Array (Option Value)} {ocq22 kVq22 dcq22 pmq22 cdq22 ctq22 : Value}
    (aq22 : PySem.W.nsIn K mainGlobals "_law_sorted_rows" = some (some (.ref fq22))) (lq22 : K.lookup fq22 = some ⟨ocq22, odq22, .func (PySem.W.fnOf "_law_sorted_rows" "_law_sorted_rows" (defArgs sLSortedRows) (defBody sLSortedRows) (defScope sLSortedRows) .none kVq22 dcq22 pmq22 anq22 cdq22 ctq22), slq22⟩) (cq22 : PySem.W.codeIn K cdq22 "_law_sorted_rows" = true) (kq22 : PySem.W.keepIn K (.ref fq22) = true)
    {fq23 : Addr} {odq23 anq23 : Option Addr} {slq23 : Array (Option Value)} {ocq23 kVq23 dcq23 pmq23 cdq23 ctq23 : Value}
    (aq23 : PySem.W.nsIn K mainGlobals "_law_renamed" = some (some (.ref fq23))) (lq23 : K.lookup fq23 = some ⟨ocq23, odq23, .func (PySem.W.fnOf "_law_renamed" "_law_renamed" (defArgs sLRenamed) (defBody sLRenamed) (defScope sLRenamed) .none kVq23 dcq23 pmq23 anq23 cdq23 ctq23), slq23⟩) (cq23 : PySem.W.codeIn K cdq23 "_law_renamed" = true) (kq23 : PySem.W.keepIn K (.ref fq23) = true)
    {fq24 : Addr} {odq24 anq24 : Option Addr} {slq24 : Array (Option Value)} {ocq24 kVq24 dcq24 pmq24 cdq24 ctq24 : Value}
    (aq24 : PySem.W.nsIn K mainGlobals "_law_split_right" = some (some (.ref fq24))) (lq24 : K.lookup fq24 = some ⟨ocq24, odq24, .func (PySem.W.fnOf "_law_split_right" "_law_split_right" (defArgs sLSplitRight) (defBody sLSplitRight) (defScope sLSplitRight) .none kVq24 dcq24 pmq24 anq24 cdq24 ctq24), slq24⟩) (cq24 : PySem.W.codeIn K cdq24 "_law_split_right" = true) (kq24 : PySem.W.keepIn K (.ref fq24) = true)
    {fq25 : Addr} {odq25 anq25 : Option Addr} {slq25 : Array (Option Value)} {ocq25 kVq25 dcq25 pmq25 cdq25 ctq25 : Value}
    (aq25 : PySem.W.nsIn K mainGlobals "_law_moved_right" = some (some (.ref fq25))) (lq25 : K.lookup fq25 = some ⟨ocq25, odq25, .func (PySem.W.fnOf "_law_moved_right" "_law_moved_right" (defArgs sLMovedRight) (defBody sLMovedRight) (defScope sLMovedRight) .none kVq25 dcq25 pmq25 anq25 cdq25 ctq25), slq25⟩) (cq25 : PySem.W.codeIn K cdq25 "_law_moved_right" = true) (kq25 : PySem.W.keepIn K (.ref fq25) = true)
    {C : Addr} (aC : PySem.W.nsIn K mainGlobals "Forest" = some (some (.ref C)))
    {fI : Addr} {odI anI : Option Addr} {slI : Array (Option Value)} {ocI kVI dcI pmI cdI ctI : Value}
    (aI : PySem.W.findIn K (.ref C) "__init__" = some (some (.ref fI))) (iI : PySem.W.isFn K (.ref fI) = true)
    (lI : K.lookup fI = some ⟨ocI, odI, .func (PySem.W.fnOf "__init__" "Forest.__init__" (defArgs sInit) (defBody sInit) (defScope sInit) .none kVI dcI pmI anI cdI ctI), slI⟩) (cI : PySem.W.codeIn K cdI "Forest.__init__" = true) (kI : PySem.W.keepIn K (.ref fI) = true)
    {fS : Addr} {odS anS : Option Addr} {slS : Array (Option Value)} {ocS kVS dcS pmS cdS ctS : Value}
    {pS : Addr} {rrS : List Value} (aS : PySem.W.findIn K (.ref C) "names" = some (some (.ref pS))) (gS : PySem.W.specialIn K (.ref pS) "__get__" = some (some (.builtin "property.__get__"))) (tS : PySem.W.takesIn K (.ref pS) = some true) (rS : PySem.W.recIn K pS "property" = some (.ref fS :: rrS))
    (lS : K.lookup fS = some ⟨ocS, odS, .func (PySem.W.fnOf "names" "Forest.names" (defArgs sNames) (defBody sNames) (defScope sNames) .none kVS dcS pmS anS cdS ctS), slS⟩) (cS : PySem.W.codeIn K cdS "Forest.names" = true) (kS : PySem.W.keepIn K (.ref fS) = true)
    {fA : Addr} {odA anA : Option Addr} {slA : Array (Option Value)} {ocA kVA dcA pmA cdA ctA : Value}
    (aA : PySem.W.findIn K (.ref C) "ancestors" = some (some (.ref fA))) (iA : PySem.W.isFn K (.ref fA) = true)
    (lA : K.lookup fA = some ⟨ocA, odA, .func (PySem.W.fnOf "ancestors" "Forest.ancestors" (defArgs sAnc) (defBody sAnc) (defScope sAnc) .none kVA dcA pmA anA cdA ctA), slA⟩) (cA : PySem.W.codeIn K cdA "Forest.ancestors" = true) (kA : PySem.W.keepIn K (.ref fA) = true)
    {fU : Addr} {odU anU : Option Addr} {slU : Array (Option Value)} {ocU kVU dcU pmU cdU ctU : Value}
    (aU : PySem.W.findIn K (.ref C) "subtree" = some (some (.ref fU))) (iU : PySem.W.isFn K (.ref fU) = true)
    (lU : K.lookup fU = some ⟨ocU, odU, .func (PySem.W.fnOf "subtree" "Forest.subtree" (defArgs sSub) (defBody sSub) (defScope sSub) .none kVU dcU pmU anU cdU ctU), slU⟩) (cU : PySem.W.codeIn K cdU "Forest.subtree" = true) (kU : PySem.W.keepIn K (.ref fU) = true)
    {tM : Tok}
    (pg : PySem.W.plainGet K C Str.empty = true)
    (hd : PySem.W.hasDictIn K C = true)
    (po : PySem.W.plainOver K C = true)
    (sa : PySem.W.findIn K (.ref C) "__setattr__" = some (some (.builtin "object.__setattr__")))
    (mk : PySem.W.makesIn K C = true)
    (kc : PySem.W.keepIn K (.ref C) = true)
    (nP : PySem.W.findIn K (.ref C) "_parents" = some none)
    (rd : PySem.W.readsIn K C (.type "type") = true)
    (ga : PySem.W.specialIn K (.ref C) "__getattribute__" = some (some (.builtin "type.__getattribute__")))
    (mo : PySem.W.findCls K (.ref C) (.type "type") "MOST" = some (.val (.int 8 tM)))
    (ha : PySem.W.findIn K (.ref C) "__class__" = some (some (.builtin "object.__class__")))
    (hn : PySem.W.specialIn K (.builtin "object.__class__") "__get__" = some (some (.builtin "getset_descriptor.__get__")))
    (ht : PySem.W.takesIn K (.builtin "object.__class__") = some true)
    (hm : PySem.W.mroIn K C (.type "object") = some true)
    {tk0 : Tok} (kg0 : PySem.W.nsIn K mainGlobals "LETTERS" = some (some (.str letters tk0)))
    {tk1 : Tok} (kg1 : PySem.W.nsIn K mainGlobals "LONGEST" = some (some (.int 8 tk1)))
    {tk2 : Tok} (kg2 : PySem.W.nsIn K mainGlobals "LARGEST" = some (some (.int 1000000000 tk2)))
    {tk3 : Tok} (kg3 : PySem.W.nsIn K mainGlobals "MOST_CLAIMS" = some (some (.int 20 tk3)))
    {tk4 : Tok} (kg4 : PySem.W.nsIn K mainGlobals "MOST_BALANCE" = some (some (.int 1000000000000 tk4)))
    (z0 : PySem.W.nsIn K mainGlobals "isinstance" = some none)
    (z1 : PySem.W.nsIn K mainGlobals "str" = some none)
    (z2 : PySem.W.nsIn K mainGlobals "int" = some none)
    (z3 : PySem.W.nsIn K mainGlobals "bool" = some none)
    (z4 : PySem.W.nsIn K mainGlobals "list" = some none)
    (z5 : PySem.W.nsIn K mainGlobals "tuple" = some none)
    (z6 : PySem.W.nsIn K mainGlobals "dict" = some none)
    (z7 : PySem.W.nsIn K mainGlobals "len" = some none)
    (z8 : PySem.W.nsIn K mainGlobals "all" = some none)
    (z9 : PySem.W.nsIn K mainGlobals "enumerate" = some none)
    (z10 : PySem.W.nsIn K mainGlobals "range" = some none)
    (z11 : PySem.W.nsIn K mainGlobals "min" = some none)
    (z12 : PySem.W.nsIn K mainGlobals "zip" = some none)
    (z13 : PySem.W.nsIn K mainGlobals "repr" = some none)
    (z14 : PySem.W.nsIn K mainGlobals "sum" = some none)
    (z15 : PySem.W.nsIn K mainGlobals "max" = some none)
    : ∃ fd : FuncData, Fun K "law" "law" sLaw fa fd ∧ (∀ (s : Shared) (u : Value), BindsTo s fd ⟨[u], []⟩ [("_law_script", u)]) ∧
      ∀ (base : Heap) (A : Around) (s : Shared) (H : Hp) (cdv : Value) (a : Addr) (ns : List Int), ns.length ≤ 63 → Bed K mg base A → Room 8 (A.deeper (envOfC "law" (defScope sLaw) s.heap.objs.size fa cdv)) → SqL K H a (ns.map V.int) →
        ∃ t, PSs (cxOf CX0 P w K mg base nLaw "law" (defScope sLaw) fa cdv A [] s H E0).nox (defBody sLaw) t ∧ t { nx := fun _ _ => False, rt := fun v _ => v = .bl true } (L2.start nLaw [.ref a]) H := by
  have e := hfa.symm.trans (PySem.W.mg_of X G aq11)
  cases e
  have Fq0 := fun_mk (st := sBegun) lq0 cq0 kq0
  have mq0 := PySem.W.mg_of X G aq0
  have bq0 := Fq0.binds (ps := ["_law_script"]) fun _ _ _ _ _ _ us hl => match us, hl with | [_], _ => rfl
  have Fq1 := fun_mk (st := sMixed) lq1 cq1 kq1
  have mq1 := PySem.W.mg_of X G aq1
  have bq1 := Fq1.binds (ps := ["_law_state"]) fun _ _ _ _ _ _ us hl => match us, hl with | [_], _ => rfl
  have Fq2 := fun_mk (st := sTake) lq2 cq2 kq2
  have mq2 := PySem.W.mg_of X G aq2
  have bq2 := Fq2.binds (ps := ["_law_state", "_law_size"]) fun _ _ _ _ _ _ us hl => match us, hl with | [_, _], _ => rfl
  have Fq3 := fun_mk (st := sPick) lq3 cq3 kq3
  have mq3 := PySem.W.mg_of X G aq3
  have bq3 := Fq3.binds (ps := ["_law_state", "_law_some"]) fun _ _ _ _ _ _ us hl => match us, hl with | [_, _], _ => rfl
  have Fq4 := fun_mk (st := sWords) lq4 cq4 kq4
  have mq4 := PySem.W.mg_of X G aq4
  have bq4 := Fq4.binds (ps := ["_law_state", "_law_size"]) fun _ _ _ _ _ _ us hl => match us, hl with | [_, _], _ => rfl
  have Fq5 := fun_mk (st := sForest) lq5 cq5 kq5
  have mq5 := PySem.W.mg_of X G aq5
  have bq5 := Fq5.binds (ps := ["_law_state", "_law_most"]) fun _ _ _ _ _ _ us hl => match us, hl with | [_, _], _ => rfl
  have Fq6 := fun_mk (st := sInt) lq6 cq6 kq6
  have mq6 := PySem.W.mg_of X G aq6
  have bq6 := Fq6.binds (ps := ["value"]) fun _ _ _ _ _ _ us hl => match us, hl with | [_], _ => rfl
  have Fq7 := fun_mk (st := sName) lq7 cq7 kq7
  have mq7 := PySem.W.mg_of X G aq7
  have bq7 := Fq7.binds (ps := ["value"]) fun _ _ _ _ _ _ us hl => match us, hl with | [_], _ => rfl
  have Fq8 := fun_mk (st := sAmount) lq8 cq8 kq8
  have mq8 := PySem.W.mg_of X G aq8
  have bq8 := Fq8.binds (ps := ["value"]) fun _ _ _ _ _ _ us hl => match us, hl with | [_], _ => rfl
  have Fq9 := fun_mk (st := sRow) lq9 cq9 kq9
  have mq9 := PySem.W.mg_of X G aq9
  have bq9 := Fq9.binds (ps := ["value", "earlier"]) fun _ _ _ _ _ _ us hl => match us, hl with | [_, _], _ => rfl
  have Fq10 := fun_mk (st := sWrong) lq10 cq10 kq10
  have mq10 := PySem.W.mg_of X G aq10
  have bq10 := Fq10.binds (ps := ["rows"]) fun _ _ _ _ _ _ us hl => match us, hl with | [_], _ => rfl
  have Fq11 := fun_mk (st := sLaw) lq11 cq11 kq11
  have mq11 := PySem.W.mg_of X G aq11
  have bq11 := Fq11.binds (ps := ["_law_script"]) fun _ _ _ _ _ _ us hl => match us, hl with | [_], _ => rfl
  have Fq12 := fun_mk (st := sIsClaim) lq12 cq12 kq12
  have mq12 := PySem.W.mg_of X G aq12
  have bq12 := Fq12.binds (ps := ["forest", "value"]) fun _ _ _ _ _ _ us hl => match us, hl with | [_, _], _ => rfl
  have Fq13 := fun_mk (st := sCheckClaims) lq13 cq13 kq13
  have mq13 := PySem.W.mg_of X G aq13
  have bq13 := Fq13.binds (ps := ["forest", "claims"]) fun _ _ _ _ _ _ us hl => match us, hl with | [_, _], _ => rfl
  have Fq14 := fun_mk (st := sCheckBalances) lq14 cq14 kq14
  have mq14 := PySem.W.mg_of X G aq14
  have bq14 := Fq14.binds (ps := ["forest", "balances"]) fun _ _ _ _ _ _ us hl => match us, hl with | [_, _], _ => rfl
  have Fq15 := fun_mk (st := sTotalsOf) lq15 cq15 kq15
  have mq15 := PySem.W.mg_of X G aq15
  have bq15 := Fq15.binds (ps := ["forest", "balances"]) fun _ _ _ _ _ _ us hl => match us, hl with | [_, _], _ => rfl
  have Fq16 := fun_mk (st := sLOrder) lq16 cq16 kq16
  have mq16 := PySem.W.mg_of X G aq16
  have bq16 := Fq16.binds (ps := ["_law_state", "_law_some"]) fun _ _ _ _ _ _ us hl => match us, hl with | [_, _], _ => rfl
  have Fq17 := fun_mk (st := sLClaims) lq17 cq17 kq17
  have mq17 := PySem.W.mg_of X G aq17
  have bq17 := Fq17.binds (ps := ["_law_state", "_law_names", "_law_numbers"]) fun _ _ _ _ _ _ us hl => match us, hl with | [_, _, _], _ => rfl
  have Fq18 := fun_mk (st := sLBalances) lq18 cq18 kq18
  have mq18 := PySem.W.mg_of X G aq18
  have bq18 := Fq18.binds (ps := ["_law_state", "_law_names", "_law_numbers"]) fun _ _ _ _ _ _ us hl => match us, hl with | [_, _, _], _ => rfl
  have Fq19 := fun_mk (st := sGrants) lq19 cq19 kq19
  have mq19 := PySem.W.mg_of X G aq19
  have bq19 := Fq19.binds (ps := ["forest", "claims", "balances"]) fun _ _ _ _ _ _ us hl => match us, hl with | [_, _, _], _ => rfl
  have Fq20 := fun_mk (st := sEntitlements) lq20 cq20 kq20
  have mq20 := PySem.W.mg_of X G aq20
  have bq20 := Fq20.binds (ps := ["forest", "claims", "balances"]) fun _ _ _ _ _ _ us hl => match us, hl with | [_, _, _], _ => rfl
  have Fq21 := fun_mk (st := sTotals) lq21 cq21 kq21
  have mq21 := PySem.W.mg_of X G aq21
  have bq21 := Fq21.binds (ps := ["forest", "balances"]) fun _ _ _ _ _ _ us hl => match us, hl with | [_, _], _ => rfl
  have Fq22 := fun_mk (st := sLSortedRows) lq22 cq22 kq22
  have mq22 := PySem.W.mg_of X G aq22
  have bq22 := Fq22.binds (ps := ["_law_state", "_law_rows"]) fun _ _ _ _ _ _ us hl => match us, hl with | [_, _], _ => rfl
  have Fq23 := fun_mk (st := sLRenamed) lq23 cq23 kq23
  have mq23 := PySem.W.mg_of X G aq23
  have bq23 := Fq23.binds (ps := ["_law_state", "_law_rows", "_law_claims_here", "_law_balances_here"]) fun _ _ _ _ _ _ us hl => match us, hl with | [_, _, _, _], _ => rfl
  have Fq24 := fun_mk (st := sLSplitRight) lq24 cq24 kq24
  have mq24 := PySem.W.mg_of X G aq24
  have bq24 := Fq24.binds (ps := ["_law_state", "_law_forest_here", "_law_claims_here", "_law_balances_here", "_law_amounts"]) fun _ _ _ _ _ _ us hl => match us, hl with | [_, _, _, _, _], _ => rfl
  have Fq25 := fun_mk (st := sLMovedRight) lq25 cq25 kq25
  have mq25 := PySem.W.mg_of X G aq25
  have bq25 := Fq25.binds (ps := ["_law_forest_here", "_law_names", "_law_claims_here", "_law_balances_here", "_law_amounts"]) fun _ _ _ _ _ _ us hl => match us, hl with | [_, _, _, _, _], _ => rfl
  have FI := fun_mk (st := sInit) lI cI kI
  have bI := FI.binds (ps := ["self", "rows"]) fun _ _ _ _ _ _ us hl => match us, hl with | [_, _], _ => rfl
  have FS := fun_mk (st := sNames) lS cS kS
  have bS := FS.binds (ps := ["self"]) fun _ _ _ _ _ _ us hl => match us, hl with | [_], _ => rfl
  have FA := fun_mk (st := sAnc) lA cA kA
  have bA := FA.binds (ps := ["self", "name"]) fun _ _ _ _ _ _ us hl => match us, hl with | [_, _], _ => rfl
  have FU := fun_mk (st := sSub) lU cU kU
  have bU := FU.binds (ps := ["self", "name"]) fun _ _ _ _ _ _ us hl => match us, hl with | [_, _], _ => rfl
  have Z0 : FC K mg C fI (.type "type") := ⟨⟨pg, hd, po, sa⟩, ⟨mk, aI, iI, kc⟩, nP, ⟨rd, ga⟩, ⟨_, mo, ⟨_, rfl⟩⟩, ha, hn, ht, hm, kit_self, PySem.W.mg_of X G aC⟩
  have T : Names mg := ⟨(PySem.W.mg_none_of X G z0), (PySem.W.mg_none_of X G z1), (PySem.W.mg_none_of X G z2), (PySem.W.mg_none_of X G z3), (PySem.W.mg_none_of X G z4), (PySem.W.mg_none_of X G z5), (PySem.W.mg_none_of X G z6), (PySem.W.mg_none_of X G z7), (PySem.W.mg_none_of X G z8), (PySem.W.mg_none_of X G z9), (PySem.W.mg_none_of X G z10), (PySem.W.mg_none_of X G z11), (PySem.W.mg_none_of X G z12), (PySem.W.mg_none_of X G z13), ⟨_, PySem.W.mg_of X G kg0⟩, ⟨_, PySem.W.mg_of X G kg1⟩, ⟨_, PySem.W.mg_of X G kg2⟩⟩
  refine ⟨_, Fq11, fun s v => .of_eq rfl, fun base A s H cdv a ns hl B hr hS => ?_⟩
  have GM : FnOk P w K mg base CX0 1 _ _ ["_law_state"] (spMixed ns) := ok_mixed ns Fq1
  have GT : FnOk P w K mg base CX0 2 _ _ ["_law_state", "_law_size"] (spTake ns) := ok_take ns Fq2 GM bq1 kq1 mq1
  have GP : FnOk P w K mg base CX0 3 _ _ ["_law_state", "_law_some"] (spPick K ns) := ok_pick ns Fq3 GT bq2 kq2 mq2 T.len
  have R : Draw P w K mg base ns fq2 fq3 _ _ := ⟨GT, bq2, kq2, mq2, GP, bq3, kq3, mq3, T.len, T.range⟩
  have GW := ok_words (P := P) (w := w) (base := base) ns Fq4 R
  have GF := ok_forest (P := P) (w := w) (base := base) ns Fq5 R GW bq4 kq4 mq4
  have GN : FnOk P w K mg base CX0 1 _ _ ["value"] spName := ok_name Fq7 T
  have GO := ok_row (P := P) (w := w) (base := base) Fq9 T GN bq7 kq7 mq7
  have GX := ok_wrong (P := P) (w := w) (base := base) Fq10 T GO bq9 kq9 mq9
  have GI := ok_init (P := P) (w := w) (base := base) FI T Z0 GX bq10 kq10 mq10
  have GS := ok_names (P := P) (w := w) (base := base) FS T Z0
  have hS' : PropOf K C "names" pS fS := ⟨aS, gS, tS, ⟨_, rS⟩⟩
  have GA := ok_anc (P := P) (w := w) (base := base) FA T Z0 hS' GS bS
  have Z : Fo P w K mg base C fI pS fS fA (.type "type") _ _ := ⟨Z0, hS', GS, bS, ⟨aA, iA, kA⟩, GA, bA⟩
  have GJ := ok_int (P := P) (w := w) (base := base) Fq6 T
  have GQ := ok_amount (P := P) (w := w) (base := base) Fq8 T GJ bq6 kq6 mq6
  have GC := ok_isClaim (P := P) (w := w) (base := base) Fq12 T Z GJ bq6 kq6 mq6 GQ bq8 kq8 mq8
  have GCC := ok_ckClaims (P := P) (w := w) (base := base) Fq13 T ⟨_, PySem.W.mg_of X G kg3⟩ GC bq12 kq12 mq12
  have GCB := ok_ckBal (P := P) (w := w) (base := base) Fq14 T Z ⟨_, PySem.W.mg_of X G kg4⟩ GJ bq6 kq6 mq6
  have GTO := ok_totOf (P := P) (w := w) (base := base) Fq15 Z
  have GOr := ok_order (P := P) (w := w) (base := base) ns Fq16 T R
  have GOR := ok_orderR (P := P) (w := w) (base := base) ns Fq16 T R
  have GCl := ok_claims (P := P) (w := w) (base := base) ns Fq17 T R
  have GBa := ok_balances (P := P) (w := w) (base := base) ns Fq18 T R GOr bq16 kq16 mq16
  have GG := ok_grants (P := P) (w := w) (base := base) Fq19 T Z GTO bq15 kq15 mq15
  have GEn := ok_ent (P := P) (w := w) (base := base) Fq20 GCC bq13 kq13 mq13 GCB bq14 kq14 mq14 GG bq19 kq19 mq19
  have GTt := ok_totals (P := P) (w := w) (base := base) Fq21 GCB bq14 kq14 mq14 GTO bq15 kq15 mq15
  have GSb := ok_sub (P := P) (w := w) (base := base) FU T Z
  have GSo := ok_sorted (P := P) (w := w) (base := base) ns Fq22 T GOR bq16 kq16 mq16
  have GRn := ok_renamed (P := P) (w := w) (base := base) ns Fq23 T GW bq4 kq4 mq4
  have GSp := ok_split (P := P) (w := w) (base := base) (C := C) ns Fq24 T (PySem.W.mg_none_of X G z15) R GEn bq20 kq20 mq20
  have GMv := ok_moved (P := P) (w := w) (base := base) Fq25 T Z GSb bU ⟨aU, iU, kU⟩ GEn bq20 kq20 mq20
  exact ok_law hl B hr hS R T (PySem.W.mg_none_of X G z14) Z0 GI bI (ok_begun ns Fq0 T.list) bq0 kq0 mq0 GF bq5 kq5 mq5 GCl bq17 kq17 mq17 GBa bq18 kq18 mq18 GEn bq20 kq20 mq20 GSo bq22 kq22 mq22 GRn bq23 kq23 mq23 GSp bq24 kq24 mq24 GMv bq25 kq25 mq25 GTt bq21 kq21 mq21
end Lw
open PySem PySem.W PyProof.Rows
set_option maxRecDepth 100000 in
set_option maxHeartbeats 0 in
theorem PySem.Challenge.cw_hearpurse_k10_whole_rank_alone_decides_holds : PySem.Challenge.rw_hearpurse_k10_whole_rank_alone_decides.Holds := by
  w_on; o_law; k_head; (case hw => w_witness2)
  k_fill
  refine Ge.walk_law (l := PySem.Challenge.rw_hearpurse_k10_whole_rank_alone_decides) (n := 63) (k := 8) (x := "_law_script") (st := Lw.sLaw) (N := Lw.nLaw) rfl (by decide) rfl ⟨rfl, by decide, by decide⟩ (by decide +kernel) Lw.scLaw (fun w h Y => PySem.W.kIn_of Y) ?F
  case F =>
    intro w mg fa h KX G hmg
    refine' Lw.all_mk KX G hmg ?aq0 ?lq0 ?cq0 ?kq0 ?aq1 ?lq1 ?cq1 ?kq1 ?aq2 ?lq2 ?cq2 ?kq2 ?aq3 ?lq3 ?cq3 ?kq3 ?aq4 ?lq4 ?cq4 ?kq4 ?aq5 ?lq5 ?cq5 ?kq5 ?aq6 ?lq6 ?cq6 ?kq6 ?aq7 ?lq7 ?cq7 ?kq7 ?aq8 ?lq8 ?cq8 ?kq8 ?aq9 ?lq9 ?cq9 ?kq9 ?aq10 ?lq10 ?cq10 ?kq10 ?aq11 ?lq11 ?cq11 ?kq11 ?aq12 ?lq12 ?cq12 ?kq12 ?aq13 ?lq13 ?cq13 ?kq13 ?aq14 ?lq14 ?cq14 ?kq14 ?aq15 ?lq15 ?cq15 ?kq15 ?aq16 ?lq16 ?cq16 ?kq16 ?aq17 ?lq17 ?cq17 ?kq17 ?aq18 ?lq18 ?cq18 ?kq18 ?aq19 ?lq19 ?cq19 ?kq19 ?aq20 ?lq20 ?cq20 ?kq20 ?aq21 ?lq21 ?cq21 ?kq21 ?aq22 ?lq22 ?cq22 ?kq22 ?aq23 ?lq23 ?cq23 ?kq23 ?aq24 ?lq24 ?cq24 ?kq24 ?aq25 ?lq25 ?cq25 ?kq25 ?aC ?aI ?iI ?lI ?cI ?kI ?aS ?gS ?tS ?rS ?lS ?cS ?kS ?aA ?iA ?lA ?cA ?kA ?aU ?iU ?lU ?cU ?kU ?pg ?hd ?po ?sa ?mk ?kc ?nP ?rd ?ga ?mo ?ha ?hn ?ht ?hm ?kg0 ?kg1 ?kg2 ?kg3 ?kg4 ?z0 ?z1 ?z2 ?z3 ?z4 ?z5 ?z6 ?z7 ?z8 ?z9 ?z10 ?z11 ?z12 ?z13 ?z14 ?z15
    (case aq0 => k_is)
    (case lq0 => k_is)
    (case cq0 => k_is)
    (case kq0 => k_is)
    (case aq1 => k_is)
    (case lq1 => k_is)
    (case cq1 => k_is)
    (case kq1 => k_is)
    (case aq2 => k_is)
    (case lq2 => k_is)
    (case cq2 => k_is)
    (case kq2 => k_is)
    (case aq3 => k_is)
    (case lq3 => k_is)
    (case cq3 => k_is)
    (case kq3 => k_is)
    (case aq4 => k_is)
    (case lq4 => k_is)
    (case cq4 => k_is)
    (case kq4 => k_is)
    (case aq5 => k_is)
    (case lq5 => k_is)
    (case cq5 => k_is)
    (case kq5 => k_is)
    (case aq6 => k_is)
    (case lq6 => k_is)
    (case cq6 => k_is)
    (case kq6 => k_is)
    (case aq7 => k_is)
    (case lq7 => k_is)
    (case cq7 => k_is)
    (case kq7 => k_is)
    (case aq8 => k_is)
    (case lq8 => k_is)
    (case cq8 => k_is)
    (case kq8 => k_is)
    (case aq9 => k_is)
    (case lq9 => k_is)
    (case cq9 => k_is)
    (case kq9 => k_is)
    (case aq10 => k_is)
    (case lq10 => k_is)
    (case cq10 => k_is)
    (case kq10 => k_is)
    (case aq11 => k_is)
    (case lq11 => k_is)
    (case cq11 => k_is)
    (case kq11 => k_is)
    (case aq12 => k_is)
    (case lq12 => k_is)
    (case cq12 => k_is)
    (case kq12 => k_is)
    (case aq13 => k_is)
    (case lq13 => k_is)
    (case cq13 => k_is)
    (case kq13 => k_is)
    (case aq14 => k_is)
    (case lq14 => k_is)
    (case cq14 => k_is)
    (case kq14 => k_is)
    (case aq15 => k_is)
    (case lq15 => k_is)
    (case cq15 => k_is)
    (case kq15 => k_is)
    (case aq16 => k_is)
    (case lq16 => k_is)
    (case cq16 => k_is)
    (case kq16 => k_is)
    (case aq17 => k_is)
    (case lq17 => k_is)
    (case cq17 => k_is)
    (case kq17 => k_is)
    (case aq18 => k_is)
    (case lq18 => k_is)
    (case cq18 => k_is)
    (case kq18 => k_is)
    (case aq19 => k_is)
    (case lq19 => k_is)
    (case cq19 => k_is)
    (case kq19 => k_is)
    (case aq20 => k_is)
    (case lq20 => k_is)
    (case cq20 => k_is)
    (case kq20 => k_is)
    (case aq21 => k_is)
    (case lq21 => k_is)
    (case cq21 => k_is)
    (case kq21 => k_is)
    (case aq22 => k_is)
    (case lq22 => k_is)
    (case cq22 => k_is)
    (case kq22 => k_is)
    (case aq23 => k_is)
    (case lq23 => k_is)
    (case cq23 => k_is)
    (case kq23 => k_is)
    (case aq24 => k_is)
    (case lq24 => k_is)
    (case cq24 => k_is)
    (case kq24 => k_is)
    (case aq25 => k_is)
    (case lq25 => k_is)
    (case cq25 => k_is)
    (case kq25 => k_is)
    (case aC => k_is)
    (case aI => k_is)
    (case iI => k_is)
    (case lI => k_is)
    (case cI => k_is)
    (case kI => k_is)
    (case aS => k_is)
    (case gS => k_is)
    (case tS => k_is)
    (case rS => k_is)
    (case lS => k_is)
    (case cS => k_is)
    (case kS => k_is)
    (case aA => k_is)
    (case iA => k_is)
    (case lA => k_is)
    (case cA => k_is)
    (case kA => k_is)
    (case aU => k_is)
    (case iU => k_is)
    (case lU => k_is)
    (case cU => k_is)
    (case kU => k_is)
    (case pg => k_is)
    (case hd => k_is)
    (case po => k_is)
    (case sa => k_is)
    (case mk => k_is)
    (case kc => k_is)
    (case nP => k_is)
    (case rd => k_is)
    (case ga => k_is)
    (case mo => k_is)
    (case ha => k_is)
    (case hn => k_is)
    (case ht => k_is)
    (case hm => k_is)
    (case kg0 => k_is)
    (case kg1 => k_is)
    (case kg2 => k_is)
    (case kg3 => k_is)
    (case kg4 => k_is)
    (case z0 => k_is)
    (case z1 => k_is)
    (case z2 => k_is)
    (case z3 => k_is)
    (case z4 => k_is)
    (case z5 => k_is)
    (case z6 => k_is)
    (case z7 => k_is)
    (case z8 => k_is)
    (case z9 => k_is)
    (case z10 => k_is)
    (case z11 => k_is)
    (case z12 => k_is)
    (case z13 => k_is)
    (case z14 => k_is)
    (case z15 => k_is)

import PyProof.Rows.All
import Wide.All
import OpenK.AllK
import Wide.FinOn
import HandS.Base
import HandS.Call
import HandS.List
import HandS.Comp
import HandS.Ends
import HandS.Dict
import HandS.Iter
import HandS.Words
import PyProof.ReprRoads
import HandS.ForMost
import HandS.IsInst
import HandS.Walk
import PyProof.ReprLen
import PyProof.StrLawsRepr
import PySem.Challenge.RW_hearpurse_k63_names_and_amounts
set_option Elab.async false
set_option linter.all false
set_option maxRecDepth 100000
set_option maxHeartbeats 4000000
namespace Gn
open PySem PySem.Spec PyProof.Rows L2

/-! ## heaps -/
theorem new_same {H : Hp} {p : Addr} {o : HO} (h : H p = none) : ∀ b u, H b = some u → upd H p o b = some u := by
  intro b u e
  rw [upd_ne (ne_of_none e h)]
  exact e
/-- the heap less two objects: those of the draws -/
def Rs (d g : Addr) (H : Hp) : Hp := fun a => if a = d ∨ a = g then none else H a
section
variable {d g a p : Addr} {H H' H2 : Hp} {o u : HO}
theorem rs_of (h : Rs d g H a = some o) : H a = some o ∧ a ≠ d ∧ a ≠ g := by
  unfold Rs at h
  by_cases c : a = d ∨ a = g
  · rw [if_pos c] at h; cases h
  · rw [if_neg c] at h
    exact ⟨h, fun e => c (.inl e), fun e => c (.inr e)⟩
theorem rs_to (h : H a = some o) (h1 : a ≠ d) (h2 : a ≠ g) : Rs d g H a = some o := by
  unfold Rs
  rw [if_neg (fun c => c.elim h1 h2)]
  exact h
/-- all that is no draw's stands -/
def Kp (d g : Addr) (H H' : Hp) : Prop := ∀ a o, a ≠ d → a ≠ g → H a = some o → H' a = some o
theorem Kp.refl : Kp d g H H := fun _ _ _ _ e => e
theorem Kp.trans (h : Kp d g H H') (k : Kp d g H' H2) : Kp d g H H2 := fun a o n1 n2 e => k a o n1 n2 (h a o n1 n2 e)
theorem Kp.new (hp : H p = none) : Kp d g H (upd H p o) := fun a u _ _ e => new_same hp a u e
theorem Kp.of (h : ∀ a o, H a = some o → H' a = some o) : Kp d g H H' := fun a o _ _ e => h a o e
theorem Kp.at_d : Kp d g H (upd H d o) := fun a u n1 _ e => by rw [upd_ne n1]; exact e
theorem Kp.at_g : Kp d g H (upd H g o) := fun a u _ n2 e => by rw [upd_ne n2]; exact e
end

/-! ## the draws' state -/
def kG : Key := Sum.inr ("great" : Str)
def kC : Key := Sum.inr ("cells" : Str)
def kL : Key := Sum.inr ("left" : Str)
def kT : Key := Sum.inr ("turn" : Str)
def dk (g c : Addr) (l t : Int) : List (Key × V) := [(kG, .ref g), (kC, .ref c), (kL, .int l), (kT, .int t)]
section
variable {g c : Addr} {l t z : Int} {H : Hp} {d : Addr}
theorem nGC : ¬ kG = kC := by decide +kernel
theorem nGL : ¬ kG = kL := by decide +kernel
theorem nGT : ¬ kG = kT := by decide +kernel
theorem nCL : ¬ kC = kL := by decide +kernel
theorem nCT : ¬ kC = kT := by decide +kernel
theorem nLT : ¬ kL = kT := by decide +kernel
theorem dk_g : valV (dk g c l t) kG = some (.ref g) := valV_pos rfl
theorem dk_c : valV (dk g c l t) kC = some (.ref c) := (valV_neg nGC).trans (valV_pos rfl)
theorem dk_l : valV (dk g c l t) kL = some (.int l) := (valV_neg nGL).trans ((valV_neg nCL).trans (valV_pos rfl))
theorem dk_t : valV (dk g c l t) kT = some (.int t) := (valV_neg nGT).trans ((valV_neg nCT).trans ((valV_neg nLT).trans (valV_pos rfl)))
theorem get_g (h : H d = some (.dK (dk g c l t))) : DGet H d (.str "great") (some (.ref g)) := by
  rw [← dk_g (g := g) (c := c) (l := l) (t := t)]
  exact DGet.k (k := kG) h
theorem get_c (h : H d = some (.dK (dk g c l t))) : DGet H d (.str "cells") (some (.ref c)) := by
  rw [← dk_c (g := g) (c := c) (l := l) (t := t)]
  exact DGet.k (k := kC) h
theorem get_l (h : H d = some (.dK (dk g c l t))) : DGet H d (.str "left") (some (.int l)) := by
  rw [← dk_l (g := g) (c := c) (l := l) (t := t)]
  exact DGet.k (k := kL) h
theorem get_t (h : H d = some (.dK (dk g c l t))) : DGet H d (.str "turn") (some (.int t)) := by
  rw [← dk_t (g := g) (c := c) (l := l) (t := t)]
  exact DGet.k (k := kT) h
theorem put_dk_l : putK (dk g c l t) kL (.int z) = dk g c z t := by
  unfold putK dk
  simp [nGL, nCL, Ne.symm nLT, (show ¬ kT = kL from fun e => nLT e.symm)]
theorem put_dk_t : putK (dk g c l t) kT (.int z) = dk g c l z := by
  unfold putK dk
  simp [nGT, nCT, nLT]
theorem put_l (h : H d = some (.dK (dk g c l t))) : DPut H d (.str "left") (.int z) (upd H d (.dK (dk g c z t))) := by
  rw [← put_dk_l (l := l)]
  exact DPut.k (k := kL) h (by show 4 < sizeLine; decide)
theorem put_t (h : H d = some (.dK (dk g c l t))) : DPut H d (.str "turn") (.int z) (upd H d (.dK (dk g c l z))) := by
  rw [← put_dk_t (t := t)]
  exact DPut.k (k := kT) h (by show 4 < sizeLine; decide)
theorem merge_dk : mergeK [] (dk g c l t) = dk g c l t := by
  have e1 : putK [] kG (.ref g) = [(kG, V.ref g)] := rfl
  have e2 : putK [(kG, V.ref g)] kC (.ref c) = [(kG, V.ref g), (kC, V.ref c)] := by unfold putK; simp [nGC]
  have e3 : putK [(kG, V.ref g), (kC, V.ref c)] kL (.int l) = [(kG, V.ref g), (kC, V.ref c), (kL, V.int l)] := by unfold putK; simp [nGL, nCL]
  have e4 : putK [(kG, V.ref g), (kC, V.ref c), (kL, V.int l)] kT (.int t) = [(kG, V.ref g), (kC, V.ref c), (kL, V.int l), (kT, V.int t)] := by unfold putK; simp [nGT, nCT, nLT]
  unfold mergeK dk
  simp only [List.foldl_cons, List.foldl_nil, e1, e2, e3, e4]
end
/-- the draws' dict at d, its lists at g and c; at most b turns were mixed -/
structure Dw (ns : List Int) (d g c : Addr) (b : Nat) (H : Hp) : Prop where
  st : ∃ (gs : List Int) (l t : Int), H d = some (.dK (dk g c l t)) ∧ H g = some (.lst (gs.map V.int)) ∧ 0 ≤ t ∧ t ≤ b
  cl : H c = some (.lst (ns.map V.int))
  ncd : c ≠ d
  ncg : c ≠ g
section
variable {ns : List Int} {d g c p : Addr} {b b' : Nat} {H H' : Hp} {o : HO}
theorem Dw.mono (h : Dw ns d g c b H) (k : b ≤ b') : Dw ns d g c b' H := by
  obtain ⟨⟨gs, l, t, h1, h2, h3, h4⟩, h5, h6, h7⟩ := h
  exact ⟨⟨gs, l, t, h1, h2, h3, by omega⟩, h5, h6, h7⟩
/-- what is new leaves them -/
theorem Dw.keep (h : Dw ns d g c b H) (k : ∀ a o, H a = some o → H' a = some o) : Dw ns d g c b H' := by
  obtain ⟨⟨gs, l, t, h1, h2, h3, h4⟩, h5, h6, h7⟩ := h
  exact ⟨⟨gs, l, t, k _ _ h1, k _ _ h2, h3, h4⟩, k _ _ h5, h6, h7⟩
theorem Dw.new (h : Dw ns d g c b H) (hp : H p = none) : Dw ns d g c b (upd H p o) := h.keep fun a u e => new_same hp a u e
theorem Dw.nd (h : Dw ns d g c b H) (hp : H p = none) : p ≠ d := by
  obtain ⟨⟨gs, l, t, h1, h2, h3, h4⟩, h5, h6, h7⟩ := h
  exact fun e => ne_of_none h1 hp e.symm
theorem Dw.ng (h : Dw ns d g c b H) (hp : H p = none) : p ≠ g := by
  obtain ⟨⟨gs, l, t, h1, h2, h3, h4⟩, h5, h6, h7⟩ := h
  exact fun e => ne_of_none h2 hp e.symm
theorem Dw.some (h : Dw ns d g c b H) : (∃ o, H d = some o) ∧ ∃ o, H g = some o := by
  obtain ⟨⟨gs, l, t, h1, h2, h3, h4⟩, h5, h6, h7⟩ := h
  exact ⟨⟨_, h1⟩, ⟨_, h2⟩⟩
/-- what is new behind a draw was new ahead of it -/
theorem Dw.free (h : Dw ns d g c b H) (h' : Dw ns d g c b' H') (k : Kp d g H H') (hp : H' p = none) : H p = none := by
  cases e : H p with
  | none => rfl
  | some u =>
    have q := k p u (h'.nd hp) (h'.ng hp) e
    rw [hp] at q
    cases q
theorem Dw.put (h : Dw ns d g c b H) (hp : H p = Option.some u) (n1 : p ≠ d) (n2 : p ≠ g) (n3 : p ≠ c) : Dw ns d g c b (upd H p o) := by
  obtain ⟨⟨gs, l, t, h1, h2, h3, h4⟩, h5, h6, h7⟩ := h
  exact ⟨⟨gs, l, t, by rw [upd_ne n1.symm]; exact h1, by rw [upd_ne n2.symm]; exact h2, h3, h4⟩, by rw [upd_ne n3.symm]; exact h5, h6, h7⟩
end
/-! ## small words of arithmetic -/
theorem fmod_lo {a b : Int} (h : 0 < b) : 0 ≤ a.fmod b := by rw [Int.fmod_eq_emod_of_nonneg a (by omega)]; exact Int.emod_nonneg a (by omega)
theorem fmod_hi {a b : Int} (h : 0 < b) : a.fmod b < b := by rw [Int.fmod_eq_emod_of_nonneg a (by omega)]; exact Int.emod_lt_of_pos a h
theorem at_int {xs : List V} {r : Int} (h0 : 0 ≤ r) (h1 : r < (xs.length : Int)) : ∃ v, atI xs r = some v ∧ v ∈ xs := by
  have k : r.toNat < xs.length := by omega
  have e : r = ((r.toNat : Nat) : Int) := by omega
  have q : atI xs ((r.toNat : Nat) : Int) = some xs[r.toNat] := atI_nat (List.getElem?_eq_getElem k)
  rw [← e] at q
  exact ⟨_, q, List.getElem_mem k⟩
/-! ## lists of flat data, by == -/
section
variable {K : PySem.W.Frag} {H : Hp}
theorem dp_ints : ∀ ns : List Int, DpAll K H (ns.map V.int) (ns.map PyData.int)
  | [] => .nil
  | n :: r => .cons (.int n) (dp_ints r)
theorem dp_bools : ∀ ns : List Bool, DpAll K H (ns.map V.bl) (ns.map PyData.bool)
  | [] => .nil
  | n :: r => .cons (.bl n) (dp_bools r)
theorem dp_strs : ∀ ns : List Str, DpAll K H (ns.map V.str) (ns.map PyData.str)
  | [] => .nil
  | n :: r => .cons (.str n) (dp_strs r)
/-- no list, tuple or dict -/
def flatD : PyData → Bool
  | .none => true
  | .bool _ => true
  | .int _ => true
  | .str x => PyData.strOk x
  | _ => false
theorem lay_flat {x : PyData} (h : flatD x = true) : x.canLay0 = true ∧ x.depth ≤ 1 := by
  cases x with
  | none => constructor <;> simp [PyData.canLay0, PyData.depth]
  | bool _ => constructor <;> simp [PyData.canLay0, PyData.depth]
  | int _ => constructor <;> simp [PyData.canLay0, PyData.depth]
  | str x =>
    have h' : PyData.strOk x = true := h
    constructor <;> simp [PyData.canLay0, PyData.depth, h']
  | list _ => cases h
  | tuple _ => cases h
  | dict _ => cases h
theorem lay_flats : ∀ {ds : List PyData}, (∀ x ∈ ds, flatD x = true) → PyData.canLayAll0 ds = true ∧ PyData.depthAll ds ≤ 1
  | [], _ => by constructor <;> simp [PyData.canLayAll0, PyData.depthAll]
  | x :: r, h => by
    obtain ⟨a1, a2⟩ := lay_flat (h x (List.mem_cons_self ..))
    obtain ⟨b1, b2⟩ := lay_flats (ds := r) fun y hy => h y (List.mem_cons_of_mem _ hy)
    constructor
    · simp [PyData.canLayAll0, a1, b1]
    · simp only [PyData.depthAll]
      omega
theorem shaped_flats {ds : List PyData} (h : ∀ x ∈ ds, flatD x = true) : SeqAt.shaped (.list ds) = true := by
  obtain ⟨b1, b2⟩ := lay_flats h
  have e : PyData.depth (.list ds) = PyData.depthAll ds + 1 := by simp only [PyData.depth]
  unfold SeqAt.shaped
  rw [e]
  simp only [PyData.canLay0, b1, Bool.true_and, decide_eq_true_eq]
  omega
theorem shaped_ints (ns : List Int) : SeqAt.shaped (.list (ns.map PyData.int)) = true := shaped_flats fun x hx => by
  obtain ⟨n, _, rfl⟩ := List.mem_map.mp hx
  rfl
theorem shaped_bools (ns : List Bool) : SeqAt.shaped (.list (ns.map PyData.bool)) = true := shaped_flats fun x hx => by
  obtain ⟨n, _, rfl⟩ := List.mem_map.mp hx
  rfl
theorem shaped_strs {ns : List Str} (h : ∀ x ∈ ns, PyData.strOk x = true) : SeqAt.shaped (.list (ns.map PyData.str)) = true := shaped_flats fun x hx => by
  obtain ⟨n, hn, rfl⟩ := List.mem_map.mp hx
  exact h n hn
theorem shaped_nil : SeqAt.shaped (.list []) = true := shaped_flats fun x hx => by cases hx
theorem eqv_nil {ds : List PyData} : PyData.eqv (.list ds) (.list []) = ds.isEmpty := by
  cases ds <;> simp [PyData.eqv, PyData.eqvAll]
theorem eqv_bools : ∀ xs ys : List Bool, PyData.eqvAll (xs.map PyData.bool) (ys.map PyData.bool) = decide (xs = ys)
  | [], [] => by simp [PyData.eqvAll]
  | [], _ :: _ => by simp [PyData.eqvAll]
  | _ :: _, [] => by simp [PyData.eqvAll]
  | x :: xs, y :: ys => by
    simp only [List.map_cons, PyData.eqvAll, PyData.eqv, eqv_bools xs ys]
    by_cases h : x = y <;> by_cases k : xs = ys <;> simp [h, k]
end
end Gn

set_option Elab.async false
set_option linter.all false
set_option maxRecDepth 100000
set_option maxHeartbeats 4000000
/-! a law's own body, run by the caller that the row names: what is around it is known there -/
namespace Ge
open PySem PySem.Spec PyProof.Rows L2 Gn
/-- what is known where a law's own body runs -/
structure Bed (K : PySem.W.Frag) (mg : Str → Option Value) (base : Heap) (A : Around) : Prop where
  kin : K.In base
  glob : base.Ns mainGlobals mg
  sys : ∃ o, base.get? sysModules = some o
  gd : A.guards = some []
section
variable {P : Program} {w : World} {K : PySem.W.Frag} {mg : Str → Option Value} {base : Heap}
/-- one call of a def of the text, by its body, at one place -/
theorem call_here {x qual : Str} {st : Stmt} {f : Addr} {fd : FuncData} {N ps : List Str} {k : Nat} {A : Around} {outer : List Env} {s : Shared} {H : Hp} {vs : List V} {us : List Value} {Q : VK}
    (F : Fun K x qual st f fd) (S : FnScope N ps (defScope st)) (hr : Room (k + 1) A) (e0 : Env0 P w K mg base A outer s H) (hb : BindsTo s fd ⟨us, []⟩ (ps.zip us)) (hl : vs.length = ps.length) (r : Vals vs us)
    (body : ∀ cdv : Value, Room k (A.deeper (envOfC qual (defScope st) s.heap.objs.size f cdv)) →
      ∃ t, PSs (cxOf CX0 P w K mg base N qual (defScope st) f cdv A outer s H E0).nox (defBody st) t ∧ t { nx := fun _ H' => Q .non H', rt := Q } (start N vs) H) :
    codeAny (model P w) A (.call (.ref f) ⟨us, []⟩) (CR CX0 outer P w H s Q E0) s := by
  obtain ⟨oc, od, kV, doc, pm, an, cdv, ct, osl, rfl, lk, hcd⟩ := F.ex
  have old : ∀ b o, base.get? b = some o → s.heap.get? b = some o := fun b o e => (e0.bs b o e).1
  have KX : K.In s.heap := e0.mod.kin.keeps old
  obtain ⟨t, ht, hq⟩ := body cdv (hr.deeper _)
  refine codeAny_call_function hr.depth (KX _ _ lk) rfl S.co S.gen rfl (PySem.W.codeRec_of KX hcd) (hb _ _ _ _ ?_)
  refine wpAny_newFunctionEnv_cells S.kind (fun ⟨n, v⟩ hy => ?_) (fun env he s1 z => ?_)
  · cases S.par n (List.of_mem_zip hy).1 with
    | inl q => exact .inl q
    | inr q => exact .inr ⟨q, PySem.W.cellsFrom_some _ _ _ (.inl q)⟩
  · subst he
    refine ⟨(e0.mod.nolimit.keeps old).keeps z.toInCall.keep, codeAny_func ?_⟩
    have I : Inv (cxOf CX0 P w K mg base N qual (defScope st) f cdv A outer s H E0) [] (start N vs) H s1 := inv_start S hr.hd e0 hl r z
    refine wpAny_mono (ht.nox.run [] s1 (start N vs) H _ I hq) (fun fl s' hs => ?_) (fun e s' hs => hs)
    match fl, hs with
    | .ret u, ⟨v, σ', H', J, rv, q⟩ => exact ⟨v, H', J.os, J.bare, J.base, J.hok, rv, q⟩
    | .next, ⟨σ', H', J, q⟩ => exact ⟨.non, H', J.os, J.bare, J.base, J.hok, rfl, q⟩
    | .brk, ⟨_, _, _, q⟩ => exact q.elim
    | .cont, ⟨_, _, _, q⟩ => exact q.elim
end
/-- nothing is tracked, or the script's list alone, as a thing that is only read -/
def Hs (a : Addr) (o : Obj) (xs : List V) : Hp := fun b => if b = a then some (.frz o (.lst xs)) else none
theorem hs_at {a : Addr} {o : Obj} {xs : List V} : Hs a o xs a = some (.frz o (.lst xs)) := if_pos rfl
theorem hs_no {a b : Addr} {o : Obj} {xs : List V} (h : b ≠ a) : Hs a o xs b = none := if_neg h
def H0 : Hp := fun _ => none
section
variable {P : Program} {w : World} {K : PySem.W.Frag} {mg mb : Str → Option Value} {s₁ : Shared} {a : Addr} {vs : List Value} {ns : List Int} {st : Stmt} {N : List Str} {x : Str} {k : Nat} {fa : Addr} {fd : FuncData}
/-- the state that the row's call begins with -/
theorem env_of {H : Hp} (KX : K.In s₁.heap) (hns : s₁.heap.Ns mainGlobals mg) (hb : s₁.heap.Ns builtinsNs mb) (hbb : ∀ x : Str, x ≠ "__name__" → mb x = bootBuiltins x) (hlim : s₁.heap.NoLimit) (hsee : ∃ mm, s₁.heap.Ns sysModules mm) (hg : s₁.gens = #[])
    (ha : s₁.heap.get? a = some { cls := .type "list", data := .seq vs.toArray }) (only : ∀ b, H b ≠ none → b = a) (hka : H a ≠ none → K.lookup a = none) (hok : HOk P w H s₁.heap) :
    Env0 P w K mg (hidT s₁.heap H) callerA [] s₁ H ∧ Bed K mg (hidT s₁.heap H) callerA := by
  have free : ∀ {b : Addr}, b ≠ a → H b = none := fun {b} n => by
    cases e : H b with
    | none => rfl
    | some u => exact absurd (only b (by rw [e]; simp)) n
  have keepNs : ∀ {b : Addr} {m : Str → Option Value}, s₁.heap.Ns b m → (hidT s₁.heap H).Ns b m := fun {b m} h => by
    obtain ⟨o, es, ep, e, dd, r⟩ := h
    refine ⟨o, es, ep, hidT_get e (free fun z => ?_), dd, r⟩
    subst z
    rw [ha] at e
    cases e
    cases dd
  have kIn : K.In (hidT s₁.heap H) := fun b o e => hidT_get (KX b o e) (by
    cases q : H b with
    | none => rfl
    | some u =>
      have z := only b (by rw [q]; simp)
      subst z
      rw [hka (by rw [q]; simp)] at e
      cases e)
  obtain ⟨mc, c1, c2⟩ := hlim
  obtain ⟨mm, o, es, ep, e1, e2, e3⟩ := hsee
  have sysf : H sysModules = none := free fun z => by
    subst z
    rw [ha] at e1
    cases e1
    cases e2
  refine ⟨⟨rfl, ⟨kIn, keepNs hns, ⟨mb, keepNs hb, hbb⟩, ⟨mc, keepNs c1, c2⟩⟩, fun b o e => of_hidT e, Nat.le_of_eq (hidT_size _ _), trivial, fun b z => absurd (show b ∈ ([] : List Addr) from z) (by simp), hok, .of_eq hg⟩, kIn, keepNs hns, ⟨o, hidT_get e1 sysf⟩, rfl⟩
/-- the law's call gives True, if its body does wherever it may run -/
theorem law_true (KX : K.In s₁.heap) (hns : s₁.heap.Ns mainGlobals mg) (hb : s₁.heap.Ns builtinsNs mb) (hbb : ∀ x : Str, x ≠ "__name__" → mb x = bootBuiltins x) (hlim : s₁.heap.NoLimit) (hsee : ∃ mm, s₁.heap.Ns sysModules mm) (hg : s₁.gens = #[])
    (ha : s₁.heap.get? a = some { cls := .type "list", data := .seq vs.toArray }) (hi : IntsAre vs ns) (hl : ns.length ≤ sizeLine) (hr : Room (k + 1) callerA)
    (F : Fun K "law" "law" st fa fd) (S : FnScope N [x] (defScope st)) (hbind : ∀ (s : Shared) (u : Value), BindsTo s fd ⟨[u], []⟩ [(x, u)])
    (body : ∀ (base : Heap) (A : Around) (s : Shared) (H : Hp) (cdv : Value), Bed K mg base A → Room k (A.deeper (envOfC "law" (defScope st) s.heap.objs.size fa cdv)) → SqL K H a (ns.map V.int) →
      ∃ t, PSs (cxOf CX0 P w K mg base N "law" (defScope st) fa cdv A [] s H E0).nox (defBody st) t ∧ t { nx := fun _ _ => False, rt := fun v _ => v = .bl true } (start N [.ref a]) H) :
    codeAny (model P w) callerA (.call (.ref fa) ⟨[.ref a], []⟩) (fun r s' => r = .ok (.ret (.bool true)) ∧ OldK s₁.heap s'.heap ∧ s'.os = s₁.os ∧ AllBare s'.gens) s₁ := by
  have rv := vals_ints hi
  have lenV := hi.length
  have go : ∀ H : Hp, (∀ b, H b = none ∨ ∃ o xs, H b = some (.frz o (.lst xs))) → SqL K H a (ns.map V.int) → Env0 P w K mg (hidT s₁.heap H) callerA [] s₁ H ∧ Bed K mg (hidT s₁.heap H) callerA →
      codeAny (model P w) callerA (.call (.ref fa) ⟨[.ref a], []⟩) (fun r s' => r = .ok (.ret (.bool true)) ∧ OldK s₁.heap s'.heap ∧ s'.os = s₁.os ∧ AllBare s'.gens) s₁ := by
    rintro H hO hS ⟨e0, B⟩
    have hok := e0.hok
    refine codeAny_mono (call_here (Q := fun v _ => v = .bl true) (vs := [.ref a]) (us := [.ref a]) F S hr e0 (hbind s₁ (.ref a)) rfl (.cons rfl .nil) fun cdv hr' => ?_) fun r s' h => ?_
    · obtain ⟨t, h1, h2⟩ := body (hidT s₁.heap H) callerA s₁ H cdv B hr' hS
      refine ⟨t, ⟨fun pins s0 σ H1 D I z => ?_⟩, ?_⟩
      · exact h1.run pins s0 σ H1 D I z
      · exact (show t { nx := fun _ _ => V.non = V.bl true, rt := fun v _ => v = V.bl true } (start N [.ref a]) H from by
          have e : (fun (_ : L2.St) (_ : Hp) => V.non = V.bl true) = fun _ _ => False := by funext _ _; simp
          rw [e]; exact h2)
    · match r, h with
      | .error e, h => exact False.elim h
      | .ok .next, h => exact False.elim h
      | .ok .brk, h => exact False.elim h
      | .ok .cont, h => exact False.elim h
      | .ok (.ret u), ⟨v, H', os, bare, un, hok', r', q⟩ =>
        subst q
        obtain rfl : u = Value.bool true := r'
        refine ⟨rfl, OldK.of_keep fun b o e => ?_, os, bare⟩
        rcases hO b with z | ⟨ob, xs, z⟩
        · exact un.keep b o e z (by intro m; exact absurd (show b ∈ ([] : List Addr) from m) (by simp)) (by simp)
        · obtain ⟨e1, _⟩ := hok b _ z
          obtain ⟨e2, _⟩ := hok' b _ (un.frzs b ob _ z)
          rw [e] at e1
          cases e1
          exact e2
  cases hk : K.lookup a with
  | some o =>
    have e := KX a o hk
    rw [ha] at e
    cases e
    refine go H0 (fun _ => .inl rfl) (.inr ⟨_, vs.toArray, _, hk, rfl, rfl, rfl, ?_, ?_⟩) (env_of KX hns hb hbb hlim hsee hg ha (fun b z => absurd rfl z) (fun z => absurd rfl z) fun b u z => nomatch (show (none : Option HO) = some u from z))
    · rw [List.size_toArray, lenV]
      exact hl
    · simpa using rv
  | none =>
    refine go (Hs a { cls := .type "list", data := .seq vs.toArray } (ns.map V.int)) (fun b => ?_) (.inl (.inr ⟨_, hs_at⟩)) (env_of KX hns hb hbb hlim hsee hg ha (fun b z => ?_) (fun _ => hk) fun b u z => ?_)
    · by_cases n : b = a
      · subst n
        exact .inr ⟨_, _, hs_at⟩
      · exact .inl (hs_no n)
    · by_cases n : b = a
      · exact n
      · exact absurd (hs_no n) z
    · by_cases n : b = a
      · subst n
        cases hs_at.symm.trans z
        exact ⟨ha, by rw [List.length_map]; exact hl, vs, _, rv, ha⟩
      · cases (hs_no n).symm.trans z
end
open PySem.W in
/-- the goal that the head leaves -/
theorem walk_law {l : PySem.W.OpenLaw} {n k : Nat} {q : Program} {loose : List Str} {XP : (Str → Option Value) → Heap → Prop} {YP : World → Heap → Prop} {d : DefRec} {K : Params → PySem.W.Frag} {x : Str} {st : Stmt} {N : List Str}
    (hn : l.most = some n) (hn2 : n ≤ sizeLine) (hdf : d.params.defaults = []) (hr : Room (k + 1) callerA) (hi : importsNone q = true) (S : FnScope N [x] (defScope st))
    (hY : ∀ (w : World) (h : Heap), YP w h → (K w.params).In h)
    (F : ∀ (w : World) (mg : Str → Option Value) (fa : Addr) (h : Heap), (K w.params).In h → h.Ns mainGlobals mg → mg d.name = some (.ref fa) →
      ∃ fd : FuncData, Fun (K w.params) "law" "law" st fa fd ∧ (∀ (s : Shared) (u : Value), BindsTo s fd ⟨[u], []⟩ [(x, u)]) ∧
        ∀ (base : Heap) (A : Around) (s : Shared) (H : Hp) (cdv : Value) (a : Addr) (ns : List Int), ns.length ≤ n → Bed (K w.params) mg base A → Room k (A.deeper (envOfC "law" (defScope st) s.heap.objs.size fa cdv)) → SqL (K w.params) H a (ns.map V.int) →
          ∃ t, PSs (cxOf CX0 l.prog w (K w.params) mg base N "law" (defScope st) fa cdv A [] s H E0).nox (defBody st) t ∧ t { nx := fun _ _ => False, rt := fun v _ => v = .bl true } (start N [.ref a]) H) :
    PySem.W.WalkO q loose XP YP l.row.toRowW d [] (fun f vs => PySem.call f vs) := by
  refine Att.attach_call hn hdf fun w s₀ s₁ mg mb fa o pm cd doc a vs ns G Y ho hd hcd hmg hobj hints hlen hg => ?_
  have KX := hY w _ Y
  obtain ⟨fd, F1, F2, F3⟩ := F w mg fa _ KX G.T.g hmg
  obtain ⟨mm, z, _⟩ := (G.T.seer hi).mods
  exact law_true KX G.T.g G.T.b G.T.builtins G.T.nolimit ⟨mm, z⟩ hg hobj hints (Nat.le_trans hlen hn2) hr F1 S F2 fun base A s H cdv B hr' hS => F3 base A s H cdv a ns hlen B hr' hS
end Ge

set_option Elab.async false
set_option linter.all false
set_option maxRecDepth 100000
set_option maxHeartbeats 4000000
/-! data that stand in the heap, dicts too; what repr says of them -/
namespace Gr
open PySem PySem.Spec PyProof.Rows L2 Gn
def keyD : Key → PyData
  | .inl i => .int i
  | .inr x => .str x
mutual
inductive Dr (H : Hp) : V → PyData → Prop
  | non : Dr H .non .none
  | bl (b : Bool) : Dr H (.bl b) (.bool b)
  | int (i : Int) : Dr H (.int i) (.int i)
  | str (x : Str) : Dr H (.str x) (.str x)
  | lst {a : Addr} {xs : List V} {ds : List PyData} : H a = some (.lst xs) → DrAll H xs ds → Dr H (.ref a) (.list ds)
  | tup {a : Addr} {xs : List V} {ds : List PyData} : H a = some (.tup xs) → DrAll H xs ds → Dr H (.ref a) (.tuple ds)
  | dct {a : Addr} {kvs : List (Key × V)} {ds : List (PyData × PyData)} : H a = some (.dK kvs) → DrKv H kvs ds → Dr H (.ref a) (.dict ds)
inductive DrAll (H : Hp) : List V → List PyData → Prop
  | nil : DrAll H [] []
  | cons {v : V} {vs : List V} {d : PyData} {ds : List PyData} : Dr H v d → DrAll H vs ds → DrAll H (v :: vs) (d :: ds)
inductive DrKv (H : Hp) : List (Key × V) → List (PyData × PyData) → Prop
  | nil : DrKv H [] []
  | cons {k : Key} {v : V} {kvs : List (Key × V)} {d : PyData} {ds : List (PyData × PyData)} : Dr H v d → DrKv H kvs ds → DrKv H ((k, v) :: kvs) ((keyD k, d) :: ds)
end
section
variable {H H' : Hp}
mutual
theorem Dr.mono (s : ∀ a o, H a = some o → H' a = some o) : ∀ (d : PyData) (v : V), Dr H v d → Dr H' v d
  | .none, _, h => by cases h; exact .non
  | .bool b, _, h => by cases h; exact .bl b
  | .int i, _, h => by cases h; exact .int i
  | .str x, _, h => by cases h; exact .str x
  | .list ds, _, h => by
    cases h with
    | lst e r => exact .lst (s _ _ e) (DrAll.mono s ds _ r)
  | .tuple ds, _, h => by
    cases h with
    | tup e r => exact .tup (s _ _ e) (DrAll.mono s ds _ r)
  | .dict ds, _, h => by
    cases h with
    | dct e r => exact .dct (s _ _ e) (DrKv.mono s ds _ r)
theorem DrAll.mono (s : ∀ a o, H a = some o → H' a = some o) : ∀ (ds : List PyData) (vs : List V), DrAll H vs ds → DrAll H' vs ds
  | [], _, h => by cases h; exact .nil
  | d :: ds, _, h => by
    cases h with
    | cons e r => exact .cons (Dr.mono s d _ e) (DrAll.mono s ds _ r)
theorem DrKv.mono (s : ∀ a o, H a = some o → H' a = some o) : ∀ (ds : List (PyData × PyData)) (vs : List (Key × V)), DrKv H vs ds → DrKv H' vs ds
  | [], _, h => by cases h; exact .nil
  | (k, d) :: ds, _, h => by
    cases h with
    | cons e r => exact .cons (Dr.mono s d _ e) (DrKv.mono s ds _ r)
end
theorem DrAll.snoc : ∀ {vs : List V} {ds : List PyData} {v : V} {d : PyData}, DrAll H vs ds → Dr H v d → DrAll H (vs ++ [v]) (ds ++ [d])
  | [], _, _, _, .nil, h => .cons h .nil
  | _ :: _, _, _, _, .cons e r, h => .cons e (DrAll.snoc r h)
theorem DrAll.length : ∀ {vs : List V} {ds : List PyData}, DrAll H vs ds → vs.length = ds.length
  | _, _, .nil => rfl
  | _, _, .cons _ r => by rw [List.length_cons, List.length_cons, DrAll.length r]
end
section
variable {X : Cx} {pins : List (Addr × Obj)} {σ : L2.St} {H : Hp} {s : Shared}
theorem rel_key {k : Key} {u : Value} (h : keyIs k u = true) {s : Heap} : Reads s u (keyD k) [] := by
  rcases keyIs_shape h with ⟨i, t, rfl, rfl⟩ | ⟨x, t, rfl, rfl⟩
  · exact .int i t
  · exact .str x t
theorem keys_read {h : Heap} {P : Program} {w : World} : ∀ (ds : List (PyData × PyData)) (kvs : List (Key × V)) (vs : List (Key × Value)) (es : List DictEntry), DrKv H kvs ds → KV kvs vs → Pairs (mixKind P w) es vs →
    ∃ as, ReadsAll h (es.map (·.key)) (ds.map (·.1)) as ∧ sysModules ∉ as
  | [], _, _, _, e, r, p => by
    cases e
    cases r
    cases p
    exact ⟨_, ReadsAll.nil, by simp⟩
  | (k, d) :: ds, _, _, _, e, r, p => by
    cases e with
    | cons h1 h2 =>
      cases r with
      | cons r1 r2 =>
        cases p with
        | cons p1 p2 p3 =>
          obtain ⟨bs, q2, n2⟩ := keys_read (h := h) ds _ _ _ h2 r2 p3
          obtain ⟨r3, _⟩ := r1
          rw [← r3] at p1
          exact ⟨_, ReadsAll.cons (rel_key p1) q2, fun m => n2 m⟩
theorem not_sys (I : Inv X pins σ H s) (hs : ∃ o, X.base.get? sysModules = some o) {a : Addr} {o : HO} (h : H a = some o) : sysModules ≠ a := fun e => by
  obtain ⟨ob, hob⟩ := hs
  have n := (I.bs _ _ hob).2
  rw [e, h] at n
  cases n
mutual
theorem Dr.reads (I : Inv X pins σ H s) (hs : ∃ o, X.base.get? sysModules = some o) : ∀ (d : PyData) (v : V) (u : Value), Dr H v d → RelV v u → ∃ as, Reads s.heap u d as ∧ sysModules ∉ as
  | .none, _, _, h, r => by
    cases h
    cases r
    exact ⟨_, Reads.none, by simp⟩
  | .bool b, _, _, h, r => by
    cases h
    cases r
    exact ⟨_, Reads.bool b, by simp⟩
  | .int i, _, _, h, r => by
    cases h
    obtain ⟨t, rfl⟩ := r
    exact ⟨_, Reads.int i t, by simp⟩
  | .str x, _, _, h, r => by
    cases h
    obtain ⟨t, rfl⟩ := r
    exact ⟨_, Reads.str x t, by simp⟩
  | .list ds, _, _, h, r => by
    cases h with
    | lst e ha =>
      cases r
      obtain ⟨its, rv, ⟨o, n, ho, hc, _, hd⟩, _⟩ := I.list (SqL.of e)
      obtain ⟨as, hr, hn⟩ := DrAll.reads I hs ds _ its ha rv
      exact ⟨_, Reads.list ho hc hd hr, fun m => by
        rcases List.mem_cons.mp m with z | z
        · exact not_sys I hs e z
        · exact hn z⟩
  | .tuple ds, _, _, h, r => by
    cases h with
    | tup e ha =>
      cases r
      obtain ⟨its, rv, ⟨o, ho, hc, n, hd⟩, _⟩ := I.tuple (SqT.of e)
      obtain ⟨as, hr, hn⟩ := DrAll.reads I hs ds _ its ha rv
      exact ⟨_, Reads.tuple ho hc hd hr, hn⟩
  | .dict ds, _, _, h, r => by
    cases h with
    | @dct a kvs _ e ha =>
      cases r
      obtain ⟨_, _, vs, kv, o, es, ep, ho, hx, hdt, _, ps, _⟩ := (show ObjOk X.prog X.w H s.heap a (.dK kvs) from I.hok a _ e)
      obtain ⟨as, hr, hn⟩ := DrKv.reads I hs ds kvs vs es.toList ha kv ps
      obtain ⟨bs, q1, q2⟩ := keys_read (h := s.heap) ds kvs vs es.toList ha kv ps
      exact ⟨_, Reads.dict ho hx.1 hdt q1 hr, fun m => by
        rcases List.mem_append.mp m with z | z
        · rcases List.mem_cons.mp z with z | z
          · exact not_sys I hs e z
          · exact q2 z
        · exact hn z⟩
theorem DrAll.reads (I : Inv X pins σ H s) (hs : ∃ o, X.base.get? sysModules = some o) : ∀ (ds : List PyData) (vs : List V) (us : List Value), DrAll H vs ds → Vals vs us → ∃ as, ReadsAll s.heap us ds as ∧ sysModules ∉ as
  | [], _, _, h, r => by
    cases h
    cases r
    exact ⟨_, ReadsAll.nil, by simp⟩
  | d :: ds, _, _, h, r => by
    cases h with
    | cons h1 h2 =>
      cases r with
      | cons r1 r2 =>
        obtain ⟨as, q1, n1⟩ := Dr.reads I hs d _ _ h1 r1
        obtain ⟨bs, q2, n2⟩ := DrAll.reads I hs ds _ _ h2 r2
        exact ⟨_, ReadsAll.cons q1 q2, fun m => (List.mem_append.mp m).elim n1 n2⟩
theorem DrKv.reads (I : Inv X pins σ H s) (hs : ∃ o, X.base.get? sysModules = some o) : ∀ (ds : List (PyData × PyData)) (kvs : List (Key × V)) (vs : List (Key × Value)) (es : List DictEntry), DrKv H kvs ds → KV kvs vs → Pairs (mixKind X.prog X.w) es vs →
    ∃ as, ReadsAll s.heap (es.map (·.val)) (ds.map (·.2)) as ∧ sysModules ∉ as
  | [], _, _, _, h, r, p => by
    cases h
    cases r
    cases p
    exact ⟨_, ReadsAll.nil, by simp⟩
  | (k, d) :: ds, _, _, _, h, r, p => by
    cases h with
    | cons h1 h2 =>
      cases r with
      | cons r1 r2 =>
        cases p with
        | cons p1 p2 p3 =>
          obtain ⟨as, q1, n1⟩ := Dr.reads I hs d _ _ h1 r1.2
          obtain ⟨bs, q2, n2⟩ := DrKv.reads I hs ds _ _ _ h2 r2 p3
          rw [← p2] at q1
          exact ⟨_, ReadsAll.cons q1 q2, fun m => (List.mem_append.mp m).elim n1 n2⟩
end
end
/-- repr(v), v any data -/
def rRepr : List V → Hp → VK → Prop := fun xs H Q => ∃ v d, xs = [v] ∧ Dr H v d ∧ d.showable = true ∧ d.depth ≤ 60 ∧ d.shown.length ≤ sizeLine ∧ Q (.str d.shown) H
theorem call_repr {X : Cx} (hg : X.A.guards = some []) (hu : X.A.units + 64 < cLine) (hs : ∃ o, X.base.get? sysModules = some o) : CallR X (.builtin "repr") rRepr := by
  intro pins s σ H xs us Q I r h
  obtain ⟨v, d, rfl, hd, sh, dp, sz, q⟩ := h
  obtain ⟨u, rfl, ru⟩ := vals1 r
  have fin : ∀ h' tk uk, (∀ b o, s.heap.get? b = some o → h'.get? b = some o) → EP X pins σ Q (.str d.shown uk) { s with heap := h', toks := tk } := fun h' tk uk k => ⟨.str d.shown, H, I.kept k, ⟨uk, rfl⟩, q⟩
  obtain ⟨as, hr, hn⟩ := Dr.reads I hs d v u hd ru
  cases hr with
  | none => exact PySem.P.repr_of_none (by have e := fin s.heap (s.toks + 1) s.toks (fun _ _ e => e); simpa only [PyData.shown] using e)
  | bool b => exact PySem.P.repr_of_bool (by have e := fin s.heap (s.toks + 1) s.toks (fun _ _ e => e); simpa only [PyData.shown] using e)
  | int i t => exact PySem.P.repr_of_int (by simpa [PyData.showable] using sh) (by have e := fin s.heap (s.toks + 1) s.toks (fun _ _ e => e); simpa only [PyData.shown] using e)
  | str x t => exact PySem.P.repr_of_str (by have e := fin s.heap (s.toks + 1) s.toks (fun _ _ e => e); simpa only [PyData.shown] using e) (by simpa only [PyData.shown] using sz)
  | list h1 h2 h3 h4 => exact repr_of_reads' (Reads.list h1 h2 h3 h4) sh (fun _ => hn) hg (by omega) (fun _ _ e => e) (fun h' u tk k => fin h' tk u k) sz
  | tuple h1 h2 h3 h4 => exact repr_of_reads' (Reads.tuple h1 h2 h3 h4) sh (fun _ => hn) hg (by omega) (fun _ _ e => e) (fun h' u tk k => fin h' tk u k) sz
  | dict h1 h2 h3 h4 h5 => exact repr_of_reads' (Reads.dict h1 h2 h3 h4 h5) sh (fun _ => hn) hg (by omega) (fun _ _ e => e) (fun h' u tk k => fin h' tk u k) sz
end Gr

set_option Elab.async false
set_option linter.all false
set_option maxRecDepth 100000
set_option maxHeartbeats 4000000
/-! more rules and words -/
namespace Gk
open PySem PySem.Spec PyProof.Rows L2 Gn Gr
section
variable {X : Cx} {CX : CXT} {k : Nat} {f : Addr} {fd : FuncData} {ps ks : List Str} {sp : Sp} {E : XK} {x : Str} {p pos : Pos} {kws : List Keyword} {tk : TA} {g : List Value → List Value → List Value} {gV : List V → List V → List V}
/-- f(k = v, ..) -/
theorem pe_kw (F : FnOk X.prog X.w X.K X.mg X.base CX k f fd ps sp) (hr : Room k X.A) (hg : Gl X x) (hm : X.mg x = some (.ref f)) (hk : PySem.W.keepIn X.K (.ref f) = true) (hb : KBinds X.K fd ps ks g gV) (hx : Passes CX X E) (hkw : PK X kws tk)
    (hall : (backToKw pos (keywordEach kws X.env)).all (·.1.isSome) = true := by rfl) (hks : (backToKw pos (keywordEach kws X.env)).filterMap (·.1) = ks := by rfl) (hdb : (x == ("__debug__" : Str)) = false := by decide)
    (hpl : ((backTo pos (starEach [] X.env)).any (·.1) || (backToKw pos (keywordEach kws X.env)).any (·.1.isNone)) = false := by rfl) :
    PE X (.Call (.Name x p) [] kws pos) (tCallK sp gV E tNil tk) := by
  refine ⟨fun pins s σ H Q I h => ?_⟩
  refine wpAny_Call_Name_kw (ld_glob I hg hm ?_ hdb)
  refine PySem.W.callWith_KW0 (h₀ := X.base) I.ok.mod.kin hk hall ?_ hpl
  refine thn (hkw.run pos pins s σ H _ I h) fun ws s2 ⟨zs, H2, I2, rz, q2⟩ => ⟨I2.kIn, ?_⟩
  rw [hks]
  exact run_fnk (us := []) (vs := []) F hr hb hx I2 .nil rz q2
/-- one parameter, given by its name or its place -/
theorem kb_one {K : PySem.W.Frag} {y : Str} (b : ∀ (s : Shared) (w : Value), BindsTo s fd ⟨[], [(y, w)]⟩ [(y, w)]) (b' : ∀ (s : Shared) (w : Value), BindsTo s fd ⟨[w], []⟩ [(y, w)]) : KBinds K fd [y] [y] (fun us ws => us ++ ws) (fun vs zs => vs ++ zs) := by
  refine ⟨fun s us ws _ hl => ?_, fun r q => Vals.append r q⟩
  match us, ws, hl with
  | [], [w], _ => exact b s w
  | [w], [], _ => exact b' s w
  | [], [], hl => exact absurd hl (by simp)
  | [], _ :: _ :: _, hl => exact absurd hl (by simp)
  | [_], _ :: _, hl => exact absurd hl (by simp)
  | _ :: _ :: _, _, hl => exact absurd hl (by simp)
end
/-- no test in a comprehension -/
theorem yes_of {σ : L2.St} {H : Hp} {A B : Hp → Prop} (h : A H) : tYes σ H (fun b H3 => if b = true then A H3 else B H3) := by
  show if true = true then A H else B H
  rw [if_pos rfl]
  exact h
/-! ## texts of signs below 128 -/
def Asc (n : Nat) (x : Str) : Prop := x.length ≤ n ∧ ∀ c ∈ x.cps.toList, c < 128
theorem len_cps (x : Str) : x.cps.toList.length = x.length := by simp [Str.length]
theorem cps_app (x y : Str) : (x ++ y).cps.toList = x.cps.toList ++ y.cps.toList := by
  show (x.cps ++ y.cps).toList = _
  simp
theorem Asc.app {n m : Nat} {x y : Str} (h : Asc n x) (k : Asc m y) : Asc (n + m) (x ++ y) := by
  refine ⟨by rw [strLen_append]; have := h.1; have := k.1; omega, fun c hc => ?_⟩
  rw [cps_app] at hc
  exact (List.mem_append.mp hc).elim (h.2 c) (k.2 c)
theorem Asc.mono {n m : Nat} {x : Str} (h : Asc n x) (k : n ≤ m) : Asc m x := ⟨Nat.le_trans h.1 k, h.2⟩
theorem Asc.one {c : Nat} (h : c < 128) : Asc 1 (⟨#[c]⟩ : Str) := ⟨Nat.le_refl _, fun b hb => by
  have : b = c := by simpa using hb
  omega⟩
theorem Asc.cut {n : Nat} {x : Str} (h : Asc n x) (lo hi : Option Int) : Asc n (cutS x lo hi) := by
  have e : (cutS x lo hi).cps.toList = (x.cps.toList.drop (HT.sIx x.length 0 lo)).take (HT.sIx x.length x.length hi - HT.sIx x.length 0 lo) := by
    unfold cutS
    simp
  refine ⟨?_, fun c hc => ?_⟩
  · rw [← len_cps, e, List.length_take, List.length_drop, len_cps]
    have := h.1
    omega
  · rw [e] at hc
    exact h.2 c (List.mem_of_mem_drop (List.mem_of_mem_take hc))
theorem Asc.ok {n : Nat} {x : Str} (h : Asc n x) : PyData.strOk x = true := by
  unfold PyData.strOk
  rw [Array.all_eq_true']
  intro c hc
  have := h.2 c (by simpa using hc)
  simp only [decide_eq_true_eq]
  omega
theorem Asc.shown {n : Nat} {x : Str} (h : Asc n x) : (reprText x).length ≤ 10 * n + 2 := by
  have := PySem.StrLaws.reprText_len x fun c hc => Nat.lt_of_lt_of_le (h.2 c hc) (by decide)
  have := h.1
  omega
/-! ## what is new since -/
def Nw (H H' : Hp) : Hp := fun a => match H a with | none => H' a | some _ => none
section
variable {H H' H2 : Hp} {a : Addr} {o : HO}
theorem nw_of (h : Nw H H' a = some o) : H a = none ∧ H' a = some o := by
  unfold Nw at h
  cases e : H a with
  | none => rw [e] at h; exact ⟨rfl, h⟩
  | some u => rw [e] at h; cases h
theorem nw_to (h : H a = none) (k : H' a = some o) : Nw H H' a = some o := by
  unfold Nw
  rw [h]
  exact k
theorem nw_sub : ∀ a o, Nw H H' a = some o → H' a = some o := fun a o h => (nw_of h).2
end
/-! ## numbers as texts -/
theorem shown_int {i : Int} (h : i.natAbs < 10 ^ 20) : (PyData.int i).showable = true ∧ (PyData.int i).shown.length ≤ 21 := by
  constructor
  · simp only [PyData.showable, decide_eq_true_eq]
    by_cases z : i.natAbs = 0
    · rw [z]; decide
    · refine (Nat.log2_lt z).mpr (Nat.lt_trans h ?_)
      decide +kernel
  · simp only [PyData.shown]
    show (Str.ofString (toString i)).length ≤ 21
    rw [PySem.ofString_length]
    exact int_text_length_le10 (by decide) h
/-! ## how much a value's text may hold -/
def Ok (n : Nat) (x : PyData) : Prop := x.showable = true ∧ x.depth ≤ n ∧ x.shown.length ≤ 200 * 4 ^ n
theorem pow_pos4 (n : Nat) : 1 ≤ 4 ^ n := Nat.pow_pos (by decide)
theorem pow_le4 {n m : Nat} (h : n ≤ m) : 4 ^ n ≤ 4 ^ m := Nat.pow_le_pow_right (by decide) h
theorem pow_s4 (n : Nat) : 4 ^ (n + 1) = 4 * 4 ^ n := by rw [Nat.pow_succ, Nat.mul_comm]
theorem Ok.mono {n m : Nat} {x : PyData} (h : Ok n x) (k : n ≤ m) : Ok m x :=
  ⟨h.1, Nat.le_trans h.2.1 k, Nat.le_trans h.2.2 (Nat.mul_le_mul_left _ (pow_le4 k))⟩
theorem Ok.flat {n : Nat} {x : PyData} (h1 : x.showable = true) (h2 : x.depth = 0) (h3 : x.shown.length ≤ 200) : Ok n x := by
  have := pow_pos4 n
  exact ⟨h1, by omega, by omega⟩
theorem ok_str {n : Nat} {x : Str} (h : Asc 19 x) : Ok n (.str x) := by
  have := h.shown
  refine Ok.flat (by simp only [PyData.showable]) (by simp only [PyData.depth]) ?_
  simp only [PyData.shown]
  omega
theorem ok_int {n : Nat} {i : Int} (h : i.natAbs < 10 ^ 20) : Ok n (.int i) := by
  obtain ⟨a, b⟩ := shown_int h
  exact Ok.flat a (by simp only [PyData.depth]) (by omega)
theorem ok_all {n : Nat} : ∀ {ds : List PyData}, (∀ x ∈ ds, Ok n x) → PyData.showableAll ds = true ∧ PyData.depthAll ds ≤ n ∧ (PyData.shownAll ds).length = ds.length ∧ ((PyData.shownAll ds).map (·.length)).sum ≤ ds.length * (200 * 4 ^ n)
  | [], _ => by
    refine ⟨by simp only [PyData.showableAll], by simp only [PyData.depthAll]; omega, by simp only [PyData.shownAll]; rfl, by simp only [PyData.shownAll]; simp⟩
  | x :: r, h => by
    obtain ⟨a1, a2, a3⟩ := h x (List.mem_cons_self ..)
    obtain ⟨b1, b2, b3, b4⟩ := ok_all (ds := r) fun y hy => h y (List.mem_cons_of_mem _ hy)
    refine ⟨?_, ?_, ?_, ?_⟩
    · simp only [PyData.showableAll, a1, b1, Bool.and_self]
    · simp only [PyData.depthAll]
      omega
    · simp only [PyData.shownAll, List.length_cons, b3]
    · simp only [PyData.shownAll, List.map_cons, List.sum_cons, List.length_cons]
      rw [Nat.succ_mul]
      omega
theorem two_mul {k n : Nat} (h : k ≤ 2) : k * (200 * 4 ^ n) ≤ 2 * (200 * 4 ^ n) := Nat.mul_le_mul_right _ h
theorem ok_list {n : Nat} {ds : List PyData} (h : ∀ x ∈ ds, Ok n x) (h2 : ds.length ≤ 2) : Ok (n + 1) (.list ds) := by
  obtain ⟨b1, b2, b3, b4⟩ := ok_all h
  have := listText_len_le (PyData.shownAll ds)
  have := two_mul (n := n) h2
  have := pow_pos4 n
  refine ⟨by simp only [PyData.showable, b1], by simp only [PyData.depth]; omega, ?_⟩
  simp only [PyData.shown]
  rw [pow_s4]
  omega
theorem ok_tuple {n : Nat} {ds : List PyData} (h : ∀ x ∈ ds, Ok n x) (h2 : ds.length ≤ 2) : Ok (n + 1) (.tuple ds) := by
  obtain ⟨b1, b2, b3, b4⟩ := ok_all h
  have := tupleText_len_le (PyData.shownAll ds)
  have := two_mul (n := n) h2
  have := pow_pos4 n
  refine ⟨by simp only [PyData.showable, b1], by simp only [PyData.depth]; omega, ?_⟩
  simp only [PyData.shown]
  rw [pow_s4]
  omega
theorem ok_kvs {n : Nat} : ∀ {ds : List (PyData × PyData)}, (∀ p ∈ ds, (∃ x, p.1 = .str x ∧ Asc 19 x) ∧ Ok n p.2) → PyData.showableKv ds = true ∧ PyData.depthKv ds ≤ n ∧ (PyData.shownKv ds).length = ds.length ∧ ((PyData.shownKv ds).map (·.length)).sum ≤ ds.length * (194 + 200 * 4 ^ n)
  | [], _ => by
    refine ⟨by simp only [PyData.showableKv], by simp only [PyData.depthKv]; omega, by simp only [PyData.shownKv]; rfl, by simp only [PyData.shownKv]; simp⟩
  | (kx, x) :: r, h => by
    obtain ⟨⟨y, e, hy⟩, a1, a2, a3⟩ := h (kx, x) (List.mem_cons_self ..)
    obtain ⟨b1, b2, b3, b4⟩ := ok_kvs (ds := r) fun y hy => h y (List.mem_cons_of_mem _ hy)
    have e : kx = .str y := e
    subst e
    have a1 : x.showable = true := a1
    have a2 : x.depth ≤ n := a2
    have a3 : x.shown.length ≤ 200 * 4 ^ n := a3
    have hy' := hy.shown
    refine ⟨?_, ?_, ?_, ?_⟩
    · simp only [PyData.showableKv, PyData.showable, a1, b1, Bool.and_self]
    · simp only [PyData.depthKv, PyData.depth]
      omega
    · simp only [PyData.shownKv, List.length_cons, b3]
    · simp only [PyData.shownKv, List.map_cons, List.sum_cons, List.length_cons, PyData.shown]
      rw [strLen_append, strLen_append, Nat.succ_mul]
      have e2 : ((": " : String) : Str).length = 2 := rfl
      omega
theorem ok_dict {n : Nat} {ds : List (PyData × PyData)} (h : ∀ p ∈ ds, (∃ x, p.1 = .str x ∧ Asc 19 x) ∧ Ok n p.2) (h2 : ds.length ≤ 2) : Ok (n + 1) (.dict ds) := by
  obtain ⟨b1, b2, b3, b4⟩ := ok_kvs h
  have := dictText_len_le (PyData.shownKv ds)
  have : ds.length * (194 + 200 * 4 ^ n) ≤ 2 * (194 + 200 * 4 ^ n) := Nat.mul_le_mul_right _ h2
  have := pow_pos4 n
  refine ⟨by simp only [PyData.showable, b1], by simp only [PyData.depth]; omega, ?_⟩
  simp only [PyData.shown]
  rw [pow_s4]
  omega
/-! ## keys '0', '1', .. -/
def tagS (n : Nat) : Str := ((toString (n : Int) : String) : Str)
def tags : Nat → List V → List (Key × V)
  | _, [] => []
  | n, v :: r => ((Sum.inr (tagS n) : Key), v) :: tags (n + 1) r
def tagD : Nat → List PyData → List (PyData × PyData)
  | _, [] => []
  | n, d :: r => (.str (tagS n), d) :: tagD (n + 1) r
theorem tags_snoc : ∀ (vs : List V) (n : Nat) (v : V), tags n (vs ++ [v]) = tags n vs ++ [((Sum.inr (tagS (n + vs.length)) : Key), v)]
  | [], n, v => rfl
  | w :: r, n, v => by
    have e : n + 1 + r.length = n + (w :: r).length := by rw [List.length_cons]; omega
    show (_, w) :: tags (n + 1) (r ++ [v]) = (_, w) :: (tags (n + 1) r ++ _)
    rw [tags_snoc r (n + 1) v, e]
theorem tags_dr {H : Hp} : ∀ {vs : List V} {ds : List PyData} (n : Nat), DrAll H vs ds → DrKv H (tags n vs) (tagD n ds)
  | _, _, _, .nil => .nil
  | _, _, n, .cons e r => .cons e (tags_dr (n + 1) r)
theorem tagD_len : ∀ (ds : List PyData) (n : Nat), (tagD n ds).length = ds.length
  | [], _ => rfl
  | _ :: r, n => by show (tagD (n + 1) r).length + 1 = r.length + 1; rw [tagD_len r]
theorem tag_asc {n : Nat} (h : n < 10) : Asc 19 (tagS n) := by
  have : n = 0 ∨ n = 1 ∨ n = 2 ∨ n = 3 ∨ n = 4 ∨ n = 5 ∨ n = 6 ∨ n = 7 ∨ n = 8 ∨ n = 9 := by omega
  rcases this with rfl | rfl | rfl | rfl | rfl | rfl | rfl | rfl | rfl | rfl <;> exact ⟨by decide +kernel, by decide +kernel⟩
theorem tagD_ok {m : Nat} : ∀ {ds : List PyData} (n : Nat), n + ds.length ≤ 9 → (∀ x ∈ ds, Ok m x) → ∀ p ∈ tagD n ds, (∃ x, p.1 = .str x ∧ Asc 19 x) ∧ Ok m p.2
  | [], _, _, _, p, hp => by cases hp
  | d :: r, n, hn, h, p, hp => by
    rw [List.length_cons] at hn
    rcases List.mem_cons.mp hp with e | hp
    · subst e
      exact ⟨⟨_, rfl, tag_asc (by omega)⟩, h d (List.mem_cons_self ..)⟩
    · exact tagD_ok (n + 1) (by omega) (fun x hx => h x (List.mem_cons_of_mem _ hx)) p hp
theorem tags_merge {vs : List V} (h : vs.length ≤ 2) : mergeK [] (tags 0 vs) = tags 0 vs := by
  match vs, h with
  | [], _ => rfl
  | [a], _ => rfl
  | [a, b], _ =>
    have n01 : ¬ (Sum.inr (tagS 0) : Key) = Sum.inr (tagS 1) := by decide +kernel
    show putK (putK [] (Sum.inr (tagS 0) : Key) a) (Sum.inr (tagS 1) : Key) b = [((Sum.inr (tagS 0) : Key), a), ((Sum.inr (tagS 1) : Key), b)]
    have e1 : putK [] (Sum.inr (tagS 0) : Key) a = [((Sum.inr (tagS 0) : Key), a)] := rfl
    rw [e1]
    exact putK_new b ((valV_neg n01).trans valV_nil)
/-- .. and a text is made of signs below 128 -/
def OkT (n : Nat) (x : PyData) : Prop := Ok n x ∧ ∀ s, x = .str s → Asc 19 s
theorem okT_of {n : Nat} {x : PyData} (h : Ok n x) (k : ∀ s, x ≠ .str s) : OkT n x := ⟨h, fun s e => absurd e (k s)⟩
theorem okT_str {n : Nat} {x : Str} (h : Asc 19 x) : OkT n (.str x) := ⟨ok_str h, fun s e => by cases e; exact h⟩
/-! ## the type of a value -/
def Ext (H H' : Hp) : Prop := ∀ a o, H a = some o → H' a = some o
theorem Ext.refl {H : Hp} : Ext H H := fun _ _ e => e
theorem Ext.trans {H H' H2 : Hp} (h : Ext H H') (k : Ext H' H2) : Ext H H2 := fun a o e => k a o (h a o e)
theorem Ext.new {H : Hp} {p : Addr} {o : HO} (h : H p = none) : Ext H (upd H p o) := fun a u e => new_same h a u e
inductive TyT (H : Hp) : V → String → Prop
  | non : TyT H .non "NoneType"
  | bl (b : Bool) : TyT H (.bl b) "bool"
  | int (i : Int) : TyT H (.int i) "int"
  | str (x : Str) : TyT H (.str x) "str"
  | lst {a : Addr} {xs : List V} : H a = some (.lst xs) → TyT H (.ref a) "list"
  | tup {a : Addr} {xs : List V} : H a = some (.tup xs) → TyT H (.ref a) "tuple"
  | dct {a : Addr} {kvs : List (Key × V)} : H a = some (.dK kvs) → TyT H (.ref a) "dict"
theorem TyT.x {K : PySem.W.Frag} {H : Hp} {v : V} {T : String} (h : TyT H v T) : TyX K H v (.type T) := by
  cases h with
  | non => exact .base .non
  | bl b => exact .base (.bl b)
  | int i => exact .base (.int i)
  | str x => exact .base (.str x)
  | lst e => exact .base (.lst e)
  | tup e => exact .base (.tup e)
  | dct e => exact .base (.dK e)
theorem TyT.ext {H H' : Hp} {v : V} {T : String} (h : TyT H v T) (k : Ext H H') : TyT H' v T := by
  cases h with
  | non => exact .non
  | bl b => exact .bl b
  | int i => exact .int i
  | str x => exact .str x
  | lst e => exact .lst (k _ _ e)
  | tup e => exact .tup (k _ _ e)
  | dct e => exact .dct (k _ _ e)
theorem dr_ty {H : Hp} {v : V} {x : PyData} (h : Dr H v x) : (∃ s, v = .str s ∧ x = .str s) ∨ (∃ i, v = .int i) ∨ (TyT H v "NoneType" ∨ TyT H v "bool" ∨ TyT H v "list" ∨ TyT H v "tuple" ∨ TyT H v "dict") := by
  cases h with
  | non => exact .inr (.inr (.inl .non))
  | bl b => exact .inr (.inr (.inr (.inl (.bl b))))
  | int i => exact .inr (.inl ⟨i, rfl⟩)
  | str x => exact .inl ⟨x, rfl, rfl⟩
  | lst e _ => exact .inr (.inr (.inr (.inr (.inl (.lst e)))))
  | tup e _ => exact .inr (.inr (.inr (.inr (.inr (.inl (.tup e))))))
  | dct e _ => exact .inr (.inr (.inr (.inr (.inr (.inr (.dct e))))))
/-- isinstance of a value whose type is told -/
theorem isi_ty {K : PySem.W.Frag} {H : Hp} {v : V} {T U : String} {r : Bool} {Q : VK} (h : TyT H v T) (k : kitB T U = some r) (q : Q (.bl r) H) : rIsi K [v, .ty U] H Q :=
  ⟨v, .ty U, .type T, .type U, r, rfl, .ty U, h.x, kit_ty k, q⟩
/-! ## what a name is, what an amount is -/
def letters : Str := "abcdefghijklmnopqrstuvwxyz"
def isL (c : Nat) : Bool := decide (c ∈ letters.cps.toList)
def nameOk (x : Str) : Bool := decide (1 ≤ x.length) && (decide (x.length ≤ 8) && x.cps.toList.all isL)
def amtOk (i : Int) : Bool := decide (1 ≤ i) && decide (i ≤ 1000000000)
def NameV (H : Hp) (v : V) (r : Bool) : Prop := (∃ x, v = .str x ∧ Asc 19 x ∧ r = nameOk x) ∨ (r = false ∧ (TyT H v "NoneType" ∨ TyT H v "bool" ∨ TyT H v "int" ∨ TyT H v "list" ∨ TyT H v "tuple" ∨ TyT H v "dict"))
def AmtV (H : Hp) (v : V) (r : Bool) : Prop := (∃ i, v = .int i ∧ r = amtOk i) ∨ (r = false ∧ (TyT H v "NoneType" ∨ TyT H v "bool" ∨ TyT H v "str" ∨ TyT H v "list" ∨ TyT H v "tuple" ∨ TyT H v "dict"))
def spName : Sp := fun vs H Q _ => ∃ v r, vs = [v] ∧ NameV H v r ∧ ∀ H', Ext H H' → Q (.bl r) H'
def spAmt : Sp := fun vs H Q _ => ∃ v r, vs = [v] ∧ AmtV H v r ∧ ∀ H', Ext H H' → Q (.bl r) H'
theorem NameV.ext {H H' : Hp} {v : V} {r : Bool} (h : NameV H v r) (k : Ext H H') : NameV H' v r := by
  rcases h with h | ⟨e, h⟩
  · exact .inl h
  · refine .inr ⟨e, ?_⟩
    rcases h with h | h | h | h | h | h
    · exact .inl (h.ext k)
    · exact .inr (.inl (h.ext k))
    · exact .inr (.inr (.inl (h.ext k)))
    · exact .inr (.inr (.inr (.inl (h.ext k))))
    · exact .inr (.inr (.inr (.inr (.inl (h.ext k)))))
    · exact .inr (.inr (.inr (.inr (.inr (h.ext k)))))
theorem AmtV.ext {H H' : Hp} {v : V} {r : Bool} (h : AmtV H v r) (k : Ext H H') : AmtV H' v r := by
  rcases h with h | ⟨e, h⟩
  · exact .inl h
  · refine .inr ⟨e, ?_⟩
    rcases h with h | h | h | h | h | h
    · exact .inl (h.ext k)
    · exact .inr (.inl (h.ext k))
    · exact .inr (.inr (.inl (h.ext k)))
    · exact .inr (.inr (.inr (.inl (h.ext k))))
    · exact .inr (.inr (.inr (.inr (.inl (h.ext k)))))
    · exact .inr (.inr (.inr (.inr (.inr (h.ext k)))))
theorem dr_judged {H : Hp} {v : V} {x : PyData} {n : Nat} (h : Dr H v x) (k : OkT n x) : (∃ r, NameV H v r) ∧ ∃ r, AmtV H v r := by
  rcases dr_ty h with ⟨s, rfl, rfl⟩ | ⟨i, rfl⟩ | h | h | h | h | h
  · exact ⟨⟨_, .inl ⟨s, rfl, k.2 s rfl, rfl⟩⟩, ⟨false, .inr ⟨rfl, .inr (.inr (.inl (.str s)))⟩⟩⟩
  · exact ⟨⟨false, .inr ⟨rfl, .inr (.inr (.inl (.int i)))⟩⟩, ⟨_, .inl ⟨i, rfl, rfl⟩⟩⟩
  · exact ⟨⟨false, .inr ⟨rfl, .inl h⟩⟩, ⟨false, .inr ⟨rfl, .inl h⟩⟩⟩
  · exact ⟨⟨false, .inr ⟨rfl, .inr (.inl h)⟩⟩, ⟨false, .inr ⟨rfl, .inr (.inl h)⟩⟩⟩
  · exact ⟨⟨false, .inr ⟨rfl, .inr (.inr (.inr (.inl h)))⟩⟩, ⟨false, .inr ⟨rfl, .inr (.inr (.inr (.inl h)))⟩⟩⟩
  · exact ⟨⟨false, .inr ⟨rfl, .inr (.inr (.inr (.inr (.inl h))))⟩⟩, ⟨false, .inr ⟨rfl, .inr (.inr (.inr (.inr (.inl h))))⟩⟩⟩
  · exact ⟨⟨false, .inr ⟨rfl, .inr (.inr (.inr (.inr (.inr h))))⟩⟩, ⟨false, .inr ⟨rfl, .inr (.inr (.inr (.inr (.inr h))))⟩⟩⟩
end Gk

set_option Elab.async false
set_option linter.all false
set_option maxRecDepth 100000
set_option maxHeartbeats 4000000
namespace Lw
open PySem PySem.Spec PyProof.Rows L2 Gn
def top (i : Nat) : Stmt := PySem.Challenge.pw_hearpurse_k63_names_and_amounts.main.body.getD i (.Pass ⟨0, 0, 0, 0⟩)
abbrev sBegun : Stmt := top 8
abbrev sMixed : Stmt := top 9
abbrev sTake : Stmt := top 10
abbrev sPick : Stmt := top 11
section
variable {P : Program} {w : World} {K : PySem.W.Frag} {mg : Str → Option Value} {base : Heap}
/-! ### _law_mixed -/
def spMixed (ns : List Int) : Sp := fun vs H Q _ => ∃ (d g c : Addr) (b : Nat), vs = [.ref d] ∧ Dw ns d g c b H ∧ b ≤ 1000000000 ∧
  ∀ (r : Int) (H' : Hp), Dw ns d g c (b + 1) H' → Kp d g H H' → Q (.int r) H'
theorem scMixed : FnScope ["_law_state", "_law_found", "_law_prime", "_law_blend", "_law_cell"] ["_law_state"] (defScope sMixed) := ⟨rfl, rfl, rfl, by decide +kernel, rfl, by decide +kernel, by decide +kernel⟩
def primes : List Int := [2147483629, 2147483587, 2147483579, 2147483563, 2147483549, 2147483543]
theorem prime_of {p : Int} (h : p ∈ primes) : 2000000000 < p ∧ p < 2147483648 := by
  unfold primes at h
  simp only [List.mem_cons, List.not_mem_nil, or_false] at h
  omega
theorem ok_mixed {f : Addr} {fd : FuncData} (ns : List Int) (F : Fun K "_law_mixed" "_law_mixed" sMixed f fd) : FnOk P w K mg base CX0 1 f fd ["_law_state"] (spMixed ns) := by
  refine F.ok scMixed (fun vs H Q E h => ?_) (fun cdv A outer s H vs Q E hr h => ?_)
  · obtain ⟨d, g, c, b, rfl, _⟩ := h
    rfl
  · obtain ⟨d, g, c, b, rfl, D, hb, k⟩ := h
    have hu := hu_of hr
    have nd := scMixed.nd
    refine ⟨_, pss_cons (ps_dput hu (pv 0) pe_str (pe_op op_add (pe_dget hu (pv 0) pe_str (fun _ _ => rfl)) pe_int) rfl)
      (pss_cons (ps_set (i := 1) nd rfl (.inl rfl) pe_int)
      (pss_cons (ps_for PassesOwn.never rfl (pi_list (pe_lst (pa_cons pe_int (pa_cons pe_int (pa_cons pe_int (pa_cons pe_int (pa_cons pe_int (pa_cons pe_int pa_nil)))))))) (pg_name (i := 2) nd rfl (.inl rfl))
        (pss_cons (ps_set (i := 3) nd rfl (.inl rfl) (pe_op op_add (pe_op op_mul pe_int (pe_dget hu (pv 0) pe_str (fun _ _ => rfl))) (pe_op op_fdivN (pv 2) pe_int)))
        (pss_cons (ps_for PassesOwn.never rfl (pi_list (pe_dget hu (pv 0) pe_str (fun _ _ => rfl))) (pg_name (i := 4) nd rfl (.inl rfl))
          (pss_one (ps_set (i := 3) nd rfl (.inl rfl) (pe_op op_modN (pe_op op_add (pe_op op_mul (pv 3) pe_int) (pv 4)) (pv 2)))))
        (pss_one (ps_set (i := 1) nd rfl (.inl rfl) (pe_op op_add (pe_op op_mul (pv 1) pe_int) (pe_op op_modN (pe_op op_pow (pv 3) pe_int) (pv 2))))))))
      (pss_one (ps_ret (pv 1))))), ?_⟩
    obtain ⟨⟨gs, l, t, hd, hg, t0, tb⟩, hc, ncd, ncg⟩ := id D
    have ndg : g ≠ d := ne_of hg hd (by intro z; cases z)
    refine ⟨_, rfl, d, _, rfl, get_t hd, t, 1, rfl, rfl, _, rfl, d, _, rfl, put_t hd, ?_⟩
    generalize hH1 : upd H d (.dK (dk g c l (t + 1))) = H1
    have hd1 : H1 d = some (.dK (dk g c l (t + 1))) := by rw [← hH1, upd_same]
    have hg1 : H1 g = some (.lst (gs.map V.int)) := by rw [← hH1, upd_ne ndg]; exact hg
    have hc1 : H1 c = some (.lst (ns.map V.int)) := by rw [← hH1, upd_ne ncd]; exact hc
    have k1 : Kp d g H H1 := by rw [← hH1]; exact Kp.at_d
    refine ⟨by show 6 ≤ sizeLine; decide, fun p hp => ?_⟩
    have hd2 := new_same (o := .lst (primes.map V.int)) hp _ _ hd1
    have hg2 := new_same (o := .lst (primes.map V.int)) hp _ _ hg1
    have hc2 := new_same (o := .lst (primes.map V.int)) hp _ _ hc1
    refine ⟨p, rfl, ⟨_, SqL.of upd_same⟩, for_list (K := K) (a := p) (xs := primes.map V.int) (fun i σ H' => H' = upd H1 p (.lst (primes.map V.int)) ∧ ∃ (f : Int) (v2 v3 v4 : Option V), σ = [some (.ref d), some (.int f), v2, v3, v4])
      ⟨rfl, 0, none, none, none, rfl⟩ (fun i σ H' _ ⟨e, _⟩ => by rw [e]; exact SqL.of upd_same) ?_ ?_⟩
    · rintro i x σ H' hx ⟨rfl, f, v2, v3, v4, rfl⟩
      obtain ⟨pr, hpr, rfl⟩ : ∃ z : Int, z ∈ primes ∧ x = V.int z := by
        obtain ⟨z, hz, e⟩ := List.mem_map.mp (List.mem_of_getElem? hx)
        exact ⟨z, hz, e.symm⟩
      obtain ⟨p1, p2⟩ := prime_of hpr
      refine ⟨_, rfl, d, _, rfl, get_t hd2, 69997, t + 1, rfl, rfl, .inl ⟨by decide, by decide⟩, _, rfl, pr, 11, rfl, rfl, ⟨by decide, by decide⟩, _, _, rfl, rfl, ?_⟩
      have q0 : 0 ≤ pr.fdiv 11 ∧ pr.fdiv 11 < 2147483648 := by
        rw [Int.fdiv_eq_ediv_of_nonneg pr (by decide)]
        omega
      refine ⟨_, rfl, d, _, rfl, get_c hd2, c, rfl, ⟨_, SqL.of hc2⟩, for_list (K := K) (a := c) (xs := ns.map V.int) (fun i σ H' => H' = upd H1 p (.lst (primes.map V.int)) ∧ ∃ (y : Int) (v4 : Option V), y.natAbs < 2 ^ 64 ∧ σ = [some (.ref d), some (.int f), some (.int pr), some (.int y), v4])
        ⟨rfl, _, v4, ?_, rfl⟩ (fun i σ H' _ ⟨e, _⟩ => by rw [e]; exact SqL.of hc2) ?_ ?_⟩
      · omega
      · rintro j x σ H' hx ⟨rfl, y, v4, hy, rfl⟩
        obtain ⟨z, rfl⟩ : ∃ z : Int, x = V.int z := by
          obtain ⟨z, hz, e⟩ := List.mem_map.mp (List.mem_of_getElem? hx)
          exact ⟨z, e.symm⟩
        refine ⟨_, rfl, y, 48271, rfl, rfl, .inr ⟨by decide, by decide⟩, _, rfl, _, z, rfl, rfl, _, rfl, _, pr, rfl, rfl, (by omega), ?_⟩
        have r1 := fmod_lo (a := y * 48271 + z) (b := pr) (by omega)
        have r2 := fmod_hi (a := y * 48271 + z) (b := pr) (by omega)
        exact ⟨rfl, _, some (.int z), by omega, rfl⟩
      · rintro σ H' ⟨rfl, y, v4, hy, rfl⟩
        refine ⟨_, rfl, f, 2147483647, rfl, rfl, .inr ⟨by decide, by decide⟩, _, rfl, y, 5, rfl, rfl, ⟨by decide, by decide, hy⟩, _, rfl, _, pr, rfl, rfl, (by omega), _, _, rfl, rfl, ?_⟩
        exact ⟨rfl, _, some (.int pr), some (.int y), v4, rfl⟩
    · rintro σ H' ⟨rfl, f, v2, v3, v4, rfl⟩
      refine ⟨_, rfl, ?_⟩
      refine k f _ ⟨⟨gs, l, t + 1, hd2, hg2, by omega, by omega⟩, hc2, ncd, ncg⟩ (k1.trans (Kp.new hp))
/-! ### _law_take -/
def spTake (ns : List Int) : Sp := fun vs H Q _ => ∃ (d g c : Addr) (b : Nat) (z : Int), vs = [.ref d, .int z] ∧ Dw ns d g c b H ∧ b ≤ 1000000000 ∧ 0 < z ∧ z ≤ 1000000000 ∧
  ∀ (r : Int) (H' : Hp), 0 ≤ r → r < z → Dw ns d g c (b + 1) H' → Kp d g H H' → Q (.int r) H'
theorem scTake : FnScope ["_law_state", "_law_size", "_law_found"] ["_law_state", "_law_size"] (defScope sTake) := ⟨rfl, rfl, rfl, by decide +kernel, rfl, by decide +kernel, by decide +kernel⟩
theorem ok_take {f fM : Addr} {fd fdM : FuncData} (ns : List Int) (F : Fun K "_law_take" "_law_take" sTake f fd) (GM : FnOk P w K mg base CX0 1 fM fdM ["_law_state"] (spMixed ns)) (bM : Binds K fdM ["_law_state"] []) (kM : PySem.W.keepIn K (.ref fM) = true) (mM : mg "_law_mixed" = some (.ref fM)) :
    FnOk P w K mg base CX0 2 f fd ["_law_state", "_law_size"] (spTake ns) := by
  refine F.ok scTake (fun vs H Q E h => ?_) (fun cdv A outer s H vs Q E hr h => ?_)
  · obtain ⟨d, g, c, b, z, rfl, _⟩ := h
    rfl
  · obtain ⟨d, g, c, b, z, rfl, D, hb, z0, z1, k⟩ := h
    have hu := hu_of hr
    have nd := scTake.nd
    refine ⟨_, pss_cons (ps_if (pt_cmpR op_eq (pe_dget hu (pv 0) pe_str (fun _ _ => rfl)) pe_int (nomark _))
        (pss_one (ps_dput hu (pv 0) pe_str (pe_ifExp (pt_cmpR (op_neD hr.units) (pe_dget hu (pv 0) pe_str (fun _ _ => rfl)) (pe_lst pa_nil) (nomark _))
          (pe_bm PySem.F.plainAttrs_list PySem.F.slot_list_pop PySem.F.type_list_pop mt_popAt (pe_dget hu (pv 0) pe_str (fun _ _ => rfl)) (pa_cons pe_int pa_nil))
          (pe_call GM hr rfl mM kM bM .nil pass0 (pa_cons (pv 0) pa_nil))) rfl)) pss_nil)
      (pss_cons (ps_set (i := 2) nd rfl (.inl rfl) (pe_op op_modN (pe_dget hu (pv 0) pe_str (fun _ _ => rfl)) (pv 1)))
      (pss_cons (ps_dput hu (pv 0) pe_str (pe_op op_fdivN (pe_dget hu (pv 0) pe_str (fun _ _ => rfl)) (pv 1)) rfl)
      (pss_one (ps_ret (pv 2))))), ?_⟩
    -- behind the if: the state with a number left
    have tail : ∀ (H1 : Hp), Dw ns d g c (b + 1) H1 → Kp d g H H1 → tSeq (tAsg (tOp (rI (fun _ j => j ≠ 0) fun i j => .int (i.fmod j)) (tDGet (tVar 0) (tC (.str "left"))) (tVar 1)) (gName 2))
        (tSeq (sDPut (tVar 0) (tC (.str "left")) (tOp (rI CDivN fun i j => .int (i.fdiv j)) (tDGet (tVar 0) (tC (.str "left"))) (tVar 1))) (tRet (tVar 2))) { nx := fun _ H' => Q .non H', rt := Q } [some (.ref d), some (.int z), none] H1 := by
      intro H1 D1 k1
      obtain ⟨⟨gs, l, t, hd, hg, t0, tb⟩, hc, ncd, ncg⟩ := id D1
      have ndg : g ≠ d := ne_of hg hd (by intro z; cases z)
      refine ⟨_, rfl, d, _, rfl, get_l hd, _, rfl, l, z, rfl, rfl, (by omega), ?_⟩
      refine ⟨_, rfl, d, _, rfl, get_l hd, _, rfl, l, z, rfl, rfl, ⟨by omega, by omega⟩, _, rfl, d, _, rfl, put_l hd, _, rfl, ?_⟩
      refine k _ _ (fmod_lo z0) (fmod_hi z0) ⟨⟨gs, _, t, upd_same, by rw [upd_ne ndg]; exact hg, t0, tb⟩, by rw [upd_ne ncd]; exact hc, ncd, ncg⟩ (k1.trans Kp.at_d)
    obtain ⟨⟨gs, l, t, hd, hg, t0, tb⟩, hc, ncd, ncg⟩ := id D
    have ndg : g ≠ d := ne_of hg hd (by intro z; cases z)
    refine ⟨_, rfl, d, _, rfl, get_l hd, rfl, _, rfl, ?_⟩
    refine ite2 (fun e => ?_) (fun e => tail H (D.mono (by omega)) Kp.refl)
    refine ⟨_, rfl, d, _, rfl, get_g hd, by show 0 ≤ sizeLine; decide, fun p hp => ?_⟩
    have hd1 := new_same (o := .lst []) hp _ _ hd
    have hg1 := new_same (o := .lst []) hp _ _ hg
    have hc1 := new_same (o := .lst []) hp _ _ hc
    refine ⟨_, _, .lst (SqL.of hg1) (dp_ints gs), .lst (SqL.of upd_same) .nil, shaped_ints gs, shaped_nil, _, rfl, ?_⟩
    rw [eqv_nil]
    cases gs with
    | nil =>
      refine iteF ?_
      refine ⟨_, rfl, d, g, c, b, rfl, D.new hp, hb, fun r H' D' k' => ?_⟩
      obtain ⟨⟨gs, l, t, hd', hg', t0, tb⟩, hc', ncd, ncg⟩ := id D'
      have ndg : g ≠ d := ne_of hg' hd' (by intro z; cases z)
      refine ⟨_, rfl, d, _, rfl, put_l hd', ?_⟩
      exact tail _ ⟨⟨gs, _, t, upd_same, by rw [upd_ne ndg]; exact hg', t0, tb⟩, by rw [upd_ne ncd]; exact hc', ncd, ncg⟩ (((Kp.new hp).trans k').trans Kp.at_d)
    | cons n r =>
      refine iteT ?_
      refine ⟨_, rfl, d, _, rfl, get_g hd1, .inl ⟨rfl, _, SqL.of hg1⟩, g, _, 0, 0, _, rfl, rfl, hg1, by decide, by decide, (ixN_seq (n := (List.map V.int (n :: r)).length) (i := 0) (j := 0) (by simp [ixN])).1, rfl, ?_⟩
      refine ⟨_, rfl, d, _, rfl, put_l (by rw [upd_ne ndg.symm]; exact hd1), ?_⟩
      refine tail _ ⟨⟨r, _, t, upd_same, by rw [upd_ne ndg, upd_same]; rfl, t0, by omega⟩, by rw [upd_ne ncd, upd_ne ncg]; exact hc1, ncd, ncg⟩ (((Kp.new hp).trans Kp.at_g).trans Kp.at_d)
/-! ### _law_pick, out of a list and out of a text -/
theorem scPick : FnScope ["_law_state", "_law_some"] ["_law_state", "_law_some"] (defScope sPick) := ⟨rfl, rfl, rfl, by decide +kernel, rfl, by decide +kernel, by decide +kernel⟩
/-- one of the items of a list, or one sign of a text -/
def spPick (K : PySem.W.Frag) (ns : List Int) : Sp := fun vs H Q _ => ∃ (d g c : Addr) (b : Nat), Dw ns d g c b H ∧ b ≤ 1000000000 ∧
  ((∃ (a : Addr) (xs : List V), vs = [.ref d, .ref a] ∧ H a = some (.lst xs) ∧ a ≠ d ∧ a ≠ g ∧ 0 < xs.length ∧ xs.length ≤ 1000000 ∧
    ∀ (x : V) (H' : Hp), x ∈ xs → Dw ns d g c (b + 1) H' → Kp d g H H' → Q x H') ∨
   (∃ z : Str, vs = [.ref d, .str z] ∧ 0 < z.length ∧ z.length ≤ 1000000 ∧ ∀ (x : Nat) (H' : Hp), x ∈ z.cps.toList → Dw ns d g c (b + 1) H' → Kp d g H H' → Q (.str ⟨#[x]⟩) H'))
theorem ok_pick {f fT : Addr} {fd fdT : FuncData} (ns : List Int) (F : Fun K "_law_pick" "_law_pick" sPick f fd) (GT : FnOk P w K mg base CX0 2 fT fdT ["_law_state", "_law_size"] (spTake ns)) (bT : Binds K fdT ["_law_state", "_law_size"] []) (kT : PySem.W.keepIn K (.ref fT) = true) (mT : mg "_law_take" = some (.ref fT))
    (ml : mg "len" = none) : FnOk P w K mg base CX0 3 f fd ["_law_state", "_law_some"] (spPick K ns) := by
  refine F.ok scPick (fun vs H Q E h => ?_) (fun cdv A outer s H vs Q E hr h => ?_)
  · obtain ⟨d, g, c, b, D, hb, ⟨a, xs, rfl, _⟩ | ⟨z, rfl, _⟩⟩ := h <;> rfl
  · obtain ⟨d, g, c, b, D, hb, h⟩ := h
    have hu := hu_of hr
    have nd := scPick.nd
    refine ⟨_, pss_one (ps_ret (pe_ix ix_seq (pv 1) (pe_call GT hr rfl mT kT bT .nil pass0 (pa_cons (pv 0) (pa_cons (pe_callB call_len rfl ml PySem.boot_len (pa_cons (pv 1) pa_nil)) pa_nil))) (fun _ _ => rfl))), ?_⟩
    rcases h with ⟨a, xs, rfl, ha, nad, nag, h0, h1, k⟩ | ⟨z, rfl, h0, h1, k⟩
    · refine ⟨_, rfl, _, rfl, _, rfl, _, _, rfl, .inl ⟨_, SqL.of ha, rfl⟩, d, g, c, b, _, rfl, D, hb, by omega, by omega, fun r H' r0 r1 D' k' => ?_⟩
      obtain ⟨v, hv, hm⟩ := at_int r0 r1
      exact .inl ⟨a, xs, r, v, rfl, rfl, SqL.of (k' a _ nad nag ha), hv, k v H' hm D' k'⟩
    · refine ⟨_, rfl, _, rfl, _, rfl, _, _, rfl, ⟨by rw [sizeLine_eq]; omega, rfl⟩, d, g, c, b, _, rfl, D, hb, by omega, by omega, fun r H' r0 r1 D' k' => ?_⟩
      have e : r = ((r.toNat : Nat) : Int) := by omega
      have hl : r.toNat < z.cps.toList.length := by
        have : z.cps.toList.length = z.length := by simp [Str.length]
        omega
      have q : atI z.cps.toList ((r.toNat : Nat) : Int) = some z.cps.toList[r.toNat] := atI_nat (List.getElem?_eq_getElem hl)
      rw [← e] at q
      exact .inr (.inr ⟨z, r, _, rfl, rfl, by rw [sizeLine_eq]; omega, q, k _ H' (List.getElem_mem hl) D' k'⟩)
/-! ### _law_begun -/
def spBegun (K : PySem.W.Frag) (ns : List Int) : Sp := fun vs H Q _ => ∃ (a : Addr), vs = [.ref a] ∧ SqL K H a (ns.map V.int) ∧ ns.length ≤ 63 ∧
  ∀ (d g c : Addr) (H' : Hp), Dw ns d g c 0 H' → (∀ b o, H b = some o → H' b = some o) → H d = none → H g = none → H c = none → Q (.ref d) H'
theorem scBegun : FnScope ["_law_script", "_law_great", "_law_cell"] ["_law_script"] (defScope sBegun) := ⟨rfl, rfl, rfl, by decide +kernel, rfl, by decide +kernel, by decide +kernel⟩
theorem ok_begun {f : Addr} {fd : FuncData} (ns : List Int) (F : Fun K "_law_begun" "_law_begun" sBegun f fd) (mli : mg "list" = none) : FnOk P w K mg base CX0 1 f fd ["_law_script"] (spBegun K ns) := by
  refine F.ok scBegun (fun vs H Q E h => ?_) (fun cdv A outer s H vs Q E hr h => ?_)
  · obtain ⟨a, rfl, _⟩ := h
    rfl
  · obtain ⟨a, rfl, hS, hl, k⟩ := h
    have hu := hu_of hr
    have nd := scBegun.nd
    refine ⟨_, pss_cons (ps_setLc (i := 1) (own := [("_law_cell", 2)]) (g := gName 2) rfl nd rfl rfl (sw_true rfl rfl rfl (by decide +kernel)) (pi_list (pv 0)) (blkOk_by (N := ["_law_script", "_law_great", "_law_cell"]) (sc := defScope sBegun) (by decide +kernel))
        (fun _ _ _ _ _ => pg_name (i := 2) nd rfl (.inl rfl)) (fun _ _ _ _ _ => pts_one (pt_cmpR op_ge (pv 2) (pe_op op_pow pe_int pe_int) (nomark _))) (fun _ _ _ _ _ => pe_op op_sub (pv 2) (pe_op op_pow pe_int pe_int)))
      (pss_one (ps_ret (pe_disp (pps_cons pe_str (pv 1) (pps_cons pe_str (pe_callTy call_list_of rfl mli (by decide +kernel) (pa_cons (pv 0) pa_nil)) (pps_cons pe_str pe_int (pps_cons pe_str pe_int pps_nil)))) (by rfl) (by rfl) (fun z => by cases z) (by decide)))), ?_⟩
    have keep0 : ∀ {H' : Hp} {g : Addr} {o : HO}, (∀ b o, H b = some o → H' b = some o) → H g = none → ∀ b u, H b = some u → upd H' g o b = some u := fun {H' g o} s hg b u e => by
      rw [upd_ne (ne_of_none e hg)]
      exact s b u e
    refine ⟨_, rfl, a, rfl, ⟨_, hS⟩, fun g hg => ?_⟩
    refine lc_list (K := K) (a := a) (xs := ns.map V.int) (fun i H' => (∀ b o, H b = some o → H' b = some o) ∧ ∃ gs : List Int, gs.length ≤ i ∧ H' g = some (.lst (gs.map V.int)))
      ⟨fun b o e => new_same hg b o e, [], Nat.le_refl _, upd_same⟩ (fun i H' _ ⟨s, _⟩ => Same.seq s hS) ?_ ?_
    · rintro i x H' hx ⟨s5, gs, hgl, hg'⟩
      obtain ⟨z, rfl⟩ : ∃ z : Int, x = V.int z := by
        obtain ⟨z, hz, e⟩ := List.mem_map.mp (List.mem_of_getElem? hx)
        exact ⟨z, e.symm⟩
      have hi : i < ns.length := by
        have := (List.getElem?_eq_some_iff.mp hx).1
        rw [List.length_map] at this
        exact this
      refine ⟨rfl, _, rfl, 10, 18, rfl, rfl, ⟨by decide, by decide, by decide⟩, _, _, rfl, rfl, _, rfl, ?_⟩
      refine ite2 (fun _ => ?_) (fun _ => ?_)
      · refine ⟨_, rfl, 10, 18, rfl, rfl, ⟨by decide, by decide, by decide⟩, _, _, rfl, rfl, _, hg', small1000 (by rw [List.length_map]; omega), keep0 s5 hg, gs ++ [z - 10 ^ (18 : Int).toNat], by rw [List.length_append]; show gs.length + 1 ≤ i + 1; omega, ?_⟩
        rw [upd_same, List.map_append]
        rfl
      · exact ⟨s5, gs, by omega, hg'⟩
    · rintro H1 ⟨s1, gs, hgl, hg1⟩ d hd
      refine ⟨_, rfl, _, rfl, a, _, rfl, .inl (Same.seq (new_same hd) (Same.seq s1 hS)), fun c hc => ?_⟩
      have ndc : c ≠ d := fun e => by rw [e, upd_same] at hc; cases hc
      have hd2 : (upd (upd H1 d (.dK [])) c (.lst (ns.map V.int))) d = some (.dK []) := by rw [upd_ne ndc.symm, upd_same]
      refine ⟨hd2, dk g c 0 0, rfl, (by show 4 ≤ 15; decide), ?_⟩
      rw [merge_dk]
      have ngd : g ≠ d := fun e => by rw [← e, hg1] at hd; cases hd
      have hg2 : upd H1 d (.dK []) g = some (.lst (gs.map V.int)) := by rw [upd_ne ngd]; exact hg1
      have ngc : g ≠ c := fun e => by rw [← e, hg2] at hc; cases hc
      have H1d : H d = none := by
        cases e : H d with
        | none => rfl
        | some u => rw [s1 d u e] at hd; cases hd
      have H1c : H c = none := by
        cases e : H c with
        | none => rfl
        | some u => rw [new_same hd c u (s1 c u e)] at hc; cases hc
      refine k d g c _ ⟨⟨gs, 0, 0, upd_same, by rw [upd_ne ngd, upd_ne ngc]; exact hg2, by omega, by omega⟩, by rw [upd_ne ndc, upd_same], ndc, ngc.symm⟩ (fun b o e => ?_) H1d hg H1c
      rw [upd_ne (ne_of_none e H1d), upd_ne (ne_of_none e H1c), upd_ne (ne_of_none e H1d)]
      exact s1 b o e
end
end Lw

set_option Elab.async false
set_option linter.all false
set_option maxRecDepth 100000
set_option maxHeartbeats 4000000
namespace Lw
open PySem PySem.Spec PyProof.Rows L2 Gn Gr Gk
abbrev sString : Stmt := top 12
abbrev sNumber : Stmt := top 13
section
variable {P : Program} {w : World} {K : PySem.W.Frag} {mg : Str → Option Value} {base : Heap}
/-- the two defs that draw, as they stand -/
structure Draw (P : Program) (w : World) (K : PySem.W.Frag) (mg : Str → Option Value) (base : Heap) (ns : List Int) (fT fP : Addr) (fdT fdP : FuncData) : Prop where
  GT : FnOk P w K mg base CX0 2 fT fdT ["_law_state", "_law_size"] (spTake ns)
  bT : Binds K fdT ["_law_state", "_law_size"] []
  kT : PySem.W.keepIn K (.ref fT) = true
  mT : mg "_law_take" = some (.ref fT)
  GP : FnOk P w K mg base CX0 3 fP fdP ["_law_state", "_law_some"] (spPick K ns)
  bP : Binds K fdP ["_law_state", "_law_some"] []
  kP : PySem.W.keepIn K (.ref fP) = true
  mP : mg "_law_pick" = some (.ref fP)
  len : mg "len" = none
  range : mg "range" = none
/-! ### _law_string -/
def spString (ns : List Int) : Sp := fun vs H Q _ => ∃ (d g c : Addr) (b : Nat), vs = [.ref d] ∧ Dw ns d g c b H ∧ b ≤ 900000000 ∧
  ∀ (x : Str) (H' : Hp), Asc 19 x → Dw ns d g c (b + 20) H' → Kp d g H H' → Q (.str x) H'
theorem scString : FnScope ["_law_state", "_law_letters", "_law_found", "_law_k", "_law_at", "_law_way", "_law_sign"] ["_law_state"] (defScope sString) := ⟨rfl, rfl, rfl, by decide +kernel, rfl, by decide +kernel, by decide +kernel⟩
theorem letters_asc : ∀ c ∈ ("abcdefghijklmnopqrstuvwxyz" : Str).cps.toList, c < 128 := by decide +kernel
theorem signs_asc : ∀ x ∈ ([.str "A", .str "Z", .str "0", .str " ", .str "-", .str "_", .str "{", .str ".", .str "\n", .str "z", .str "a"] : List V), ∃ y, x = .str y ∧ Asc 1 y := by
  intro x hx
  simp only [List.mem_cons, List.not_mem_nil, or_false] at hx
  rcases hx with rfl | rfl | rfl | rfl | rfl | rfl | rfl | rfl | rfl | rfl | rfl <;> exact ⟨_, rfl, by decide +kernel, by decide +kernel⟩
theorem sizes_of : ∀ x ∈ ([.int 0, .int 1, .int 2, .int 7, .int 8, .int 8, .int 9] : List V), ∃ j : Int, x = .int j ∧ 0 ≤ j ∧ j ≤ 9 := by
  intro x hx
  simp only [List.mem_cons, List.not_mem_nil, or_false] at hx
  rcases hx with rfl | rfl | rfl | rfl | rfl | rfl | rfl <;> exact ⟨_, rfl, by decide, by decide⟩
theorem ok_string {f fT fP : Addr} {fd fdT fdP : FuncData} (ns : List Int) (F : Fun K "_law_string" "_law_string" sString f fd) (R : Draw P w K mg base ns fT fP fdT fdP) : FnOk P w K mg base CX0 4 f fd ["_law_state"] (spString ns) := by
  refine F.ok scString (fun vs H Q E h => ?_) (fun cdv A outer s H vs Q E hr h => ?_)
  · obtain ⟨d, g, c, b, rfl, _⟩ := h
    rfl
  · obtain ⟨d, g, c, b, rfl, D, hb, k⟩ := h
    have hu := hu_of hr
    have nd := scString.nd
    have hr2 : Room 2 _ := hr.mono (by decide)
    refine ⟨_, pss_cons (ps_set (i := 1) nd rfl (.inl rfl) pe_str)
      (pss_cons (ps_set (i := 2) nd rfl (.inl rfl) pe_str)
      (pss_cons (ps_for PassesOwn.never rfl (pi_range1 rfl R.range (pa_cons (pe_call R.GP hr rfl R.mP R.kP R.bP .nil pass0 (pa_cons (pv 0) (pa_cons (pe_lst (pa_cons pe_int (pa_cons pe_int (pa_cons pe_int (pa_cons pe_int (pa_cons pe_int (pa_cons pe_int (pa_cons pe_int pa_nil)))))))) pa_nil))) pa_nil)) (pg_name (i := 3) nd rfl (.inl rfl))
        (pss_one (ps_set (i := 2) nd rfl (.inl rfl) (pe_op op_add_str (pv 2) (pe_call R.GP hr rfl R.mP R.kP R.bP .nil pass0 (pa_cons (pv 0) (pa_cons (pv 1) pa_nil)))))))
      (pss_cons (ps_par (i := 4) (j := 5) rfl nd rfl rfl (by decide) rfl rfl (pa_cons (pe_call R.GT hr2 rfl R.mT R.kT R.bT .nil pass0 (pa_cons (pv 0) (pa_cons (pe_op op_add (pe_callB call_len_str rfl R.len PySem.boot_len (pa_cons (pv 2) pa_nil)) pe_int) pa_nil)))
          (pa_cons (pe_call R.GT hr2 rfl R.mT R.kT R.bT .nil pass0 (pa_cons (pv 0) (pa_cons pe_int pa_nil))) pa_nil)) (by rfl))
      (pss_cons (ps_if (pt_cmpR op_eq (pv 5) pe_int (nomark _))
        (pss_cons (ps_set (i := 6) nd rfl (.inl rfl) (pe_call R.GP hr rfl R.mP R.kP R.bP .nil pass0 (pa_cons (pv 0) (pa_cons (pe_lst (pa_cons pe_str (pa_cons pe_str (pa_cons pe_str (pa_cons pe_str (pa_cons pe_str (pa_cons pe_str (pa_cons pe_str (pa_cons pe_str (pa_cons pe_str (pa_cons pe_str (pa_cons pe_str pa_nil)))))))))))) pa_nil))))
        (pss_one (ps_ret (pe_op op_add_str (pe_op op_add_str (pe_slice sl_str (pv 2) po_none (po_some (pv 4))) (pv 6))
          (pe_slice sl_str (pv 2) (po_some (pe_op op_add (pv 4) (pe_call R.GT hr2 rfl R.mT R.kT R.bT .nil pass0 (pa_cons (pv 0) (pa_cons pe_int pa_nil))))) po_none))))) pss_nil)
      (pss_one (ps_ret (pv 2))))))), ?_⟩
    refine ⟨_, rfl, by show 7 ≤ sizeLine; decide, fun p hp => ?_⟩
    have D1 := D.new (o := .lst [.int 0, .int 1, .int 2, .int 7, .int 8, .int 8, .int 9]) hp
    refine ⟨d, g, c, b, D1, by omega, .inl ⟨p, _, rfl, upd_same, D.nd hp, D.ng hp, by decide, by decide, fun x H1 hx D2 k2 => ?_⟩⟩
    obtain ⟨j, rfl, j0, j9⟩ := sizes_of x hx
    have k12 : Kp d g H H1 := (Kp.new hp).trans k2
    refine ⟨j, rfl, by omega, by omega, for_range (lo := 0) (n := j.toNat) (fun i σ H' => ∃ (x : Str) (v3 : Option V), σ = [some (.ref d), some (.str "abcdefghijklmnopqrstuvwxyz"), some (.str x), v3, none, none, none] ∧ Asc i x ∧ Dw ns d g c (b + 1 + i) H' ∧ Kp d g H H')
      ⟨_, none, rfl, ⟨Nat.le_refl _, fun c hc => absurd hc (by rw [show (Str.ofString "").cps.toList = [] by decide +kernel]; exact List.not_mem_nil)⟩, D2, k12⟩ ?_ ?_⟩
    · rintro i σ H' hi ⟨x, v3, rfl, hx, D3, k3⟩
      refine ⟨_, rfl, _, rfl, _, rfl, d, g, c, _, D3, by omega, .inr ⟨_, rfl, by decide +kernel, by decide +kernel, fun y H2 hy D4 k4 => ?_⟩⟩
      have hx1 := hx.1
      refine ⟨_, _, rfl, rfl, ?_, ?_⟩
      · show x.length + 1 ≤ sizeLine
        rw [sizeLine_eq]
        omega
      · exact ⟨_, _, rfl, hx.app (Asc.one (letters_asc y hy)), D4, k3.trans k4⟩
    · rintro σ H' ⟨x, v3, rfl, hx, D3, k3⟩
      have hx1 := hx.1
      have hx10 : Asc 9 x := hx.mono (by omega)
      refine ⟨_, rfl, _, rfl, x, rfl, by rw [sizeLine_eq]; omega, _, _, rfl, rfl, d, g, c, _, _, rfl, D3, by omega, by omega, by omega, fun r H2 r0 r1 D4 k4 => ?_⟩
      refine ⟨_, rfl, d, g, c, _, _, rfl, D4, by omega, by omega, by omega, fun r' H3 r0' r1' D5 k5 => ⟨_, _, rfl, ?_⟩⟩
      refine ⟨_, rfl, rfl, _, rfl, ?_⟩
      refine ite2 (fun _ => ?_) (fun _ => ⟨_, rfl, k x H3 (hx10.mono (by omega)) (D5.mono (by omega)) ((k3.trans k4).trans k5)⟩)
      refine ⟨_, rfl, by show 11 ≤ sizeLine; decide, fun p2 hp2 => ?_⟩
      refine ⟨d, g, c, _, D5.new hp2, by omega, .inl ⟨p2, _, rfl, upd_same, D5.nd hp2, D5.ng hp2, by decide, by decide, fun x2 H4 hx2 D6 k6 => ?_⟩⟩
      obtain ⟨y, rfl, hy⟩ := signs_asc x2 hx2
      have a1 : Asc 9 (cutS x none (some r)) := hx10.cut _ _
      have a1' := a1.1
      have hy1 := hy.1
      refine ⟨_, rfl, _, rfl, r, rfl, x, rfl, by rw [sizeLine_eq]; omega, _, rfl, _, _, rfl, rfl, by rw [sizeLine_eq]; omega, _, rfl, _, rfl, _, rfl, d, g, c, _, _, rfl, D6, by omega, by omega, by omega, fun r2 H5 q0 q1 D7 k7 => ?_⟩
      have a2 : Asc 9 (cutS x (some (r + r2)) none) := hx10.cut _ _
      have a2' := a2.1
      have a3 := (a1.app hy).1
      refine ⟨_, _, rfl, rfl, _, rfl, x, rfl, by rw [sizeLine_eq]; omega, _, _, rfl, rfl, by rw [sizeLine_eq]; omega, ?_⟩
      exact k _ H5 ((a1.app hy).app a2) (D7.mono (by omega)) ((((k3.trans k4).trans k5).trans (Kp.new hp2)).trans (k6.trans k7))
/-! ### _law_number -/
def spNumber (ns : List Int) : Sp := fun vs H Q _ => ∃ (d g c : Addr) (b : Nat), vs = [.ref d] ∧ Dw ns d g c b H ∧ b ≤ 900000000 ∧
  ∀ (x : Int) (H' : Hp), x.natAbs < 10 ^ 20 → Dw ns d g c (b + 20) H' → Kp d g H H' → Q (.int x) H'
theorem scNumber : FnScope ["_law_state", "_law_near"] ["_law_state"] (defScope sNumber) := ⟨rfl, rfl, rfl, by decide +kernel, rfl, by decide +kernel, by decide +kernel⟩
def nears : List V := [.int 0, .int 1, .int (10 ^ (9 : Int).toNat), .int (2 * 10 ^ (9 : Int).toNat), .int (10 ^ (18 : Int).toNat), .int (- 10 ^ (9 : Int).toNat)]
theorem near_of : ∀ x ∈ nears, ∃ j : Int, x = .int j ∧ j.natAbs < 10 ^ 19 := by
  intro x hx
  unfold nears at hx
  simp only [List.mem_cons, List.not_mem_nil, or_false] at hx
  rcases hx with rfl | rfl | rfl | rfl | rfl | rfl <;> exact ⟨_, rfl, by decide +kernel⟩
theorem ok_number {f fT fP : Addr} {fd fdT fdP : FuncData} (ns : List Int) (F : Fun K "_law_number" "_law_number" sNumber f fd) (R : Draw P w K mg base ns fT fP fdT fdP) : FnOk P w K mg base CX0 4 f fd ["_law_state"] (spNumber ns) := by
  refine F.ok scNumber (fun vs H Q E h => ?_) (fun cdv A outer s H vs Q E hr h => ?_)
  · obtain ⟨d, g, c, b, rfl, _⟩ := h
    rfl
  · obtain ⟨d, g, c, b, rfl, D, hb, k⟩ := h
    have hu := hu_of hr
    have nd := scNumber.nd
    have hr2 : Room 2 _ := hr.mono (by decide)
    refine ⟨_, pss_cons (ps_set (i := 1) nd rfl (.inl rfl) (pe_call R.GP hr rfl R.mP R.kP R.bP .nil pass0 (pa_cons (pv 0) (pa_cons (pe_lst (pa_cons pe_int (pa_cons pe_int (pa_cons (pe_op op_pow pe_int pe_int) (pa_cons (pe_op op_mul pe_int (pe_op op_pow pe_int pe_int)) (pa_cons (pe_op op_pow pe_int pe_int) (pa_cons (pe_un un_neg (pe_op op_pow pe_int pe_int)) pa_nil))))))) pa_nil))))
      (pss_one (ps_ret (pe_op op_add (pv 1) (pe_call R.GP hr rfl R.mP R.kP R.bP .nil pass0 (pa_cons (pv 0) (pa_cons (pe_lst (pa_cons pe_int (pa_cons pe_int (pa_cons (pe_un un_neg pe_int) (pa_cons (pe_call R.GT hr2 rfl R.mT R.kT R.bT .nil pass0 (pa_cons (pv 0) (pa_cons (pe_op op_pow pe_int pe_int) pa_nil))) pa_nil))))) pa_nil)))))), ?_⟩
    refine ⟨_, rfl, 10, 9, rfl, rfl, ⟨by decide, by decide, by decide⟩, 10, 9, rfl, rfl, ⟨by decide, by decide, by decide⟩, 2, _, rfl, rfl, .inl ⟨by decide, by decide⟩, 10, 18, rfl, rfl, ⟨by decide, by decide, by decide⟩, 10, 9, rfl, rfl, ⟨by decide, by decide, by decide⟩, _, rfl, by show 6 ≤ sizeLine; decide, fun p hp => ?_⟩
    refine ⟨d, g, c, b, D.new hp, by omega, .inl ⟨p, nears, rfl, upd_same, D.nd hp, D.ng hp, by decide, by decide, fun x H1 hx D1 k1 => ?_⟩⟩
    obtain ⟨j, rfl, hj⟩ := near_of x hx
    refine ⟨_, rfl, _, rfl, _, rfl, _, rfl, 10, 9, rfl, rfl, ⟨by decide, by decide, by decide⟩, d, g, c, _, _, rfl, D1, by omega, by decide, by decide, fun r H2 r0 r1 D2 k2 => ?_⟩
    refine ⟨by show 4 ≤ sizeLine; decide, fun p2 hp2 => ?_⟩
    refine ⟨d, g, c, _, D2.new hp2, by omega, .inl ⟨p2, _, rfl, upd_same, D2.nd hp2, D2.ng hp2, by show 0 < 4; decide, by show 4 ≤ 1000000; decide, fun x H3 hx D3 k3 => ?_⟩⟩
    have e9 : (10 : Int) ^ (9 : Int).toNat = 1000000000 := by decide +kernel
    obtain ⟨i, rfl, hi⟩ : ∃ i : Int, x = .int i ∧ i.natAbs < 10 ^ 19 := by
      simp only [List.mem_cons, List.not_mem_nil, or_false] at hx
      rw [e9] at r1
      rcases hx with rfl | rfl | rfl | rfl
      · exact ⟨_, rfl, by decide⟩
      · exact ⟨_, rfl, by decide⟩
      · exact ⟨_, rfl, by decide⟩
      · exact ⟨_, rfl, by omega⟩
    refine ⟨_, _, rfl, rfl, ?_⟩
    exact k _ H3 (by omega) (D3.mono (by omega)) ((((Kp.new hp).trans k1).trans k2).trans ((Kp.new hp2).trans k3))
end
end Lw

set_option Elab.async false
set_option linter.all false
set_option maxRecDepth 100000
set_option maxHeartbeats 4000000
namespace Lw
open PySem PySem.Spec PyProof.Rows L2 Gn Gr Gk
abbrev sValue : Stmt := top 14
abbrev nValue : List Str := ["_law_state", "_law_height", "_law_way", "_law_inner", "_law_k", "_law_at", "_law_one"]
section
variable {P : Program} {w : World} {K : PySem.W.Frag} {mg : Str → Option Value} {base : Heap}
/-! ### _law_value, m calls of itself within one another at most -/
def spV (ns : List Int) (m : Nat) : Sp := fun vs H Q _ => ∃ (d g c : Addr) (b h : Nat), vs = [.ref d, .int (h : Nat)] ∧ Dw ns d g c b H ∧ h + 1 ≤ m ∧ b + 25 * 4 ^ h ≤ 800000000 ∧
  ∀ (v : V) (x : PyData) (H' : Hp), OkT h x → Dr (Nw H H') v x → Dw ns d g c (b + 25 * 4 ^ h) H' → Kp d g H H' → Q v H'
theorem scValue : FnScope nValue ["_law_state", "_law_height"] (defScope sValue) := ⟨rfl, rfl, rfl, by decide +kernel, rfl, by decide +kernel, by decide +kernel⟩
theorem value_none {f : Addr} {fd : FuncData} (ns : List Int) : FnOk P w K mg base CX0 4 f fd ["_law_state", "_law_height"] (spV ns 0) := by
  have no : ∀ vs H Q E, ¬ spV ns 0 vs H Q E := fun vs H Q E h => by
    obtain ⟨d, g, c, b, h, _, _, h1, _⟩ := h
    omega
  exact ⟨fun vs H Q E h => absurd h (no vs H Q E), fun A outer s H args us vs Q E _ _ _ _ h => absurd h (no vs H Q E)⟩
theorem dr_int {H : Hp} {i : Int} : Dr H (.int i) (.int i) := .int i
theorem ok_value {m : Nat} {f fT fP fS fN : Addr} {fd fdT fdP fdS fdN : FuncData} (ns : List Int) (F : Fun K "_law_value" "_law_value" sValue f fd) (R : Draw P w K mg base ns fT fP fdT fdP)
    (GS : FnOk P w K mg base CX0 4 fS fdS ["_law_state"] (spString ns)) (bS : Binds K fdS ["_law_state"] []) (kS : PySem.W.keepIn K (.ref fS) = true) (mS : mg "_law_string" = some (.ref fS))
    (GN : FnOk P w K mg base CX0 4 fN fdN ["_law_state"] (spNumber ns)) (bN : Binds K fdN ["_law_state"] []) (kN : PySem.W.keepIn K (.ref fN) = true) (mN : mg "_law_number" = some (.ref fN))
    (GV : FnOk P w K mg base CX0 (4 + m) f fd ["_law_state", "_law_height"] (spV ns m)) (bV : Binds K fd ["_law_state", "_law_height"] []) (mV : mg "_law_value" = some (.ref f))
    (mtu : mg "tuple" = none) (mdi : mg "dict" = none) (men : mg "enumerate" = none) (mst : mg "str" = none) :
    FnOk P w K mg base CX0 (4 + (m + 1)) f fd ["_law_state", "_law_height"] (spV ns (m + 1)) := by
  refine F.ok scValue (fun vs H Q E h => ?_) (fun cdv A outer s H vs Q E hr h => ?_)
  · obtain ⟨d, g, c, b, h, rfl, _⟩ := h
    rfl
  · obtain ⟨d, g, c, b, h, rfl, D, hm, hb, k⟩ := h
    have hu := hu_of hr
    have nd := scValue.nd
    have hr : Room (4 + m) _ := hr
    have hr2 : Room 2 _ := hr.mono (by omega)
    have hr3 : Room 3 _ := hr.mono (by omega)
    have hr4 : Room 4 _ := hr.mono (by omega)
    have kpV := F.kp
    refine ⟨_, pss_cons (ps_set (i := 2) nd rfl (.inl rfl) (pe_call R.GT hr2 rfl R.mT R.kT R.bT .nil pass0 (pa_cons (pv 0) (pa_cons pe_int pa_nil))))
      (pss_cons (ps_if (pt_cmpR op_lt (pv 2) pe_int (nomark _)) (pss_one (ps_ret (pe_call GS hr4 rfl mS kS bS .nil pass0 (pa_cons (pv 0) pa_nil)))) pss_nil)
      (pss_cons (ps_if (PW.pt (pw_or (pt_cmpR op_lt (pv 2) pe_int (nomark _)) (pw_or1 (pt_cmpR op_eq (pv 1) pe_int (nomark _))))) (pss_one (ps_ret (pe_call GN hr4 rfl mN kN bN .nil pass0 (pa_cons (pv 0) pa_nil)))) pss_nil)
      (pss_cons (ps_if (pt_cmpR op_eq (pv 2) pe_int (nomark _)) (pss_one (ps_ret (pe_call R.GP hr3 rfl R.mP R.kP R.bP .nil pass0 (pa_cons (pv 0) (pa_cons (pe_lst (pa_cons pe_non (pa_cons pe_bl (pa_cons pe_bl (pa_cons (pe_tup pa_nil) (pa_cons (pe_lst pa_nil) (pa_cons pe_dnewK (pa_cons pe_str (pa_cons pe_str (pa_cons pe_str pa_nil)))))))))) pa_nil))))) pss_nil)
      (pss_cons (ps_setLc (i := 3) (own := [("_law_k", 4)]) (g := gName 4) (tt := tYes) rfl nd rfl rfl (sw_true rfl rfl rfl (by decide +kernel)) (pi_range1 rfl R.range (pa_cons (pe_call R.GT hr2 rfl R.mT R.kT R.bT .nil pass0 (pa_cons (pv 0) (pa_cons pe_int pa_nil))) pa_nil)) (blkOk_by (N := nValue) (sc := defScope sValue) (by decide +kernel))
        (fun _ _ _ _ _ => pg_name (i := 4) nd rfl (.inl rfl)) (fun _ _ _ _ _ => pts_nil) (fun _ _ _ _ _ => pe_call GV hr rfl mV kpV bV .nil pass0 (pa_cons (pv 0) (pa_cons (pe_op op_sub (pv 1) pe_int) pa_nil))))
      (pss_one (ps_ret (pe_ix ix_list (pe_lst (pa_cons (pv 3) (pa_cons (pe_callTy call_tuple_of rfl mtu (by decide +kernel) (pa_cons (pv 3) pa_nil)) (pa_cons (pe_callTy (call_dictP rfl) rfl mdi (by decide +kernel) (pa_cons
          (pe_lc (own := [("_law_at", 5), ("_law_one", 6)]) (g := gTup K 2 (gCons (gName 5) (gCons (gName 6) gNil))) (tt := tYes) rfl nd (pi_enum rfl men (pa_cons (pv 3) pa_nil)) (blkOk_by (N := nValue) (sc := defScope sValue) (by decide +kernel))
            (fun _ _ _ _ _ => by exact (pg_tup rfl (pgs_cons (pg_name (i := 5) nd rfl (.inl rfl)) (pgs_cons (pg_name (i := 6) nd rfl (.inl rfl)) pgs_nil)))) (fun _ _ _ _ _ => pts_nil) (fun _ _ _ _ _ => pe_tup (pa_cons (pe_callTy call_str_int rfl mst (by decide +kernel) (pa_cons (pv 5) pa_nil)) (pa_cons (pv 6) pa_nil)))) pa_nil)) pa_nil)))) (pe_op op_sub (pv 2) pe_int) (fun _ _ => rfl)))))))), ?_⟩
    have p1 := pow_pos4 h
    refine ⟨_, rfl, d, g, c, b, _, rfl, D, by omega, by decide, by decide, fun r H1 r0 r1 D1 k1 => ?_⟩
    refine ⟨_, rfl, _, _, rfl, rfl, _, rfl, ?_⟩
    refine ite2 (fun _ => ?_) (fun n1 => ?_)
    · refine ⟨_, rfl, d, g, c, _, rfl, D1, by omega, fun x H2 hx D2 k2 => ?_⟩
      exact k _ _ H2 (okT_str hx) (.str x) (D2.mono (by omega)) (k1.trans k2)
    have n1' : 3 ≤ r := by
      have := of_decide_eq_false (Bool.eq_false_iff.mpr n1)
      omega
    have num : (tRet (tCall (spNumber ns) [] E0 (tCons (tVar 0) tNil))) { nx := fun _ H' => Q .non H', rt := Q } [some (.ref d), some (.int (h : Nat)), some (.int r), none, none, none, none] H1 := by
      refine ⟨_, rfl, d, g, c, _, rfl, D1, by omega, fun x H2 hx D2 k2 => ?_⟩
      exact k _ _ H2 (okT_of (ok_int hx) fun s e => nomatch e) (.int x) (D2.mono (by omega)) (k1.trans k2)
    refine ⟨_, rfl, _, _, rfl, rfl, _, rfl, ?_⟩
    refine ite2 (fun _ => num) (fun n2 => ?_)
    have n2' : 5 ≤ r := by
      have := of_decide_eq_false (Bool.eq_false_iff.mpr n2)
      omega
    refine ⟨_, rfl, rfl, _, rfl, ?_⟩
    refine ite2 (fun _ => num) (fun n3 => ?_)
    have n3' : h ≠ 0 := fun e => by
      have := of_decide_eq_false (Bool.eq_false_iff.mpr n3)
      subst e
      exact this rfl
    obtain ⟨h, rfl⟩ : ∃ h', h = h' + 1 := ⟨h - 1, by omega⟩
    have p4 := pow_s4 h
    have p5 := pow_pos4 h
    refine ⟨_, rfl, rfl, _, rfl, ?_⟩
    refine ite2 (fun _ => ?_) (fun n4 => ?_)
    · refine ⟨_, rfl, Nat.zero_le _, fun q1 hq1 => ⟨Nat.zero_le _, fun q2 hq2 => ?_⟩⟩
      intro q3 hq3
      refine ⟨by show 9 ≤ sizeLine; decide, fun q hq => ?_⟩
      have Da := D1.new (o := .tup []) hq1
      have Db := Da.new (o := .lst []) hq2
      have Dc := Db.new (o := .dK []) hq3
      have ka : Kp d g H1 (upd H1 q1 (.tup [])) := Kp.new hq1
      have kb := ka.trans (Kp.new (o := .lst []) hq2)
      have kc := kb.trans (Kp.new (o := .dK []) hq3)
      have free1 : ∀ {p : Addr}, H1 p = none → H p = none := fun {p} e => D.free D1 k1 e
      have f1 := free1 hq1
      have f2 := free1 (D1.free Da ka hq2)
      have f3 := free1 (D1.free Db kb hq3)
      have nd1 := D1.nd hq1
      have ng1 := D1.ng hq1
      have nd2 := Da.nd hq2
      have ng2 := Da.ng hq2
      have nd3 := Db.nd hq3
      have ng3 := Db.ng hq3
      refine ⟨d, g, c, _, Dc.new hq, by omega, .inl ⟨q, _, rfl, upd_same, Dc.nd hq, Dc.ng hq, by show 0 < 9; decide, by show 9 ≤ 1000000; decide, fun x H2 hx D2 k2 => ?_⟩⟩
      have k3 := (Kp.new (d := d) (g := g) hq).trans k2
      have e3 := k3 q3 _ nd3 ng3 upd_same
      have e2 := k3 q2 _ nd2 ng2 (new_same hq3 _ _ upd_same)
      have e1 := k3 q1 _ nd1 ng1 (new_same hq3 _ _ (new_same hq2 _ _ upd_same))
      have fin : ∀ y, OkT (h + 1) y → Dr (Nw H H2) x y → Q x H2 := fun y hy z => k x y H2 hy z (D2.mono (by omega)) (k1.trans (kc.trans k3))
      simp only [List.mem_cons, List.not_mem_nil, or_false] at hx
      rcases hx with rfl | rfl | rfl | rfl | rfl | rfl | rfl | rfl | rfl
      · exact fin .none (okT_of (Ok.flat (by decide) (by decide) (by decide +kernel)) fun s e => nomatch e) .non
      · exact fin (.bool true) (okT_of (Ok.flat (by decide) (by decide) (by decide +kernel)) fun s e => nomatch e) (.bl _)
      · exact fin (.bool false) (okT_of (Ok.flat (by decide) (by decide) (by decide +kernel)) fun s e => nomatch e) (.bl _)
      · exact fin (.tuple []) (okT_of (ok_tuple (fun x hx => nomatch hx) (by decide)) fun s e => nomatch e) (.tup (nw_to f1 e1) .nil)
      · exact fin (.list []) (okT_of (ok_list (fun x hx => nomatch hx) (by decide)) fun s e => nomatch e) (.lst (nw_to f2 e2) .nil)
      · exact fin (.dict []) (okT_of (ok_dict (fun x hx => nomatch hx) (by decide)) fun s e => nomatch e) (.dct (nw_to f3 e3) .nil)
      · exact fin _ (okT_str ⟨by decide +kernel, by decide +kernel⟩) (.str _)
      · exact fin _ (okT_str ⟨by decide +kernel, by decide +kernel⟩) (.str _)
      · exact fin _ (okT_str ⟨by decide +kernel, by decide +kernel⟩) (.str _)
    · have n4' : r ≠ 5 := fun e => by
        have := of_decide_eq_false (Bool.eq_false_iff.mpr n4)
        subst e
        exact this rfl
      refine ⟨_, rfl, d, g, c, _, _, rfl, D1, by omega, by decide, by decide, fun n H2 n0 n3 D2 k2 => ⟨n, rfl, by omega, by omega, fun L hL => ?_⟩⟩
      have k12 := k1.trans k2
      have hLd := D2.nd hL
      have hLg := D2.ng hL
      refine lc_range (lo := 0) (n := n.toNat) (fun i H' => ∃ (vs : List V) (ds : List PyData), vs.length = i ∧ H' L = some (.lst vs) ∧ DrAll (Nw (upd H2 L (.lst [])) H') vs ds ∧ (∀ x ∈ ds, Ok h x) ∧ Dw ns d g c (b + 2 + i * (25 * 4 ^ h)) H' ∧ Kp d g H2 H')
        ⟨[], [], rfl, upd_same, .nil, fun x hx => (nomatch hx), by simpa using D2.new hL, Kp.new hL⟩ ?_ ?_
      · rintro i H3 hi ⟨vs, ds, hvl, hvs, hds, hok, D3, k3⟩
        have hi2 : i * (25 * 4 ^ h) ≤ 1 * (25 * 4 ^ h) := Nat.mul_le_mul_right _ (by omega)
        refine ⟨rfl, yes_of ?_⟩
        refine ⟨_, rfl, _, rfl, _, _, rfl, rfl, d, g, c, _, h, by show [V.ref d, V.int (((h + 1 : Nat) : Int) - 1)] = _; rw [show ((h + 1 : Nat) : Int) - 1 = ((h : Nat) : Int) by omega], D3, by omega, by omega, fun v x H4 hx hv D4 k4 => ?_⟩
        have eL := k4 L _ hLd hLg hvs
        have ndL : Dw ns d g c (b + 2 + i * (25 * 4 ^ h) + 25 * 4 ^ h) (upd H4 L (.lst (vs ++ [v]))) := D4.put eL hLd hLg (fun e => by
          rw [e] at hL
          exact ne_of_none D2.cl hL rfl)
        refine ⟨vs, eL, small1000 (by omega), vs ++ [v], ds ++ [x], by rw [List.length_append]; show vs.length + 1 = i + 1; omega, upd_same, ?_, ?_, ?_, ?_⟩
        · refine DrAll.snoc (DrAll.mono (fun a o z => ?_) _ _ hds) (Dr.mono (fun a o z => ?_) _ _ hv)
          · obtain ⟨z1, z2⟩ := nw_of z
            have na : a ≠ L := fun e => by rw [e, upd_same] at z1; cases z1
            have z3 : H2 a = none := by rw [upd_ne na] at z1; exact z1
            refine nw_to z1 ?_
            rw [upd_ne na]
            exact k4 a o (D2.nd z3) (D2.ng z3) z2
          · obtain ⟨z1, z2⟩ := nw_of z
            have na : a ≠ L := fun e => by rw [e, hvs] at z1; cases z1
            have z3 : H2 a = none := D2.free D3 k3 z1
            refine nw_to (by rw [upd_ne na]; exact z3) ?_
            rw [upd_ne na]
            exact z2
        · intro y hy
          rcases List.mem_append.mp hy with z | z
          · exact hok y z
          · rw [List.mem_singleton.mp z]
            exact hx.1
        · rw [Nat.succ_mul]
          exact ndL.mono (by omega)
        · exact fun a o n1 n2 e => by
            rw [upd_ne (ne_of_none e hL)]
            exact k4 a o n1 n2 (k3 a o n1 n2 e)
      · rintro H3 ⟨vs, ds, hvl, hvs, hds, hok, D3, k3⟩
        have hi2 : n.toNat * (25 * 4 ^ h) ≤ 2 * (25 * 4 ^ h) := Nat.mul_le_mul_right _ (by omega)
        have hv2 : vs.length ≤ 2 := by omega
        refine ⟨_, rfl, _, rfl, L, vs, rfl, .inl ⟨SqL.of hvs, fun q1 hq1 => ?_⟩⟩
        have hLa := new_same (o := .tup vs) hq1 _ _ hvs
        refine ⟨_, rfl, L, vs, rfl, SqL.of hLa, fun D' hD' => ?_⟩
        refine lc_it (walk_enum (K := K) (a := L) (xs := vs)) (fun i H' => ∃ ps : List Addr, H' D' = some (.lst (ps.map V.ref)) ∧ ps.length = i ∧ Paired (fun (p : Addr) (kv : Key × V) => H' p = some (.tup [kV kv.1, kv.2])) ps (tags 0 (vs.take i)) ∧ ∀ a o, upd H3 q1 (.tup vs) a = some o → H' a = some o)
          ⟨[], upd_same, rfl, .nil, fun a o e => new_same hD' a o e⟩ (fun i H' _ ⟨ps, _, _, _, z⟩ => SqL.of (z _ _ hLa)) ?_ ?_
        · rintro i x H5 H6 hi ⟨ps, hps, hpl, hpr, hk5⟩ ⟨T, x1, x2, rfl, hT, rfl, e1, e2⟩
          cases e1
          have e2 : vs[i]? = some x2 := e2
          refine ⟨T, _, rfl, SqT.of upd_same, rfl, _, _, rfl, _, _, rfl, rfl, rfl, yes_of ?_⟩
          refine ⟨_, rfl, _, rfl, ?_, _, rfl, by show 2 ≤ sizeLine; decide, fun q hq => ?_⟩
          · have : ((i : Nat) : Int).natAbs < 10 := by omega
            have z : ((i : Nat) : Int).natAbs.log2 ≤ ((i : Nat) : Int).natAbs := Nat.log2_le_self _
            omega
          · have nTD : D' ≠ T := ne_of_none hps hT
            have hq5 : H5 q = none := by
              cases z : H5 q with
              | none => rfl
              | some u => rw [new_same hT q u z] at hq; cases hq
            have nqD : D' ≠ q := ne_of_none hps hq5
            have all5 : ∀ a o, H5 a = some o → upd (upd H5 T (.tup [V.int (i : Nat), x2])) q (.tup [V.str (tagS i), x2]) a = some o := fun a o e => new_same hq a o (new_same hT a o e)
            refine ⟨ps.map V.ref, all5 _ _ hps, small1000 (by rw [List.length_map]; omega), ps ++ [q], ?_, by rw [List.length_append]; show ps.length + 1 = i + 1; omega, ?_, fun a o e => ?_⟩
            · rw [upd_same, List.map_append]
              rfl
            · have ei : i = (vs.take i).length := by rw [List.length_take]; omega
              have et : tags 0 (vs.take (i + 1)) = tags 0 (vs.take i) ++ [((Sum.inr (tagS i) : Key), x2)] := by
                rw [List.take_add_one, e2]
                show tags 0 (vs.take i ++ [x2]) = _
                rw [tags_snoc, ← ei, Nat.zero_add]
              rw [et]
              refine Paired.snoc (Paired.mapP hpr fun p kv z => ?_) ?_
              · have : p ≠ D' := ne_of z hps (by intro z; cases z)
                rw [upd_ne this]
                exact all5 _ _ z
              · rw [upd_ne nqD.symm, upd_same]
                rfl
            · have : a ≠ D' := ne_of_none e hD'
              rw [upd_ne this]
              exact all5 _ _ (hk5 a o e)
        · rintro H5 ⟨ps, hps, hpl, hpr, hk5⟩
          rw [List.take_length] at hpr
          refine ⟨D', ps, tags 0 vs, rfl, SqL.of hps, Paired.mapP hpr fun p kv z => SqT.of z, fun q2 hq2 => ?_⟩
          rw [tags_merge hv2]
          refine ⟨by show 3 ≤ sizeLine; decide, fun q3 hq3 => ?_⟩
          have up : ∀ a o, H3 a = some o → upd (upd H5 q2 (.dK (tags 0 vs))) q3 (.lst [.ref L, .ref q1, .ref q2]) a = some o := fun a o e => new_same hq3 a o (new_same hq2 a o (hk5 a o (new_same hq1 a o e)))
          have e1 := new_same (o := .lst [.ref L, .ref q1, .ref q2]) hq3 _ _ (new_same (o := .dK (tags 0 vs)) hq2 _ _ (hk5 _ _ upd_same))
          have e2 := new_same (o := .lst [.ref L, .ref q1, .ref q2]) hq3 _ _ (upd_same (H := H5) (a := q2) (o := .dK (tags 0 vs)))
          generalize hHl : upd (upd H5 q2 (.dK (tags 0 vs))) q3 (.lst [.ref L, .ref q1, .ref q2]) = Hl at up e1 e2 ⊢
          have Dl : Dw ns d g c (b + 2 + n.toNat * (25 * 4 ^ h)) Hl := D3.keep up
          have kl : Kp d g H Hl := (k12.trans k3).trans (Kp.of up)
          have hdl : DrAll (Nw H Hl) vs ds := DrAll.mono (fun a o z => by
            obtain ⟨z1, z2⟩ := nw_of z
            have na : a ≠ L := fun e => by rw [e, upd_same] at z1; cases z1
            rw [upd_ne na] at z1
            exact nw_to (D.free D2 k12 z1) (up a o z2)) _ _ hds
          have fL : H L = none := D.free D2 k12 hL
          have f3 : ∀ {p : Addr}, H3 p = none → H p = none := fun {p} e => D.free D3 (k12.trans k3) e
          have f1 : H q1 = none := f3 hq1
          have f2 : H q2 = none := f3 (by
            cases z : H3 q2 with
            | none => rfl
            | some u => rw [hk5 _ _ (new_same hq1 _ _ z)] at hq2; cases hq2)
          have fin : ∀ v y, OkT (h + 1) y → Dr (Nw H Hl) v y → Q v Hl := fun v y hy z => k v y Hl hy z (Dl.mono (by omega)) kl
          have dl2 : ds.length ≤ 2 := by rw [← hdl.length]; exact hv2
          refine ⟨_, rfl, r, 6, rfl, rfl, ?_⟩
          have hr3 : r = 6 ∨ r = 7 ∨ r = 8 := by omega
          rcases hr3 with rfl | rfl | rfl
          · exact ⟨q3, _, _, V.ref L, rfl, rfl, SqL.of (by rw [← hHl]; exact upd_same), rfl, fin _ _ (okT_of (ok_list hok dl2) fun s e => nomatch e) (.lst (nw_to fL (up _ _ hvs)) hdl)⟩
          · exact ⟨q3, _, _, V.ref q1, rfl, rfl, SqL.of (by rw [← hHl]; exact upd_same), rfl, fin _ _ (okT_of (ok_tuple hok dl2) fun s e => nomatch e) (.tup (nw_to f1 e1) hdl)⟩
          · exact ⟨q3, _, _, V.ref q2, rfl, rfl, SqL.of (by rw [← hHl]; exact upd_same), rfl, fin _ _ (okT_of (ok_dict (tagD_ok 0 (by omega) hok) (by rw [tagD_len]; exact dl2)) fun s e => nomatch e) (.dct (nw_to f2 e2) (tags_dr 0 hdl))⟩
end
end Lw

set_option Elab.async false
set_option linter.all false
set_option maxRecDepth 100000
set_option maxHeartbeats 4000000
namespace Lw
open PySem PySem.Spec PyProof.Rows L2 Gn Gr Gk
abbrev sInt : Stmt := top 4
abbrev sName : Stmt := top 5
abbrev sAmount : Stmt := top 6
abbrev sLName : Stmt := top 15
abbrev sLAmount : Stmt := top 16
section
variable {P : Program} {w : World} {K : PySem.W.Frag} {mg : Str → Option Value} {base : Heap}
/-- the built-in names, and the module's numbers and letters -/
structure Names (mg : Str → Option Value) : Prop where
  isi : mg "isinstance" = none
  str : mg "str" = none
  int : mg "int" = none
  bool : mg "bool" = none
  list : mg "list" = none
  len : mg "len" = none
  all : mg "all" = none
  letters : ∃ t, mg "LETTERS" = some (.str letters t)
  longest : ∃ t, mg "LONGEST" = some (.int 8 t)
  largest : ∃ t, mg "LARGEST" = some (.int 1000000000 t)
theorem scName : FnScope ["value", "letter"] ["value"] (defScope sName) := ⟨rfl, rfl, rfl, by decide +kernel, rfl, by decide +kernel, by decide +kernel⟩
theorem take_succ_map {α β : Type} {l : List α} {i : Nat} {c : α} (f : α → β) (h : l[i]? = some c) : (l.take (i + 1)).map f = (l.take i).map f ++ [f c] := by
  rw [List.take_add_one, h, List.map_append]
  rfl
theorem cps_at {z : Str} {i : Nat} {c : Nat} (h : z.cps[i]? = some c) : z.cps.toList[i]? = some c := by simpa using h
theorem cps_len (z : Str) : z.cps.toList.length = z.cps.size := by simp
theorem ok_name {f : Addr} {fd : FuncData} (F : Fun K "is_name" "is_name" sName f fd) (T : Names mg) : FnOk P w K mg base CX0 1 f fd ["value"] spName := by
  refine F.ok scName (fun vs H Q E h => ?_) (fun cdv A outer s H vs Q E hr h => ?_)
  · obtain ⟨v, r, rfl, _⟩ := h
    rfl
  · obtain ⟨v, r, rfl, hv, k⟩ := h
    have hu := hu_of hr
    have nd := scName.nd
    obtain ⟨t1, hL⟩ := T.letters
    obtain ⟨t2, hM⟩ := T.longest
    refine ⟨_, pss_cons (ps_if (pt_not (pt_val (pe_callB call_isi rfl T.isi (by decide +kernel) (pa_cons (pv 0) (pa_cons (pe_bltn (v := .ty "str") rfl T.str (by decide +kernel) rfl) pa_nil))))) (pss_one (ps_ret pe_bl)) pss_nil)
      (pss_cons (ps_if (PW.pt (pw_or (pt_cmpR op_lt (pe_callB call_len_str rfl T.len PySem.boot_len (pa_cons (pv 0) pa_nil)) pe_int (nomark _)) (pw_or1 (pt_cmpR op_gt (pe_callB call_len_str rfl T.len PySem.boot_len (pa_cons (pv 0) pa_nil)) (pe_glob (v := .int 8) rfl hM ⟨_, rfl⟩) (nomark _))))) (pss_one (ps_ret pe_bl)) pss_nil)
      (pss_one (ps_ret (pe_callB (cr_all rfl) rfl T.all (by decide +kernel) (pa_cons (pe_lc (own := [("letter", 1)]) (g := gName 1) (tt := tYes) rfl nd (pi_str (pv 0)) (blkOk_by (N := ["value", "letter"]) (sc := defScope sName) (by decide +kernel))
        (fun _ _ _ _ _ => pg_name (i := 1) nd rfl (.inl rfl)) (fun _ _ _ _ _ => pts_nil) (fun _ _ _ _ _ => pe_cmpR op_in_sign (pv 1) (pe_glob (v := .str letters) rfl hL ⟨_, rfl⟩) rfl)) pa_nil))))), ?_⟩
    rcases hv with ⟨x, rfl, hx, rfl⟩ | ⟨rfl, hv⟩
    · refine ⟨_, rfl, _, _, _, _, true, rfl, .ty _, (TyT.str x).x, kit_ty (by decide +kernel), true, rfl, iteF ?_⟩
      have hx1 := hx.1
      refine ⟨_, rfl, x, rfl, by rw [sizeLine_eq]; omega, _, _, rfl, rfl, _, rfl, ?_⟩
      unfold nameOk at k
      refine ite2 (fun e => ?_) (fun n1 => ?_)
      · refine iteT ?_
        have e : (x.length : Int) < 1 := of_decide_eq_true e
        rw [show decide (1 ≤ x.length) = false from decide_eq_false (by omega), Bool.false_and] at k
        exact k H Ext.refl
      · have n1 : ¬ (x.length : Int) < 1 := of_decide_eq_false (Bool.eq_false_iff.mpr n1)
        rw [show decide (1 ≤ x.length) = true from decide_eq_true (by omega), Bool.true_and] at k
        refine ⟨_, rfl, x, rfl, by rw [sizeLine_eq]; omega, _, _, rfl, rfl, _, rfl, ?_⟩
        refine ite2 (fun e => ?_) (fun n2 => ?_)
        · have e : (8 : Int) < x.length := of_decide_eq_true e
          rw [show decide (x.length ≤ 8) = false from decide_eq_false (by omega), Bool.false_and] at k
          exact k H Ext.refl
        · have n2 : ¬ (8 : Int) < x.length := of_decide_eq_false (Bool.eq_false_iff.mpr n2)
          rw [show decide (x.length ≤ 8) = true from decide_eq_true (by omega), Bool.true_and] at k
          refine ⟨_, rfl, x, rfl, fun D hD => ?_⟩
          refine lc_it walk_str (fun i H' => H' D = some (.lst (((x.cps.toList.take i).map isL).map V.bl)) ∧ Ext H H') ⟨upd_same, Ext.new hD⟩ (fun _ _ _ _ => trivial) ?_ ?_
          · rintro i y H1 H2 hi ⟨hd, he⟩ ⟨rfl, c, hc, rfl⟩
            refine ⟨rfl, yes_of ?_⟩
            refine ⟨_, rfl, c, _, rfl, rfl, _, hd, ?_, ?_, fun a o e => ?_⟩
            · have := len_cps x
              rw [List.length_map, List.length_map, List.length_take]
              exact small1000 (by omega)
            · rw [upd_same, take_succ_map isL (cps_at hc), List.map_append]
              rfl
            · rw [upd_ne (ne_of_none e hD)]
              exact he a o e
          · rintro H1 ⟨hd, he⟩
            refine ⟨D, _, rfl, SqL.of hd, ?_⟩
            rw [← cps_len, List.take_length, List.all_map]
            exact k H1 he
    · rcases hv with h | h | h | h | h | h <;> exact ⟨_, rfl, _, _, _, _, false, rfl, .ty _, h.x, kit_ty (by decide +kernel), false, rfl, iteT (k H Ext.refl)⟩
theorem scInt : FnScope ["value"] ["value"] (defScope sInt) := ⟨rfl, rfl, rfl, by decide +kernel, rfl, by decide +kernel, by decide +kernel⟩
theorem scAmount : FnScope ["value"] ["value"] (defScope sAmount) := ⟨rfl, rfl, rfl, by decide +kernel, rfl, by decide +kernel, by decide +kernel⟩
/-- what is_int tells of a value -/
def IntV (H : Hp) (v : V) (r : Bool) : Prop := (∃ i, v = .int i ∧ r = true) ∨ (r = false ∧ (TyT H v "NoneType" ∨ TyT H v "bool" ∨ TyT H v "str" ∨ TyT H v "list" ∨ TyT H v "tuple" ∨ TyT H v "dict"))
def spInt : Sp := fun vs H Q _ => ∃ v r, vs = [v] ∧ IntV H v r ∧ Q (.bl r) H
theorem ok_int {f : Addr} {fd : FuncData} (F : Fun K "is_int" "is_int" sInt f fd) (T : Names mg) : FnOk P w K mg base CX0 1 f fd ["value"] spInt := by
  refine F.ok scInt (fun vs H Q E h => ?_) (fun cdv A outer s H vs Q E hr h => ?_)
  · obtain ⟨v, r, rfl, _⟩ := h
    rfl
  · obtain ⟨v, r, rfl, hv, k⟩ := h
    refine ⟨_, pss_one (ps_ret (pe_and (pe_callB call_isi rfl T.isi (by decide +kernel) (pa_cons (pv 0) (pa_cons (pe_bltn (v := .ty "int") rfl T.int (by decide +kernel) rfl) pa_nil))) (pe_one (pe_not (pe_callB call_isi rfl T.isi (by decide +kernel) (pa_cons (pv 0) (pa_cons (pe_bltn (v := .ty "bool") rfl T.bool (by decide +kernel) rfl) pa_nil))))))), ?_⟩
    rcases hv with ⟨i, rfl, rfl⟩ | ⟨rfl, hv⟩
    · refine ⟨_, rfl, _, _, _, _, true, rfl, .ty _, (TyT.int i).x, kit_ty (by decide +kernel), true, rfl, iteT ?_⟩
      exact ⟨_, rfl, _, _, _, _, false, rfl, .ty _, (TyT.int i).x, kit_ty (by decide +kernel), _, rfl, k⟩
    · rcases hv with h | h | h | h | h | h
      all_goals first
        | exact ⟨_, rfl, _, _, _, _, true, rfl, .ty _, h.x, kit_ty (by decide +kernel), true, rfl, iteT ⟨_, rfl, _, _, _, _, true, rfl, .ty _, h.x, kit_ty (by decide +kernel), _, rfl, k⟩⟩
        | exact ⟨_, rfl, _, _, _, _, false, rfl, .ty _, h.x, kit_ty (by decide +kernel), false, rfl, iteF k⟩
theorem ok_amount {f fI : Addr} {fd fdI : FuncData} (F : Fun K "is_amount" "is_amount" sAmount f fd) (T : Names mg) (GI : FnOk P w K mg base CX0 1 fI fdI ["value"] spInt) (bI : Binds K fdI ["value"] []) (kI : PySem.W.keepIn K (.ref fI) = true) (mI : mg "is_int" = some (.ref fI)) :
    FnOk P w K mg base CX0 2 f fd ["value"] spAmt := by
  refine F.ok scAmount (fun vs H Q E h => ?_) (fun cdv A outer s H vs Q E hr h => ?_)
  · obtain ⟨v, r, rfl, _⟩ := h
    rfl
  · obtain ⟨v, r, rfl, hv, k⟩ := h
    obtain ⟨t3, hG⟩ := T.largest
    refine ⟨_, pss_one (ps_ret (pe_and (pe_call GI hr rfl mI kI bI .nil pass0 (pa_cons (pv 0) pa_nil)) (pe_one (pe_chain op_le op_le pe_int (pv 0) (pe_glob (v := .int 1000000000) rfl hG ⟨_, rfl⟩))))), ?_⟩
    rcases hv with ⟨i, rfl, rfl⟩ | ⟨rfl, hv⟩
    · refine ⟨_, rfl, _, _, rfl, .inl ⟨i, rfl, rfl⟩, true, rfl, iteT ?_⟩
      refine ⟨_, rfl, _, _, rfl, rfl, _, rfl, ?_⟩
      unfold amtOk at k
      refine ite2 (fun e => ?_) (fun e => ?_)
      · refine ⟨_, _, rfl, rfl, ?_⟩
        rw [e, Bool.true_and] at k
        exact k H Ext.refl
      · rw [Bool.eq_false_iff.mpr e, Bool.false_and] at k
        exact k H Ext.refl
    · exact ⟨_, rfl, _, _, rfl, .inr ⟨rfl, hv⟩, false, rfl, iteF (k H Ext.refl)⟩
/-! ### the law's own two -/
theorem scLName : FnScope ["_law_thing", "_law_sign"] ["_law_thing"] (defScope sLName) := ⟨rfl, rfl, rfl, by decide +kernel, rfl, by decide +kernel, by decide +kernel⟩
theorem scLAmount : FnScope ["_law_thing"] ["_law_thing"] (defScope sLAmount) := ⟨rfl, rfl, rfl, by decide +kernel, rfl, by decide +kernel, by decide +kernel⟩
def oneS (c : Nat) : Str := ⟨#[c]⟩
theorem filter_take {α : Type} {l : List α} {i : Nat} {c : α} (p : α → Bool) (h : l[i]? = some c) : (l.take (i + 1)).filter p = (l.take i).filter p ++ (if p c = true then [c] else []) := by
  rw [List.take_add_one, h, List.filter_append]
  show _ ++ List.filter p [c] = _
  cases e : p c <;> simp [e]
theorem empty_all (l : List Nat) : (l.filter (fun c => !isL c)).isEmpty = l.all isL := by
  induction l with
  | nil => rfl
  | cons c r ih =>
    cases e : isL c
    · simp [e]
    · simpa [e] using ih
theorem ok_lname {f : Addr} {fd : FuncData} (F : Fun K "_law_is_name" "_law_is_name" sLName f fd) (T : Names mg) : FnOk P w K mg base CX0 1 f fd ["_law_thing"] spName := by
  refine F.ok scLName (fun vs H Q E h => ?_) (fun cdv A outer s H vs Q E hr h => ?_)
  · obtain ⟨v, r, rfl, _⟩ := h
    rfl
  · obtain ⟨v, r, rfl, hv, k⟩ := h
    have hu := hu_of hr
    have nd := scLName.nd
    refine ⟨_, pss_cons (ps_if (PW.pt (pw_or (pt_not (pt_val (pe_callB call_isi rfl T.isi (by decide +kernel) (pa_cons (pv 0) (pa_cons (pe_bltn (v := .ty "str") rfl T.str (by decide +kernel) rfl) pa_nil))))) (pw_or1 (pt_not (pt_chain op_le op_le pe_int (pe_callB call_len_str rfl T.len PySem.boot_len (pa_cons (pv 0) pa_nil)) pe_int))))) (pss_one (ps_ret pe_bl)) pss_nil)
      (pss_one (ps_ret (pe_cmpR (op_eqD hr.units) (pe_lc (own := [("_law_sign", 1)]) (g := gName 1) rfl nd (pi_str (pv 0)) (blkOk_by (N := ["_law_thing", "_law_sign"]) (sc := defScope sLName) (by decide +kernel))
        (fun _ _ _ _ _ => pg_name (i := 1) nd rfl (.inl rfl)) (fun _ _ _ _ _ => pts_one (pt_cmpR op_notIn_sign (pv 1) pe_str rfl)) (fun _ _ _ _ _ => pv 1)) (pe_lst pa_nil) (nomark _)))), ?_⟩
    rcases hv with ⟨x, rfl, hx, rfl⟩ | ⟨rfl, hv⟩
    · refine ⟨_, rfl, _, _, _, _, true, rfl, .ty _, (TyT.str x).x, kit_ty (by decide +kernel), true, rfl, iteF ?_⟩
      have hx1 := hx.1
      refine ⟨_, rfl, x, rfl, by rw [sizeLine_eq]; omega, _, _, rfl, rfl, _, rfl, ?_⟩
      unfold nameOk at k
      refine ite2 (fun e => ?_) (fun n1 => ?_)
      · have e : (1 : Int) ≤ x.length := of_decide_eq_true e
        rw [show decide (1 ≤ x.length) = true from decide_eq_true (by omega), Bool.true_and] at k
        refine ⟨_, _, rfl, rfl, _, rfl, ?_⟩
        by_cases e8 : x.length ≤ 8
        · rw [show decide ((x.length : Int) ≤ 8) = true from decide_eq_true (by omega)]
          refine iteF ?_
          rw [decide_eq_true e8, Bool.true_and] at k
          refine ⟨_, rfl, x, rfl, fun D hD => ?_⟩
          refine lc_it walk_str (fun i H' => H' D = some (.lst ((((x.cps.toList.take i).filter fun c => !isL c).map oneS).map V.str)) ∧ Ext H H') ⟨upd_same, Ext.new hD⟩ (fun _ _ _ _ => trivial) ?_ ?_
          · rintro i y H1 H2 hi ⟨hd, he⟩ ⟨rfl, c, hc, rfl⟩
            have hc' := cps_at hc
            refine ⟨rfl, _, rfl, c, _, rfl, rfl, _, rfl, ?_⟩
            have ef := filter_take (fun c => !isL c) hc'
            refine ite2 (fun e => ?_) (fun e => ?_)
            · have e : (!isL c) = true := e
              rw [if_pos e] at ef
              refine ⟨_, rfl, _, hd, ?_, ?_, fun a o e => ?_⟩
              · have h1 := List.length_filter_le (fun c => !isL c) (x.cps.toList.take i)
                have h2 := len_cps x
                rw [List.length_take] at h1
                rw [List.length_map, List.length_map]
                exact small1000 (by omega)
              · rw [upd_same, ef, List.map_append, List.map_append]
                rfl
              · rw [upd_ne (ne_of_none e hD)]
                exact he a o e
            · have e : (!isL c) = false := Bool.eq_false_iff.mpr e
              rw [if_neg (by rw [e]; exact Bool.false_ne_true), List.append_nil] at ef
              exact ⟨by rw [ef]; exact hd, he⟩
          · rintro H1 ⟨hd, he⟩
            rw [← cps_len, List.take_length] at hd
            refine ⟨Nat.zero_le _, fun p hp => ?_⟩
            refine ⟨_, _, .lst (SqL.of (new_same hp _ _ hd)) (dp_strs _), .lst (SqL.of upd_same) .nil, shaped_strs fun z hz => ?_, shaped_nil, ?_⟩
            · obtain ⟨c, hc, rfl⟩ := List.mem_map.mp hz
              exact (Asc.one (hx.2 c (List.mem_filter.mp hc).1)).ok
            · rw [eqv_nil, List.isEmpty_map, List.isEmpty_map, empty_all]
              exact k _ (he.trans (Ext.new hp))
        · rw [show decide ((x.length : Int) ≤ 8) = false from decide_eq_false (by omega)]
          refine iteT ?_
          rw [decide_eq_false e8, Bool.false_and] at k
          exact k H Ext.refl
      · have n1 : ¬ (1 : Int) ≤ x.length := of_decide_eq_false (Bool.eq_false_iff.mpr n1)
        rw [show decide (1 ≤ x.length) = false from decide_eq_false (by omega), Bool.false_and] at k
        exact ⟨_, rfl, iteT (k H Ext.refl)⟩
    · rcases hv with h | h | h | h | h | h <;> exact ⟨_, rfl, _, _, _, _, false, rfl, .ty _, h.x, kit_ty (by decide +kernel), false, rfl, iteT (iteT (k H Ext.refl))⟩
theorem ok_lamount {f : Addr} {fd : FuncData} (F : Fun K "_law_is_amount" "_law_is_amount" sLAmount f fd) (T : Names mg) : FnOk P w K mg base CX0 1 f fd ["_law_thing"] spAmt := by
  refine F.ok scLAmount (fun vs H Q E h => ?_) (fun cdv A outer s H vs Q E hr h => ?_)
  · obtain ⟨v, r, rfl, _⟩ := h
    rfl
  · obtain ⟨v, r, rfl, hv, k⟩ := h
    refine ⟨_, pss_one (ps_ret (pe_and (pe_callB call_isi rfl T.isi (by decide +kernel) (pa_cons (pv 0) (pa_cons (pe_bltn (v := .ty "int") rfl T.int (by decide +kernel) rfl) pa_nil)))
      (pe_and (pe_not (pe_callB call_isi rfl T.isi (by decide +kernel) (pa_cons (pv 0) (pa_cons (pe_bltn (v := .ty "bool") rfl T.bool (by decide +kernel) rfl) pa_nil))))
        (pe_one (pe_chain op_le op_le pe_int (pv 0) (pe_op op_pow pe_int pe_int)))))), ?_⟩
    rcases hv with ⟨i, rfl, rfl⟩ | ⟨rfl, hv⟩
    · refine ⟨_, rfl, _, _, _, _, true, rfl, .ty _, (TyT.int i).x, kit_ty (by decide +kernel), true, rfl, iteT ?_⟩
      refine ⟨_, rfl, _, _, _, _, false, rfl, .ty _, (TyT.int i).x, kit_ty (by decide +kernel), false, rfl, true, rfl, iteT ?_⟩
      refine ⟨_, rfl, _, _, rfl, rfl, _, rfl, ?_⟩
      unfold amtOk at k
      refine ite2 (fun e => ?_) (fun e => ?_)
      · refine ⟨10, 9, rfl, rfl, ⟨by decide, by decide, by decide⟩, _, _, rfl, rfl, ?_⟩
        rw [e, Bool.true_and] at k
        exact k H Ext.refl
      · rw [Bool.eq_false_iff.mpr e, Bool.false_and] at k
        exact k H Ext.refl
    · rcases hv with h | h | h | h | h | h
      all_goals first
        | exact ⟨_, rfl, _, _, _, _, false, rfl, .ty _, h.x, kit_ty (by decide +kernel), false, rfl, iteF (k H Ext.refl)⟩
        | exact ⟨_, rfl, _, _, _, _, true, rfl, .ty _, h.x, kit_ty (by decide +kernel), true, rfl, iteT ⟨_, rfl, _, _, _, _, true, rfl, .ty _, h.x, kit_ty (by decide +kernel), true, rfl, false, rfl, iteF (k H Ext.refl)⟩⟩
end
end Lw

set_option Elab.async false
set_option linter.all false
set_option maxRecDepth 100000
set_option maxHeartbeats 8000000
namespace Lw
open PySem PySem.Spec PyProof.Rows L2 Gn Gr Gk Ge
abbrev sLaw : Stmt := top 17
abbrev nLaw : List Str := ["_law_script", "_law_state", "_law_turn", "_law_thing", "_law_kept", "_law_told", "_law_one"]
theorem shownAll_len : ∀ ds : List PyData, (PyData.shownAll ds).length = ds.length
  | [] => by simp only [PyData.shownAll]; rfl
  | x :: r => by simp only [PyData.shownAll, List.length_cons, shownAll_len r]
theorem list_len {ds : List PyData} {N : Nat} (h : (PyData.list ds).shown.length ≤ N) : ds.length ≤ N := by
  have a := (textFrom_len (PyData.shownAll ds) 0 "[").1
  have b : (PyData.list ds).shown.length = (textFrom 0 "[" (PyData.shownAll ds)).length + 1 := by
    simp only [PyData.shown]
    show (textFrom 0 "[" (PyData.shownAll ds) ++ "]").length = _
    rw [strLen_append]
    rfl
  have c : (Str.ofString "[").length = 1 := rfl
  have e := shownAll_len ds
  have i0 : (if 0 > 0 then 0 else 2 : Nat) = 2 := rfl
  rw [i0] at a
  omega
theorem is_list {H : Hp} {v : V} {x : PyData} (h : Dr H v x) : (∃ a xs ds, v = .ref a ∧ H a = some (.lst xs) ∧ x = .list ds ∧ xs.length = ds.length) ∨ ∃ T, TyT H v T ∧ kitB T "list" = some false := by
  cases h with
  | non => exact .inr ⟨_, .non, by decide +kernel⟩
  | bl b => exact .inr ⟨_, .bl b, by decide +kernel⟩
  | int i => exact .inr ⟨_, .int i, by decide +kernel⟩
  | str x => exact .inr ⟨_, .str x, by decide +kernel⟩
  | lst e r => exact .inl ⟨_, _, _, rfl, e, rfl, r.length⟩
  | tup e _ => exact .inr ⟨_, .tup e, by decide +kernel⟩
  | dct e _ => exact .inr ⟨_, .dct e, by decide +kernel⟩
section
variable {P : Program} {w : World} {K : PySem.W.Frag} {mg : Str → Option Value} {base : Heap}
theorem scLaw : FnScope nLaw ["_law_script"] (defScope sLaw) := ⟨rfl, rfl, rfl, by decide +kernel, rfl, by decide +kernel, by decide +kernel⟩
theorem ok_law {fB fV fN fA fLN fLA f : Addr} {fdB fdV fdN fdA fdLN fdLA : FuncData} {ns : List Int} {a : Addr} {A : Around} {s : Shared} {H : Hp} {cdv : Value} (hl : ns.length ≤ 63) (B : Bed K mg base A) (hr : Room 7 (A.deeper (envOfC "law" (defScope sLaw) s.heap.objs.size f cdv))) (hS : SqL K H a (ns.map V.int))
    (GB : FnOk P w K mg base CX0 1 fB fdB ["_law_script"] (spBegun K ns)) (bB : Binds K fdB ["_law_script"] []) (kB : PySem.W.keepIn K (.ref fB) = true) (mB : mg "_law_begun" = some (.ref fB))
    (GV : FnOk P w K mg base CX0 7 fV fdV ["_law_state", "_law_height"] (spV ns 3)) (bV : Binds K fdV ["_law_state", "_law_height"] []) (kV : PySem.W.keepIn K (.ref fV) = true) (mV : mg "_law_value" = some (.ref fV))
    (GN : FnOk P w K mg base CX0 1 fN fdN ["value"] spName) (bN : Binds K fdN ["value"] []) (kbN : KBinds K fdN ["value"] ["value"] (fun us ws => us ++ ws) (fun vs zs => vs ++ zs)) (kN : PySem.W.keepIn K (.ref fN) = true) (mN : mg "is_name" = some (.ref fN))
    (GA : FnOk P w K mg base CX0 2 fA fdA ["value"] spAmt) (bA : Binds K fdA ["value"] []) (kbA : KBinds K fdA ["value"] ["value"] (fun us ws => us ++ ws) (fun vs zs => vs ++ zs)) (kA : PySem.W.keepIn K (.ref fA) = true) (mA : mg "is_amount" = some (.ref fA))
    (GLN : FnOk P w K mg base CX0 1 fLN fdLN ["_law_thing"] spName) (bLN : Binds K fdLN ["_law_thing"] []) (kLN : PySem.W.keepIn K (.ref fLN) = true) (mLN : mg "_law_is_name" = some (.ref fLN))
    (GLA : FnOk P w K mg base CX0 1 fLA fdLA ["_law_thing"] spAmt) (bLA : Binds K fdLA ["_law_thing"] []) (kLA : PySem.W.keepIn K (.ref fLA) = true) (mLA : mg "_law_is_amount" = some (.ref fLA))
    (T : Names mg) (mr : mg "range" = none) (mrep : mg "repr" = none) :
    ∃ t, PSs (cxOf CX0 P w K mg base nLaw "law" (defScope sLaw) f cdv A [] s H E0).nox (defBody sLaw) t ∧ t { nx := fun _ _ => False, rt := fun v _ => v = .bl true } (L2.start nLaw [.ref a]) H := by
  have nd := scLaw.nd
  have hu := hu_of hr
  have hr1 : Room 1 (A.deeper (envOfC "law" (defScope sLaw) s.heap.objs.size f cdv)) := hr.mono (by decide)
  have hr2 : Room 2 (A.deeper (envOfC "law" (defScope sLaw) s.heap.objs.size f cdv)) := hr.mono (by decide)
  have hgd : (A.deeper (envOfC "law" (defScope sLaw) s.heap.objs.size f cdv)).guards = some [] := B.gd
  refine ⟨_, pss_cons (ps_set (i := 1) nd rfl (.inl rfl) (pe_call GB hr1 rfl mB kB bB .nil pass0 (pa_cons (pv 0) pa_nil)))
    (pss_cons (ps_for PassesOwn.never rfl (pi_range1 rfl mr (pa_cons pe_int pa_nil)) (pg_name (i := 2) nd rfl (.inl rfl))
      (pss_cons (ps_set (i := 3) nd rfl (.inl rfl) (pe_call GV hr rfl mV kV bV .nil pass0 (pa_cons (pv 1) (pa_cons pe_int pa_nil))))
      (pss_cons (ps_set (i := 4) nd rfl (.inl rfl) (pe_callB (call_repr hgd hr.units B.sys) rfl mrep (by decide +kernel) (pa_cons (pv 3) pa_nil)))
      (pss_cons (ps_set (i := 5) nd rfl (.inl rfl) (pe_lst (pa_cons (pe_call GN hr1 rfl mN kN bN .nil pass0 (pa_cons (pv 3) pa_nil)) (pa_cons (pe_call GA hr2 rfl mA kA bA .nil pass0 (pa_cons (pv 3) pa_nil)) (pa_cons (pe_kw GN hr1 rfl mN kN kbN pass0 (pk_cons (pv 3) pk_nil)) (pa_cons (pe_kw GA hr2 rfl mA kA kbA pass0 (pk_cons (pv 3) pk_nil)) pa_nil))))))
      (pss_cons (ps_if (pt_cmpR (op_neD hr.units) (pe_lc (own := [("_law_one", 6)]) (g := gName 6) rfl nd (pi_list (pv 5)) (blkOk_by (N := nLaw) (sc := defScope sLaw) (by decide +kernel))
          (fun _ _ _ _ _ => pg_name (i := 6) nd rfl (.inl rfl)) (fun _ _ _ _ _ => pts_one (pt_not (pt_val (pe_callB (id := "isinstance") (r := rIsi K) call_isi rfl T.isi (by decide +kernel) (pa_cons (pv 6) (pa_cons (pe_bltn (v := .ty "bool") rfl T.bool (by decide +kernel) rfl) pa_nil)))))) (fun _ _ _ _ _ => pv 6)) (pe_lst pa_nil) (nomark _)) (pss_one (ps_ret pe_bl)) pss_nil)
      (pss_cons (ps_if (PW.pt (pw_or (pt_cmpR (op_neD hr.units) (pv 5) (pe_op op_rep (pe_lst (pa_cons (pe_call GLN hr1 rfl mLN kLN bLN .nil pass0 (pa_cons (pv 3) pa_nil)) (pa_cons (pe_call GLA hr1 rfl mLA kLA bLA .nil pass0 (pa_cons (pv 3) pa_nil)) pa_nil))) pe_int) (nomark _))
          (pw_or1 (pt_cmpR op_ne (pe_callB (call_repr hgd hr.units B.sys) rfl mrep (by decide +kernel) (pa_cons (pv 3) pa_nil)) (pv 4) (nomark _))))) (pss_one (ps_ret pe_bl)) pss_nil)
      (pss_one (ps_if (PW.pt (pw_and (pt_cmpR op_eq (pv 2) pe_int (nomark _)) (pw_and1 (pt_val (pe_callB call_isi rfl T.isi (by decide +kernel) (pa_cons (pv 3) (pa_cons (pe_bltn (v := .ty "list") rfl T.list (by decide +kernel) rfl) pa_nil)))))))
        (pss_cons (ps_expr (pe_bm PySem.F.plainAttrs_list PySem.F.slot_list_append PySem.F.type_list_append mt_append (pv 3) (pa_cons pe_int pa_nil)))
        (pss_one (ps_if (PW.pt (pw_or (pt_val (pe_call GN hr1 rfl mN kN bN .nil pass0 (pa_cons (pv 3) pa_nil))) (pw_or1 (pt_val (pe_call GA hr2 rfl mA kA bA .nil pass0 (pa_cons (pv 3) pa_nil)))))) (pss_one (ps_ret pe_bl)) pss_nil))) pss_nil))))))))
    (pss_one (ps_ret pe_bl))), ?_⟩
  refine ⟨_, rfl, a, rfl, hS, hl, fun d g c H1 D1 x1 fd fg fc => ?_⟩
  refine ⟨12, rfl, by decide, by decide, for_range (lo := 0) (n := 12) (fun i σ H' => ∃ (v2 v3 v4 v5 : Option V), σ = [some (.ref a), some (.ref d), v2, v3, v4, v5, none] ∧ Dw ns d g c (i * 400) H') ⟨none, none, none, none, rfl, D1⟩ ?_ ?_⟩
  · rintro i σ H2 hi ⟨v2, v3, v4, v5, rfl, D2⟩
    refine ⟨_, rfl, d, g, c, _, 2, rfl, D2, by decide, by omega, fun v x H3 hx hv D3 k3 => ?_⟩
    have hv3 : Dr H3 v x := Dr.mono nw_sub _ _ hv
    have hx1 : x.depth ≤ 2 := hx.1.2.1
    have hx2 : x.shown.length ≤ 200 * 4 ^ 2 := hx.1.2.2
    have hsz : x.shown.length ≤ sizeLine := by rw [sizeLine_eq]; omega
    refine ⟨_, rfl, v, x, rfl, hv3, hx.1.1, by omega, hsz, ?_⟩
    obtain ⟨⟨rn, hn⟩, ⟨ra, ha⟩⟩ := dr_judged hv3 hx
    refine ⟨_, rfl, v, rn, rfl, hn, fun H4 k4 => ?_⟩
    refine ⟨_, rfl, v, ra, rfl, ha.ext k4, fun H5 k5 => ?_⟩
    refine ⟨_, rfl, v, rn, rfl, (hn.ext k4).ext k5, fun H6 k6 => ?_⟩
    refine ⟨_, rfl, v, ra, rfl, ((ha.ext k4).ext k5).ext k6, fun H7 k7 => ?_⟩
    refine ⟨by show 4 ≤ sizeLine; decide, fun p hp => ?_⟩
    have k37 : Ext H3 H7 := ((k4.trans k5).trans k6).trans k7
    have k38 : Ext H3 (upd H7 p (.lst [.bl rn, .bl ra, .bl rn, .bl ra])) := k37.trans (Ext.new hp)
    have hp8 : (upd H7 p (.lst [.bl rn, .bl ra, .bl rn, .bl ra])) p = some (.lst ([rn, ra, rn, ra].map V.bl)) := upd_same
    generalize upd H7 p (.lst [.bl rn, .bl ra, .bl rn, .bl ra]) = H8 at k38 hp8 ⊢
    -- no item that is no bool
    refine ⟨_, rfl, p, rfl, ⟨_, SqL.of hp8⟩, fun D hD => ?_⟩
    refine lc_list (K := K) (a := p) (xs := [rn, ra, rn, ra].map V.bl) (fun i H' => H' D = some (.lst []) ∧ Ext H8 H') ⟨upd_same, Ext.new hD⟩ (fun i H' _ ⟨_, e⟩ => SqL.of (e _ _ hp8)) ?_ ?_
    · rintro j y H9 hy ⟨hd, he⟩
      obtain ⟨b, rfl⟩ : ∃ b, y = V.bl b := by
        obtain ⟨b, _, e⟩ := List.mem_map.mp (List.mem_of_getElem? hy)
        exact ⟨b, e.symm⟩
      exact ⟨rfl, _, rfl, _, _, _, _, true, rfl, .ty _, (TyT.bl b).x, kit_ty (by decide +kernel), true, rfl, iteF ⟨hd, he⟩⟩
    rintro H9 ⟨hd, k9⟩
    refine ⟨Nat.zero_le _, fun q hq => ?_⟩
    refine ⟨_, _, .lst (SqL.of (new_same hq _ _ hd)) .nil, .lst (SqL.of upd_same) .nil, shaped_nil, shaped_nil, _, rfl, ?_⟩
    rw [eqv_nil]
    refine iteF ?_
    have k310 : Ext H3 (upd H9 q (.lst [])) := (k38.trans k9).trans (Ext.new hq)
    have hp10 := new_same (o := .lst []) hq _ _ (k9 _ _ hp8)
    generalize upd H9 q (.lst []) = H10 at k310 hp10 ⊢
    -- the law's own answers
    refine ⟨_, rfl, _, rfl, v, rn, rfl, hn.ext k310, fun H11 k11 => ?_⟩
    refine ⟨_, rfl, v, ra, rfl, (ha.ext k310).ext k11, fun H12 k12 => ?_⟩
    refine ⟨by show 2 ≤ sizeLine; decide, fun l hl => ?_⟩
    refine ⟨l, 2, _, rfl, rfl, upd_same, by decide, by decide, by show 2 * 2 ≤ sizeLine; decide, fun l2 hl2 => ?_⟩
    have hp13 := new_same (o := .lst (List.replicate (2 : Int).toNat [V.bl rn, V.bl ra]).flatten) hl2 _ _ (new_same (o := .lst [.bl rn, .bl ra]) hl _ _ (k12 _ _ (k11 _ _ hp10)))
    refine ⟨_, _, .lst (SqL.of hp13) (dp_bools [rn, ra, rn, ra]), .lst (SqL.of upd_same) (dp_bools [rn, ra, rn, ra]), shaped_bools _, shaped_bools _, _, rfl, ?_⟩
    have k313 : Ext H3 (upd (upd H12 l (.lst [.bl rn, .bl ra])) l2 (.lst (List.replicate (2 : Int).toNat [V.bl rn, V.bl ra]).flatten)) := (((k310.trans k11).trans k12).trans (Ext.new hl)).trans (Ext.new hl2)
    generalize upd (upd H12 l (.lst [.bl rn, .bl ra])) l2 (.lst (List.replicate (2 : Int).toNat [V.bl rn, V.bl ra]).flatten) = H13 at k313 ⊢
    have ee : PyData.eqv (.list ([rn, ra, rn, ra].map PyData.bool)) (.list ([rn, ra, rn, ra].map PyData.bool)) = true := by
      show PyData.eqvAll _ _ = true
      rw [eqv_bools]
      exact decide_eq_true rfl
    rw [ee]
    refine iteF ?_
    refine ⟨_, rfl, v, x, rfl, Dr.mono k313 _ _ hv3, hx.1.1, by omega, hsz, _, rfl, rfl, _, rfl, ?_⟩
    refine iteNS rfl ?_
    -- the first turn: a list that changes
    have D13 : Dw ns d g c ((i + 1) * 400) H13 := by
      rw [Nat.succ_mul]
      exact D3.keep k313
    have ends : ∀ H', Dw ns d g c ((i + 1) * 400) H' → ∃ (v2 v3 v4 v5 : Option V), [some (V.ref a), some (V.ref d), some (V.int (0 + (i : Int))), some v, some (V.str x.shown), some (V.ref p), (none : Option V)] = [some (.ref a), some (.ref d), v2, v3, v4, v5, none] ∧ Dw ns d g c ((i + 1) * 400) H' := fun H' h => ⟨_, _, _, _, rfl, h⟩
    refine ⟨_, rfl, rfl, _, rfl, ?_⟩
    refine ite2 (fun _ => ?_) (fun _ => ends H13 D13)
    rcases is_list hv3 with ⟨la, xs, ds, rfl, hla, rfl, hlen⟩ | ⟨T', hT, kb⟩
    · refine ⟨_, rfl, _, _, _, _, true, rfl, .ty _, (TyT.lst (k313 _ _ hla)).x, kit_ty (by decide +kernel), true, rfl, iteT ?_⟩
      have hds := list_len hx2
      refine ⟨_, rfl, .inl ⟨rfl, _, SqL.of (k313 _ _ hla)⟩, la, _, _, rfl, rfl, k313 _ _ hla, ?_, ?_⟩
      · rw [sizeLine_eq]
        omega
      · have hlist : TyT (upd H13 la (.lst (xs ++ [V.int 1]))) (V.ref la) "list" := .lst upd_same
        cases hv with
        | lst e0 _ =>
          obtain ⟨z1, z2⟩ := nw_of e0
          have DL : Dw ns d g c ((i + 1) * 400) (upd H13 la (.lst (xs ++ [V.int 1]))) := D13.put (k313 _ _ hla) (D2.nd z1) (D2.ng z1) (fun e => by rw [e, D2.cl] at z1; cases z1)
          refine ⟨_, rfl, _, false, rfl, .inr ⟨rfl, .inr (.inr (.inr (.inl hlist)))⟩, fun H14 k14 => ⟨false, rfl, iteF ?_⟩⟩
          refine ⟨_, rfl, _, false, rfl, .inr ⟨rfl, .inr (.inr (.inr (.inl (hlist.ext k14))))⟩, fun H15 k15 => ⟨false, rfl, iteF ?_⟩⟩
          exact ends H15 (DL.keep (k14.trans k15))
    · exact ⟨_, rfl, _, _, _, _, false, rfl, .ty _, (hT.ext k313).x, kit_ty kb, false, rfl, iteF (ends H13 D13)⟩
  · rintro σ H2 ⟨v2, v3, v4, v5, rfl, D2⟩
    rfl
end
end Lw

set_option Elab.async false
set_option linter.all false
set_option maxRecDepth 100000
set_option maxHeartbeats 8000000
namespace Lw
open PySem PySem.Spec PyProof.Rows L2 Gn Gr Gk Ge
/-- what the top has left, def by def -/
theorem all_mk {P : Program} {w : World} {K : PySem.W.Frag} {h : Heap} {mg : Str → Option Value} {fa : Addr} (X : K.In h) (G : h.Ns mainGlobals mg) (hfa : mg "law" = some (.ref fa))
    {fB : Addr} {odB anB : Option Addr} {slB : Array (Option Value)} {ocB kVB dcB pmB cdB ctB : Value}
    (aB : PySem.W.nsIn K mainGlobals "_law_begun" = some (some (.ref fB))) (lB : K.lookup fB = some ⟨ocB, odB, .func (PySem.W.fnOf "_law_begun" "_law_begun" (defArgs sBegun) (defBody sBegun) (defScope sBegun) .none kVB dcB pmB anB cdB ctB), slB⟩)
    (cB : PySem.W.codeIn K cdB "_law_begun" = true) (kB : PySem.W.keepIn K (.ref fB) = true)
    {fM : Addr} {odM anM : Option Addr} {slM : Array (Option Value)} {ocM kVM dcM pmM cdM ctM : Value}
    (aM : PySem.W.nsIn K mainGlobals "_law_mixed" = some (some (.ref fM))) (lM : K.lookup fM = some ⟨ocM, odM, .func (PySem.W.fnOf "_law_mixed" "_law_mixed" (defArgs sMixed) (defBody sMixed) (defScope sMixed) .none kVM dcM pmM anM cdM ctM), slM⟩)
    (cM : PySem.W.codeIn K cdM "_law_mixed" = true) (kM : PySem.W.keepIn K (.ref fM) = true)
    {fT : Addr} {odT anT : Option Addr} {slT : Array (Option Value)} {ocT kVT dcT pmT cdT ctT : Value}
    (aT : PySem.W.nsIn K mainGlobals "_law_take" = some (some (.ref fT))) (lT : K.lookup fT = some ⟨ocT, odT, .func (PySem.W.fnOf "_law_take" "_law_take" (defArgs sTake) (defBody sTake) (defScope sTake) .none kVT dcT pmT anT cdT ctT), slT⟩)
    (cT : PySem.W.codeIn K cdT "_law_take" = true) (kT : PySem.W.keepIn K (.ref fT) = true)
    {fP : Addr} {odP anP : Option Addr} {slP : Array (Option Value)} {ocP kVP dcP pmP cdP ctP : Value}
    (aP : PySem.W.nsIn K mainGlobals "_law_pick" = some (some (.ref fP))) (lP : K.lookup fP = some ⟨ocP, odP, .func (PySem.W.fnOf "_law_pick" "_law_pick" (defArgs sPick) (defBody sPick) (defScope sPick) .none kVP dcP pmP anP cdP ctP), slP⟩)
    (cP : PySem.W.codeIn K cdP "_law_pick" = true) (kP : PySem.W.keepIn K (.ref fP) = true)
    {fS : Addr} {odS anS : Option Addr} {slS : Array (Option Value)} {ocS kVS dcS pmS cdS ctS : Value}
    (aS : PySem.W.nsIn K mainGlobals "_law_string" = some (some (.ref fS))) (lS : K.lookup fS = some ⟨ocS, odS, .func (PySem.W.fnOf "_law_string" "_law_string" (defArgs sString) (defBody sString) (defScope sString) .none kVS dcS pmS anS cdS ctS), slS⟩)
    (cS : PySem.W.codeIn K cdS "_law_string" = true) (kS : PySem.W.keepIn K (.ref fS) = true)
    {fU : Addr} {odU anU : Option Addr} {slU : Array (Option Value)} {ocU kVU dcU pmU cdU ctU : Value}
    (aU : PySem.W.nsIn K mainGlobals "_law_number" = some (some (.ref fU))) (lU : K.lookup fU = some ⟨ocU, odU, .func (PySem.W.fnOf "_law_number" "_law_number" (defArgs sNumber) (defBody sNumber) (defScope sNumber) .none kVU dcU pmU anU cdU ctU), slU⟩)
    (cU : PySem.W.codeIn K cdU "_law_number" = true) (kU : PySem.W.keepIn K (.ref fU) = true)
    {fV : Addr} {odV anV : Option Addr} {slV : Array (Option Value)} {ocV kVV dcV pmV cdV ctV : Value}
    (aV : PySem.W.nsIn K mainGlobals "_law_value" = some (some (.ref fV))) (lV : K.lookup fV = some ⟨ocV, odV, .func (PySem.W.fnOf "_law_value" "_law_value" (defArgs sValue) (defBody sValue) (defScope sValue) .none kVV dcV pmV anV cdV ctV), slV⟩)
    (cV : PySem.W.codeIn K cdV "_law_value" = true) (kV : PySem.W.keepIn K (.ref fV) = true)
    {fI : Addr} {odI anI : Option Addr} {slI : Array (Option Value)} {ocI kVI dcI pmI cdI ctI : Value}
    (aI : PySem.W.nsIn K mainGlobals "is_int" = some (some (.ref fI))) (lI : K.lookup fI = some ⟨ocI, odI, .func (PySem.W.fnOf "is_int" "is_int" (defArgs sInt) (defBody sInt) (defScope sInt) .none kVI dcI pmI anI cdI ctI), slI⟩)
    (cI : PySem.W.codeIn K cdI "is_int" = true) (kI : PySem.W.keepIn K (.ref fI) = true)
    {fN : Addr} {odN anN : Option Addr} {slN : Array (Option Value)} {ocN kVN dcN pmN cdN ctN : Value}
    (aN : PySem.W.nsIn K mainGlobals "is_name" = some (some (.ref fN))) (lN : K.lookup fN = some ⟨ocN, odN, .func (PySem.W.fnOf "is_name" "is_name" (defArgs sName) (defBody sName) (defScope sName) .none kVN dcN pmN anN cdN ctN), slN⟩)
    (cN : PySem.W.codeIn K cdN "is_name" = true) (kN : PySem.W.keepIn K (.ref fN) = true)
    {fA : Addr} {odA anA : Option Addr} {slA : Array (Option Value)} {ocA kVA dcA pmA cdA ctA : Value}
    (aA : PySem.W.nsIn K mainGlobals "is_amount" = some (some (.ref fA))) (lA : K.lookup fA = some ⟨ocA, odA, .func (PySem.W.fnOf "is_amount" "is_amount" (defArgs sAmount) (defBody sAmount) (defScope sAmount) .none kVA dcA pmA anA cdA ctA), slA⟩)
    (cA : PySem.W.codeIn K cdA "is_amount" = true) (kA : PySem.W.keepIn K (.ref fA) = true)
    {fX : Addr} {odX anX : Option Addr} {slX : Array (Option Value)} {ocX kVX dcX pmX cdX ctX : Value}
    (aX : PySem.W.nsIn K mainGlobals "_law_is_name" = some (some (.ref fX))) (lX : K.lookup fX = some ⟨ocX, odX, .func (PySem.W.fnOf "_law_is_name" "_law_is_name" (defArgs sLName) (defBody sLName) (defScope sLName) .none kVX dcX pmX anX cdX ctX), slX⟩)
    (cX : PySem.W.codeIn K cdX "_law_is_name" = true) (kX : PySem.W.keepIn K (.ref fX) = true)
    {fY : Addr} {odY anY : Option Addr} {slY : Array (Option Value)} {ocY kVY dcY pmY cdY ctY : Value}
    (aY : PySem.W.nsIn K mainGlobals "_law_is_amount" = some (some (.ref fY))) (lY : K.lookup fY = some ⟨ocY, odY, .func (PySem.W.fnOf "_law_is_amount" "_law_is_amount" (defArgs sLAmount) (defBody sLAmount) (defScope sLAmount) .none kVY dcY pmY anY cdY ctY), slY⟩)
    (cY : PySem.W.codeIn K cdY "_law_is_amount" = true) (kY : PySem.W.keepIn K (.ref fY) = true)
    {fL : Addr} {odL anL : Option Addr} {slL : Array (Option Value)} {ocL kVL dcL pmL cdL ctL : Value}
    (aL : PySem.W.nsIn K mainGlobals "law" = some (some (.ref fL))) (lL : K.lookup fL = some ⟨ocL, odL, .func (PySem.W.fnOf "law" "law" (defArgs sLaw) (defBody sLaw) (defScope sLaw) .none kVL dcL pmL anL cdL ctL), slL⟩)
    (cL : PySem.W.codeIn K cdL "law" = true) (kL : PySem.W.keepIn K (.ref fL) = true)
    {t1 t2 t3 : Tok} (g1 : PySem.W.nsIn K mainGlobals "LETTERS" = some (some (.str letters t1))) (g2 : PySem.W.nsIn K mainGlobals "LONGEST" = some (some (.int 8 t2))) (g3 : PySem.W.nsIn K mainGlobals "LARGEST" = some (some (.int 1000000000 t3)))
    (z0 : PySem.W.nsIn K mainGlobals "isinstance" = some none)
    (z1 : PySem.W.nsIn K mainGlobals "str" = some none)
    (z2 : PySem.W.nsIn K mainGlobals "int" = some none)
    (z3 : PySem.W.nsIn K mainGlobals "bool" = some none)
    (z4 : PySem.W.nsIn K mainGlobals "list" = some none)
    (z5 : PySem.W.nsIn K mainGlobals "len" = some none)
    (z6 : PySem.W.nsIn K mainGlobals "all" = some none)
    (z7 : PySem.W.nsIn K mainGlobals "range" = some none)
    (z8 : PySem.W.nsIn K mainGlobals "tuple" = some none)
    (z9 : PySem.W.nsIn K mainGlobals "dict" = some none)
    (z10 : PySem.W.nsIn K mainGlobals "enumerate" = some none)
    (z11 : PySem.W.nsIn K mainGlobals "repr" = some none)
    : ∃ fd : FuncData, Fun K "law" "law" sLaw fa fd ∧ (∀ (s : Shared) (u : Value), BindsTo s fd ⟨[u], []⟩ [("_law_script", u)]) ∧
      ∀ (base : Heap) (A : Around) (s : Shared) (H : Hp) (cdv : Value) (a : Addr) (ns : List Int), ns.length ≤ 63 → Bed K mg base A → Room 7 (A.deeper (envOfC "law" (defScope sLaw) s.heap.objs.size fa cdv)) → SqL K H a (ns.map V.int) →
        ∃ t, PSs (cxOf CX0 P w K mg base nLaw "law" (defScope sLaw) fa cdv A [] s H E0).nox (defBody sLaw) t ∧ t { nx := fun _ _ => False, rt := fun v _ => v = .bl true } (L2.start nLaw [.ref a]) H := by
  have e := hfa.symm.trans (PySem.W.mg_of X G aL)
  cases e
  have FB := fun_mk (st := sBegun) lB cB kB
  have mB := PySem.W.mg_of X G aB
  have bB := FB.binds (ps := ["_law_script"]) fun _ _ _ _ _ _ us hl => match us, hl with | [_], _ => rfl
  have FM := fun_mk (st := sMixed) lM cM kM
  have mM := PySem.W.mg_of X G aM
  have bM := FM.binds (ps := ["_law_state"]) fun _ _ _ _ _ _ us hl => match us, hl with | [_], _ => rfl
  have FT := fun_mk (st := sTake) lT cT kT
  have mT := PySem.W.mg_of X G aT
  have bT := FT.binds (ps := ["_law_state", "_law_size"]) fun _ _ _ _ _ _ us hl => match us, hl with | [_, _], _ => rfl
  have FP := fun_mk (st := sPick) lP cP kP
  have mP := PySem.W.mg_of X G aP
  have bP := FP.binds (ps := ["_law_state", "_law_some"]) fun _ _ _ _ _ _ us hl => match us, hl with | [_, _], _ => rfl
  have FS := fun_mk (st := sString) lS cS kS
  have mS := PySem.W.mg_of X G aS
  have bS := FS.binds (ps := ["_law_state"]) fun _ _ _ _ _ _ us hl => match us, hl with | [_], _ => rfl
  have FU := fun_mk (st := sNumber) lU cU kU
  have mU := PySem.W.mg_of X G aU
  have bU := FU.binds (ps := ["_law_state"]) fun _ _ _ _ _ _ us hl => match us, hl with | [_], _ => rfl
  have FV := fun_mk (st := sValue) lV cV kV
  have mV := PySem.W.mg_of X G aV
  have bV := FV.binds (ps := ["_law_state", "_law_height"]) fun _ _ _ _ _ _ us hl => match us, hl with | [_, _], _ => rfl
  have FI := fun_mk (st := sInt) lI cI kI
  have mI := PySem.W.mg_of X G aI
  have bI := FI.binds (ps := ["value"]) fun _ _ _ _ _ _ us hl => match us, hl with | [_], _ => rfl
  have FN := fun_mk (st := sName) lN cN kN
  have mN := PySem.W.mg_of X G aN
  have bN := FN.binds (ps := ["value"]) fun _ _ _ _ _ _ us hl => match us, hl with | [_], _ => rfl
  have FA := fun_mk (st := sAmount) lA cA kA
  have mA := PySem.W.mg_of X G aA
  have bA := FA.binds (ps := ["value"]) fun _ _ _ _ _ _ us hl => match us, hl with | [_], _ => rfl
  have FX := fun_mk (st := sLName) lX cX kX
  have mX := PySem.W.mg_of X G aX
  have bX := FX.binds (ps := ["_law_thing"]) fun _ _ _ _ _ _ us hl => match us, hl with | [_], _ => rfl
  have FY := fun_mk (st := sLAmount) lY cY kY
  have mY := PySem.W.mg_of X G aY
  have bY := FY.binds (ps := ["_law_thing"]) fun _ _ _ _ _ _ us hl => match us, hl with | [_], _ => rfl
  have FL := fun_mk (st := sLaw) lL cL kL
  have mL := PySem.W.mg_of X G aL
  have bL := FL.binds (ps := ["_law_script"]) fun _ _ _ _ _ _ us hl => match us, hl with | [_], _ => rfl
  have T : Names mg := ⟨PySem.W.mg_none_of X G z0, PySem.W.mg_none_of X G z1, PySem.W.mg_none_of X G z2, PySem.W.mg_none_of X G z3, PySem.W.mg_none_of X G z4, PySem.W.mg_none_of X G z5, PySem.W.mg_none_of X G z6, ⟨_, PySem.W.mg_of X G g1⟩, ⟨_, PySem.W.mg_of X G g2⟩, ⟨_, PySem.W.mg_of X G g3⟩⟩
  refine ⟨_, FL, fun s v => .of_eq rfl, fun base A s H cdv a ns hl B hr hS => ?_⟩
  have GM : FnOk P w K mg base CX0 1 _ _ ["_law_state"] (spMixed ns) := ok_mixed ns FM
  have GT : FnOk P w K mg base CX0 2 _ _ ["_law_state", "_law_size"] (spTake ns) := ok_take ns FT GM bM kM mM
  have GP : FnOk P w K mg base CX0 3 _ _ ["_law_state", "_law_some"] (spPick K ns) := ok_pick ns FP GT bT kT mT T.len
  have R : Draw P w K mg base ns fT fP _ _ := ⟨GT, bT, kT, mT, GP, bP, kP, mP, T.len, PySem.W.mg_none_of X G z7⟩
  have GS : FnOk P w K mg base CX0 4 _ _ ["_law_state"] (spString ns) := ok_string ns FS R
  have GU : FnOk P w K mg base CX0 4 _ _ ["_law_state"] (spNumber ns) := ok_number ns FU R
  have mtu := PySem.W.mg_none_of X G z8
  have mdi := PySem.W.mg_none_of X G z9
  have men := PySem.W.mg_none_of X G z10
  have V1 := ok_value (m := 0) ns FV R GS bS kS mS GU bU kU mU (value_none ns) bV mV mtu mdi men T.str
  have V2 := ok_value (m := 1) ns FV R GS bS kS mS GU bU kU mU V1 bV mV mtu mdi men T.str
  have V3 := ok_value (m := 2) ns FV R GS bS kS mS GU bU kU mU V2 bV mV mtu mdi men T.str
  exact ok_law hl B hr hS (ok_begun ns FB T.list) bB kB mB V3 bV kV mV (ok_name FN T) bN (kb_one (fun s w => .of_eq rfl) fun s w => .of_eq rfl) kN mN (ok_amount FA T (ok_int FI T) bI kI mI) bA (kb_one (fun s w => .of_eq rfl) fun s w => .of_eq rfl) kA mA (ok_lname FX T) bX kX mX (ok_lamount FY T) bY kY mY T (PySem.W.mg_none_of X G z7) (PySem.W.mg_none_of X G z11)
end Lw
open PySem PySem.W PyProof.Rows
set_option maxRecDepth 100000 in
set_option maxHeartbeats 0 in
theorem PySem.Challenge.cw_hearpurse_k63_names_and_amounts_holds : PySem.Challenge.rw_hearpurse_k63_names_and_amounts.Holds := by
  w_on; o_law; k_head; (case hw => w_witness2)
  k_fill
  refine Ge.walk_law (l := PySem.Challenge.rw_hearpurse_k63_names_and_amounts) (n := 63) (k := 7) (x := "_law_script") (st := Lw.sLaw) (N := Lw.nLaw) rfl (by decide) rfl ⟨rfl, by decide, by decide⟩ (by decide +kernel) Lw.scLaw (fun w h Y => PySem.W.kIn_of Y) ?F
  case F =>
    intro w mg fa h KX G hmg
    refine' Lw.all_mk KX G hmg ?aB ?lB ?cB ?kB ?aM ?lM ?cM ?kM ?aT ?lT ?cT ?kT ?aP ?lP ?cP ?kP ?aS ?lS ?cS ?kS ?aU ?lU ?cU ?kU ?aV ?lV ?cV ?kV ?aI ?lI ?cI ?kI ?aN ?lN ?cN ?kN ?aA ?lA ?cA ?kA ?aX ?lX ?cX ?kX ?aY ?lY ?cY ?kY ?aL ?lL ?cL ?kL ?g1 ?g2 ?g3 ?z0 ?z1 ?z2 ?z3 ?z4 ?z5 ?z6 ?z7 ?z8 ?z9 ?z10 ?z11
    (case aB => k_is); (case lB => k_is); (case cB => k_is); (case kB => k_is)
    (case aM => k_is); (case lM => k_is); (case cM => k_is); (case kM => k_is)
    (case aT => k_is); (case lT => k_is); (case cT => k_is); (case kT => k_is)
    (case aP => k_is); (case lP => k_is); (case cP => k_is); (case kP => k_is)
    (case aS => k_is); (case lS => k_is); (case cS => k_is); (case kS => k_is)
    (case aU => k_is); (case lU => k_is); (case cU => k_is); (case kU => k_is)
    (case aV => k_is); (case lV => k_is); (case cV => k_is); (case kV => k_is)
    (case aI => k_is); (case lI => k_is); (case cI => k_is); (case kI => k_is)
    (case aN => k_is); (case lN => k_is); (case cN => k_is); (case kN => k_is)
    (case aA => k_is); (case lA => k_is); (case cA => k_is); (case kA => k_is)
    (case aX => k_is); (case lX => k_is); (case cX => k_is); (case kX => k_is)
    (case aY => k_is); (case lY => k_is); (case cY => k_is); (case kY => k_is)
    (case aL => k_is); (case lL => k_is); (case cL => k_is); (case kL => k_is)
    (case g1 => k_is); (case g2 => k_is); (case g3 => k_is)
    (case z0 => k_is); (case z1 => k_is); (case z2 => k_is); (case z3 => k_is); (case z4 => k_is); (case z5 => k_is); (case z6 => k_is); (case z7 => k_is); (case z8 => k_is); (case z9 => k_is); (case z10 => k_is); (case z11 => k_is)

import PyProof.Rows.All
import Wide.All
import OpenK.AllK
import Wide.FinOn
import HandS.ForMost
import HandS.ForExc
import HandS.IsInst
import HandS.Wide
import HandS.Flow
import HandS.TupAny
import HandS.Lambda
import HandS.EndOwn
import HandS.Style
import HandS.Text
import HandS.Flt
import HandS.FStr
import HandS.New0
import PyProof.InstSpecial
import KE.GoesMore
import KE.GoesEnum
import HandS.ClsMeth
import HandS.Property
import HandS.More
import HandS.OwnEq
import HandS.Defaults
import HandS.Star
import HandS.TryOnly
import HandS.ExcInit
import HandS.ExcOwn
import HandS.ExcField
import HandS.WordsExc
import HandS.HotCalls
import HandS.TryMany
import KE.KNestM
import HandS.Comp
import HandS.SetFor
import HandS.Strs
import HandS.Deep
import HandS.DictComp
import HandS.SortRule
import HandS.Conv
import HandS.TupSets
import PyProof.DictMoreH
import KE.KDflt
import PySem.Challenge.RW_spanrows_k38_whole_grids_alike_or_not
set_option Elab.async false
set_option linter.all false
set_option maxRecDepth 100000
section
set_option Elab.async false
set_option linter.all false
set_option maxRecDepth 100000
set_option maxHeartbeats 4000000
set_option autoImplicit false
namespace Ip
open PySem L2
inductive D where
  | non | bl (b : Bool) | int (i : Int) | str (s : Str)
  | tup (l : List D) | lst (l : List D)
  | scr (ns : List Int)
  | ty (n : String)
  | ref (n : Nat)
  | obj (c : Str) (ks : List Str) (vs : List D)
  | cls (c : Str)
  | dK (ks : List Key) (vs : List D)
  | dT (ks : List (List Key)) (vs : List D)
inductive Cell where
  | lst (xs : List D)
  | ins (c : Str) (ks : List Str) (vs : List D)
  | dK (ks : List Key) (vs : List D)
  | dT (ks : List (List Key)) (vs : List D)
abbrev Sto := List Cell
abbrev En := List (Option D)
/-- where the cells stand; what must not be touched meanwhile -/
structure Rho where
  c : List Addr
  t : List Addr
instance : Membership Addr Rho := ⟨fun ρ a => a ∈ ρ.c ∨ a ∈ ρ.t⟩
theorem Rho.inl {ρ : Rho} {a : Addr} (h : a ∈ ρ.c) : a ∈ ρ := Or.inl h
theorem Rho.inr {ρ : Rho} {a : Addr} (h : a ∈ ρ.t) : a ∈ ρ := Or.inr h
structure Gx where
  K : PySem.W.Frag
  cl : Str → Option Addr
/-- some ints -/
def intsV (vs : List V) : Prop := vs ≠ [] ∧ ∀ v ∈ vs, ∃ i : Int, v = .int i
/-- a tuple stands there; one of ints is tracked -/
def TpA (G : Gx) (H : Hp) (a : Addr) (vs : List V) : Prop := SqT G.K H a vs ∧ (intsV vs → H a = some (.tup vs))
theorem TpA.of {G : Gx} {H : Hp} {a : Addr} {vs : List V} (h : H a = some (.tup vs)) : TpA G H a vs := ⟨SqT.of h, fun _ => h⟩
theorem TpA.no {G : Gx} {H : Hp} {a : Addr} {vs : List V} (h : SqT G.K H a vs) (n : ¬ intsV vs) : TpA G H a vs := ⟨h, fun z => absurd z n⟩
mutual
inductive RV (G : Gx) (H : Hp) (ρ : Rho) : D → V → Prop
  | non : RV G H ρ .non .non
  | bl (b : Bool) : RV G H ρ (.bl b) (.bl b)
  | int (i : Int) : RV G H ρ (.int i) (.int i)
  | str (s : Str) : RV G H ρ (.str s) (.str s)
  | ty (n : String) : RV G H ρ (.ty n) (.ty n)
  | tup {a : Addr} {vs : List V} {ds : List D} : TpA G H a vs → RVs G H ρ ds vs → RV G H ρ (.tup ds) (.ref a)
  | lst {a : Addr} {vs : List V} {ds : List D} : H a = some (.lst vs) → a ∉ ρ → RVs G H ρ ds vs → RV G H ρ (.lst ds) (.ref a)
  | scr {a : Addr} {ns : List Int} : (Rd H a (.lst (ns.map V.int)) ∧ a ∉ ρ) ∨ (∀ H', SqL G.K H' a (ns.map V.int)) → RV G H ρ (.scr ns) (.ref a)
  | ref {n : Nat} {a : Addr} : ρ.c[n]? = some a → RV G H ρ (.ref n) (.ref a)
  | obj {c : Str} {C a dx : Addr} {ks : List Str} {ds : List D} {vs : List V} : G.cl c = some C → H a = some (.ins C dx (ks.zip vs)) → ks.length = vs.length → a ∉ ρ → RVs G H ρ ds vs → RV G H ρ (.obj c ks ds) (.ref a)
  | cls {c : Str} {C : Addr} : G.cl c = some C → RV G H ρ (.cls c) (.ref C)
  | dK {a : Addr} {ks : List Key} {vs : List V} {ds : List D} : H a = some (.dK (ks.zip vs)) → ks.length = vs.length → a ∉ ρ → RVs G H ρ ds vs → RV G H ρ (.dK ks ds) (.ref a)
  | dT {a : Addr} {ks : List (List Key)} {vs : List V} {ds : List D} : Rd H a (.dT (ks.zip vs)) → ks.length = vs.length → a ∉ ρ → RVs G H ρ ds vs → RV G H ρ (.dT ks ds) (.ref a)
inductive RVs (G : Gx) (H : Hp) (ρ : Rho) : List D → List V → Prop
  | nil : RVs G H ρ [] []
  | cons {d : D} {v : V} {ds : List D} {vs : List V} : RV G H ρ d v → RVs G H ρ ds vs → RVs G H ρ (d :: ds) (v :: vs)
end
/-- objects that trees speak of -/
def plainO (o : HO) : Prop := (∃ xs, o = .lst xs) ∨ (∃ C dx fs, o = .ins C dx fs) ∨ (∃ q u, o = .frz q u) ∨ (∃ kvs, o = .dK kvs) ∨ ∃ kvs, o = .dT kvs
theorem plainO.l {xs : List V} : plainO (.lst xs) := .inl ⟨_, rfl⟩
theorem plainO.i {C dx : Addr} {fs : List (Str × V)} : plainO (.ins C dx fs) := .inr (.inl ⟨_, _, _, rfl⟩)
theorem plainO.f {q : Obj} {u : HO} : plainO (.frz q u) := .inr (.inr (.inl ⟨_, _, rfl⟩))
theorem plainO.k {kvs : List (Key × V)} : plainO (.dK kvs) := .inr (.inr (.inr (.inl ⟨_, rfl⟩)))
theorem plainO.d {kvs : List (List Key × V)} : plainO (.dT kvs) := .inr (.inr (.inr (.inr ⟨_, rfl⟩)))
theorem plainO.tbl {o : HO} (h : plainO o) (ps : Array Value) : o ≠ .tbl ps := fun z => by rcases h with ⟨_, h⟩ | ⟨_, _, _, h⟩ | ⟨_, _, h⟩ | ⟨_, h⟩ | ⟨_, h⟩ <;> rw [h] at z <;> cases z
/-- trees stay what they are -/
structure Mo (G : Gx) (H : Hp) (ρ : Rho) (H' : Hp) (ρ' : Rho) : Prop where
  pre : ∀ (n : Nat) (a : Addr), ρ.c[n]? = some a → ρ'.c[n]? = some a
  tup : ∀ a xs, TpA G H a xs → TpA G H' a xs
  keep : ∀ (a : Addr) (o : HO), a ∉ ρ → plainO o → H a = some o → H' a = some o ∧ a ∉ ρ'
/-- the heap goes on: the cells stay where they are, what is no cell stays as it is -/
structure Ext (G : Gx) (H : Hp) (ρ : Rho) (H' : Hp) (ρ' : Rho) : Prop where
  pre : ∀ (n : Nat) (a : Addr), ρ.c[n]? = some a → ρ'.c[n]? = some a
  res : ρ'.t = ρ.t
  same : ∀ a, a ∈ ρ.t → H' a = H a
  tup : ∀ a xs, TpA G H a xs → TpA G H' a xs
  keep : ∀ (a : Addr) (o : HO), a ∉ ρ → (∀ ps, o ≠ .tbl ps) → H a = some o → H' a = some o ∧ a ∉ ρ'
theorem Ext.mo {G : Gx} {H H' : Hp} {ρ ρ' : Rho} (e : Ext G H ρ H' ρ') : Mo G H ρ H' ρ' := ⟨e.pre, e.tup, fun a o n p h => e.keep a o n p.tbl h⟩
theorem Ext.refl {G : Gx} {H : Hp} {ρ : Rho} : Ext G H ρ H ρ := ⟨fun _ _ h => h, rfl, fun _ _ => rfl, fun _ _ h => h, fun _ _ h1 _ h2 => ⟨h2, h1⟩⟩
theorem Ext.trans {G : Gx} {H H1 H2 : Hp} {ρ ρ1 ρ2 : Rho} (a : Ext G H ρ H1 ρ1) (b : Ext G H1 ρ1 H2 ρ2) : Ext G H ρ H2 ρ2 :=
  ⟨fun n c h => b.pre n c (a.pre n c h), b.res.trans a.res, fun c hc => (b.same c (by rw [a.res]; exact hc)).trans (a.same c hc), fun c xs h => b.tup c xs (a.tup c xs h), fun c o h1 h3 h2 => b.keep c o (a.keep c o h1 h3 h2).2 h3 (a.keep c o h1 h3 h2).1⟩
theorem Mo.rd {G : Gx} {H H' : Hp} {ρ ρ' : Rho} (e : Mo G H ρ H' ρ') {a : Addr} {kvs : List (List Key × V)} (n : a ∉ ρ) (h : Rd H a (.dT kvs)) : Rd H' a (.dT kvs) ∧ a ∉ ρ' := by
  rcases h with h | ⟨o, h⟩
  · exact ⟨.inl (e.keep _ _ n .d h).1, (e.keep _ _ n .d h).2⟩
  · exact ⟨.inr ⟨o, (e.keep _ _ n .f h).1⟩, (e.keep _ _ n .f h).2⟩
mutual
theorem RV.mo {G : Gx} {H H' : Hp} {ρ ρ' : Rho} (e : Mo G H ρ H' ρ') : ∀ {d : D} {v : V}, RV G H ρ d v → RV G H' ρ' d v
  | _, _, .non => .non
  | _, _, .bl b => .bl b
  | _, _, .int i => .int i
  | _, _, .str s => .str s
  | _, _, .ty s => .ty s
  | _, _, .tup h r => .tup (e.tup _ _ h) (RVs.mo e r)
  | _, _, .lst h n r => .lst (e.keep _ _ n .l h).1 (e.keep _ _ n .l h).2 (RVs.mo e r)
  | _, _, .scr h => .scr (by
      rcases h with ⟨h | ⟨o, h⟩, n⟩ | h
      · exact .inl ⟨.inl (e.keep _ _ n .l h).1, (e.keep _ _ n .l h).2⟩
      · exact .inl ⟨.inr ⟨o, (e.keep _ _ n .f h).1⟩, (e.keep _ _ n .f h).2⟩
      · exact .inr h)
  | _, _, .ref h => .ref (e.pre _ _ h)
  | _, _, .obj c h l n r => .obj c (e.keep _ _ n .i h).1 l (e.keep _ _ n .i h).2 (RVs.mo e r)
  | _, _, .cls h => .cls h
  | _, _, .dK h l n r => .dK (e.keep _ _ n .k h).1 l (e.keep _ _ n .k h).2 (RVs.mo e r)
  | _, _, .dT h l n r => .dT (e.rd n h).1 l (e.rd n h).2 (RVs.mo e r)
theorem RVs.mo {G : Gx} {H H' : Hp} {ρ ρ' : Rho} (e : Mo G H ρ H' ρ') : ∀ {ds : List D} {vs : List V}, RVs G H ρ ds vs → RVs G H' ρ' ds vs
  | _, _, .nil => .nil
  | _, _, .cons a b => .cons (RV.mo e a) (RVs.mo e b)
end
theorem RV.mono {G : Gx} {H H' : Hp} {ρ ρ' : Rho} (e : Ext G H ρ H' ρ') {d : D} {v : V} (h : RV G H ρ d v) : RV G H' ρ' d v := h.mo e.mo
theorem RVs.mono {G : Gx} {H H' : Hp} {ρ ρ' : Rho} (e : Ext G H ρ H' ρ') {d : List D} {v : List V} (h : RVs G H ρ d v) : RVs G H' ρ' d v := h.mo e.mo
section
variable {G : Gx} {H : Hp} {ρ : Rho}
theorem RVs.length : ∀ {ds : List D} {vs : List V}, RVs G H ρ ds vs → vs.length = ds.length
  | _, _, .nil => rfl
  | _, _, .cons _ t => by simp [RVs.length t]
theorem RVs.get : ∀ {ds : List D} {vs : List V} {i : Nat} {d : D}, RVs G H ρ ds vs → ds[i]? = some d → ∃ v, vs[i]? = some v ∧ RV G H ρ d v
  | _, _, _, _, .nil, h => by simp at h
  | _, _, 0, _, .cons r _, h => by simp at h; subst h; exact ⟨_, rfl, r⟩
  | _, _, i + 1, _, .cons _ t, h => by
    obtain ⟨v, h1, h2⟩ := RVs.get (i := i) t (by simpa using h)
    exact ⟨v, by simpa using h1, h2⟩
theorem RVs.append : ∀ {ds es : List D} {vs ws : List V}, RVs G H ρ ds vs → RVs G H ρ es ws → RVs G H ρ (ds ++ es) (vs ++ ws)
  | _, _, _, _, .nil, b => b
  | _, _, _, _, .cons r t, b => .cons r (RVs.append t b)
theorem RVs.take : ∀ {ds : List D} {vs : List V} (n : Nat), RVs G H ρ ds vs → RVs G H ρ (ds.take n) (vs.take n)
  | _, _, 0, _ => .nil
  | _, _, _ + 1, .nil => .nil
  | _, _, n + 1, .cons r t => .cons r (RVs.take n t)
theorem RVs.drop : ∀ {ds : List D} {vs : List V} (n : Nat), RVs G H ρ ds vs → RVs G H ρ (ds.drop n) (vs.drop n)
  | _, _, 0, h => h
  | _, _, _ + 1, .nil => .nil
  | _, _, n + 1, .cons _ t => RVs.drop n t
theorem RVs.set {d : D} {v : V} (r : RV G H ρ d v) : ∀ {ds : List D} {vs : List V} (i : Nat), RVs G H ρ ds vs → RVs G H ρ (ds.set i d) (vs.set i v)
  | _, _, _, .nil => .nil
  | _, _, 0, .cons _ t => .cons r t
  | _, _, i + 1, .cons q t => .cons q (RVs.set r i t)
theorem RVs.rep {ds : List D} {vs : List V} (h : RVs G H ρ ds vs) : ∀ k : Nat, RVs G H ρ (List.replicate k ds).flatten (List.replicate k vs).flatten
  | 0 => .nil
  | k + 1 => by
    rw [List.replicate_succ, List.replicate_succ, List.flatten_cons, List.flatten_cons]
    exact RVs.append h (RVs.rep h k)
theorem RVs.ints : ∀ (ns : List Int), RVs G H ρ (ns.map D.int) (ns.map V.int)
  | [] => .nil
  | n :: ns => .cons (.int n) (RVs.ints ns)
theorem RVs.one {d : D} {v : V} (h : RV G H ρ d v) : RVs G H ρ [d] [v] := .cons h .nil
theorem RVs.two {d e : D} {v w : V} (h : RV G H ρ d v) (h2 : RV G H ρ e w) : RVs G H ρ [d, e] [v, w] := .cons h (.cons h2 .nil)
def COk (G : Gx) (H : Hp) (ρ : Rho) (a : Addr) : Cell → Prop
  | .lst ds => ∃ vs, H a = some (.lst vs) ∧ RVs G H ρ ds vs
  | .ins c ks ds => ∃ C dx vs, G.cl c = some C ∧ H a = some (.ins C dx (ks.zip vs)) ∧ ks.length = vs.length ∧ RVs G H ρ ds vs
  | .dK ks ds => ∃ vs, H a = some (.dK (ks.zip vs)) ∧ ks.length = vs.length ∧ RVs G H ρ ds vs
  | .dT ks ds => ∃ vs, H a = some (.dT (ks.zip vs)) ∧ ks.length = vs.length ∧ RVs G H ρ ds vs
def isCO (o : HO) : Prop := (∃ xs, o = .lst xs) ∨ (∃ C dx fs, o = .ins C dx fs) ∨ (∃ kvs, o = .dK kvs) ∨ ∃ kvs, o = .dT kvs
theorem isCO.i {C dx : Addr} {fs : List (Str × V)} : isCO (.ins C dx fs) := .inr (.inl ⟨_, _, _, rfl⟩)
theorem isCO.tup {o : HO} (h : isCO o) (xs : List V) : o ≠ .tup xs := fun z => by rcases h with ⟨_, h⟩ | ⟨_, _, _, h⟩ | ⟨_, h⟩ | ⟨_, h⟩ <;> rw [h] at z <;> cases z
theorem isCO.frz {o : HO} (h : isCO o) (q : Obj) (u : HO) : o ≠ .frz q u := fun z => by rcases h with ⟨_, h⟩ | ⟨_, _, _, h⟩ | ⟨_, h⟩ | ⟨_, h⟩ <;> rw [h] at z <;> cases z
theorem isCO.tbl {o : HO} (h : isCO o) (ps : Array Value) : o ≠ .tbl ps := fun z => by rcases h with ⟨_, h⟩ | ⟨_, _, _, h⟩ | ⟨_, h⟩ | ⟨_, h⟩ <;> rw [h] at z <;> cases z
theorem isCO.code {o : HO} (h : isCO o) {c : Addr} {q : Str} : o ≠ LamX.CodeO c q := fun z => by unfold LamX.CodeO at z; rcases h with ⟨_, h⟩ | ⟨_, _, _, h⟩ | ⟨_, h⟩ | ⟨_, h⟩ <;> rw [h] at z <;> cases z
/-- the name of a lambda -/
def lamQ (q : Str) : Bool := q.cps.toList.getLast? == some 62
/-- the tables of code objects that are told of -/
def TabR (G : Gx) (H : Hp) : Prop := ∀ (q : Str) (P : Addr), lamQ q = true → G.cl q = some P → LamX.TabS H P q
theorem TabR.keeps {H H' : Hp} (t : TabR G H) (e : ∀ b o, H b = some o → ¬ isCO o → H' b = some o) : TabR G H' := fun q P hq hc => by
  obtain ⟨ps, h1, h2, h3⟩ := t q P hq hc
  refine ⟨ps, e _ _ h1 (fun z => z.tbl ps rfl), h2, fun pos cv hcv => ?_⟩
  obtain ⟨c, e1, e2⟩ := h3 pos cv hcv
  exact ⟨c, e1, e _ _ e2 (fun z => z.code rfl)⟩
structure RS (G : Gx) (H : Hp) (ρ : Rho) (M : Sto) : Prop where
  len : ρ.c.length = M.length
  nd : ρ.c.Nodup
  dis : ∀ a, a ∈ ρ.c → a ∉ ρ.t
  trt : ∀ a, a ∈ ρ.t → ∃ o, H a = some o ∧ isCO o
  at_ : ∀ (n : Nat) (c : Cell), M[n]? = some c → ∃ a, ρ.c[n]? = some a ∧ COk G H ρ a c
  tb : TabR G H
theorem RS.trk {M : Sto} (S : RS G H ρ M) {a : Addr} (h : a ∈ ρ.c) : ∃ (n : Nat) (c : Cell), ρ.c[n]? = some a ∧ M[n]? = some c ∧ COk G H ρ a c := by
  obtain ⟨n, hn, e⟩ := List.getElem_of_mem h
  have hm : n < M.length := by rw [← S.len]; exact hn
  obtain ⟨b, hb, q⟩ := S.at_ n M[n] (List.getElem?_eq_getElem hm)
  have hb' : ρ.c[n]? = some a := by rw [List.getElem?_eq_getElem hn, e]
  rw [hb'] at hb
  cases hb
  exact ⟨n, M[n], hb', List.getElem?_eq_getElem hm, q⟩
theorem COk.has {a : Addr} {c : Cell} (h : COk G H ρ a c) : ∃ o, H a = some o ∧ isCO o := by
  cases c with
  | lst ds => obtain ⟨vs, e, _⟩ := h; exact ⟨_, e, .inl ⟨_, rfl⟩⟩
  | ins c ks ds => obtain ⟨C, dx, vs, _, e, _⟩ := h; exact ⟨_, e, .i⟩
  | dK ks ds => obtain ⟨vs, e, _⟩ := h; exact ⟨_, e, .inr (.inr (.inl ⟨_, rfl⟩))⟩
  | dT ks ds => obtain ⟨vs, e, _⟩ := h; exact ⟨_, e, .inr (.inr (.inr ⟨_, rfl⟩))⟩
theorem COk.mo {H' : Hp} {ρ' : Rho} {a : Addr} {c : Cell} (e : Mo G H ρ H' ρ') (hk : H' a = H a) (h : COk G H ρ a c) : COk G H' ρ' a c := by
  cases c with
  | lst ds => obtain ⟨vs, q, r⟩ := h; exact ⟨vs, hk.trans q, r.mo e⟩
  | ins c ks ds => obtain ⟨C, dx, vs, hc, q, l, r⟩ := h; exact ⟨C, dx, vs, hc, hk.trans q, l, r.mo e⟩
  | dK ks ds => obtain ⟨vs, q, l, r⟩ := h; exact ⟨vs, hk.trans q, l, r.mo e⟩
  | dT ks ds => obtain ⟨vs, q, l, r⟩ := h; exact ⟨vs, hk.trans q, l, r.mo e⟩
theorem COk.mono {H' : Hp} {ρ' : Rho} {a : Addr} {c : Cell} (e : Ext G H ρ H' ρ') (hk : H' a = H a) (h : COk G H ρ a c) : COk G H' ρ' a c := by
  cases c with
  | lst ds => obtain ⟨vs, q, r⟩ := h; exact ⟨vs, hk.trans q, r.mono e⟩
  | ins c ks ds => obtain ⟨C, dx, vs, hc, q, l, r⟩ := h; exact ⟨C, dx, vs, hc, hk.trans q, l, r.mono e⟩
  | dK ks ds => obtain ⟨vs, q, l, r⟩ := h; exact ⟨vs, hk.trans q, l, r.mono e⟩
  | dT ks ds => obtain ⟨vs, q, l, r⟩ := h; exact ⟨vs, hk.trans q, l, r.mono e⟩
theorem RS.has {M : Sto} (S : RS G H ρ M) {a : Addr} (h : a ∈ ρ) : ∃ o, H a = some o ∧ isCO o := by
  rcases h with h | h
  · obtain ⟨_, _, _, _, q⟩ := S.trk h
    exact q.has
  · exact S.trt a h
theorem RS.fresh {M : Sto} (S : RS G H ρ M) {p : Addr} (hp : H p = none) : p ∉ ρ := fun hm => by
  obtain ⟨o, e, _⟩ := S.has hm
  rw [hp] at e; cases e
theorem sqT_upd {p : Addr} {o : HO} {a : Addr} {xs : List V} (h : SqT G.K H a xs) (hn : ∀ u, H p = some u → (∀ ys, u ≠ .tup ys) ∧ (∀ q w, u ≠ .frz q w)) : SqT G.K (upd H p o) a xs := by
  rcases h with (h | ⟨q, h⟩) | h
  · have : a ≠ p := fun z => by subst z; exact (hn _ h).1 _ rfl
    exact .inl (.inl (by rw [upd_ne this]; exact h))
  · have : a ≠ p := fun z => by subst z; exact (hn _ h).2 _ _ rfl
    exact .inl (.inr ⟨q, by rw [upd_ne this]; exact h⟩)
  · exact .inr h
theorem tpA_upd {p : Addr} {o : HO} {a : Addr} {xs : List V} (h : TpA G H a xs) (hn : ∀ u, H p = some u → (∀ ys, u ≠ .tup ys) ∧ (∀ q w, u ≠ .frz q w)) : TpA G (upd H p o) a xs :=
  ⟨sqT_upd h.1 hn, fun z => by
    have e := h.2 z
    rw [upd_ne (fun q : a = p => (hn _ (by rw [← q]; exact e)).1 _ rfl)]
    exact e⟩
theorem RS.ne_new {M : Sto} (S : RS G H ρ M) {p a : Addr} (hp : H p = none) (h : a ∈ ρ) : a ≠ p := fun z => by subst z; exact S.fresh hp h
/-- a new thing that is no cell -/
theorem Ext.new {M : Sto} (S : RS G H ρ M) {p : Addr} {o : HO} (hp : H p = none) : Ext G H ρ (upd H p o) ρ :=
  ⟨fun _ _ h => h, rfl, fun a h => upd_ne (S.ne_new hp (.inr h)), fun a xs h => tpA_upd h (fun u z => by rw [hp] at z; cases z), fun a u h1 _ h2 => ⟨by rw [upd_ne (ne_of_none h2 hp)]; exact h2, h1⟩⟩
theorem RS.ext {M : Sto} (S : RS G H ρ M) {H' : Hp} (e : Ext G H ρ H' ρ) (hk : ∀ a, a ∈ ρ.c → H' a = H a) (ht : TabR G H') : RS G H' ρ M :=
  ⟨S.len, S.nd, S.dis, fun a h => by rw [e.same a h]; exact S.trt a h, fun n c h => by
    obtain ⟨a, ha, q⟩ := S.at_ n c h
    exact ⟨a, ha, q.mono e (hk a (List.mem_of_getElem? ha))⟩, ht⟩
theorem RS.new {M : Sto} (S : RS G H ρ M) {p : Addr} {o : HO} (hp : H p = none) : RS G (upd H p o) ρ M :=
  S.ext (Ext.new S hp) (fun a ha => upd_ne (S.ne_new hp (.inl ha))) (S.tb.keeps fun b u z _ => by rw [upd_ne (ne_of_none z hp)]; exact z)
def Rho.add (ρ : Rho) (p : Addr) : Rho := ⟨ρ.c ++ [p], ρ.t⟩
/-- a new cell -/
theorem Ext.cell {M : Sto} (S : RS G H ρ M) {p : Addr} {o : HO} (hp : H p = none) : Ext G H ρ (upd H p o) (ρ.add p) :=
  ⟨fun n a h => by show (ρ.c ++ [p])[n]? = some a; rw [List.getElem?_append_left (List.getElem?_eq_some_iff.mp h).1]; exact h, rfl, fun a h => upd_ne (S.ne_new hp (.inr h)), fun a xs h => tpA_upd h (fun u z => by rw [hp] at z; cases z),
   fun a u h1 _ h2 => ⟨by rw [upd_ne (ne_of_none h2 hp)]; exact h2, fun z => by
     rcases z with z | z
     · rcases List.mem_append.mp z with z | z
       · exact h1 (.inl z)
       · exact ne_of_none h2 hp (by simpa using z)
     · exact h1 (.inr z)⟩⟩
theorem RS.cell {M : Sto} (S : RS G H ρ M) {p : Addr} {o : HO} {c : Cell} (hp : H p = none) (hc : COk G (upd H p o) (ρ.add p) p c) : RS G (upd H p o) (ρ.add p) (M ++ [c]) :=
  ⟨by show (ρ.c ++ [p]).length = _; simp [S.len], List.nodup_append.mpr ⟨S.nd, by simp, fun a ha b hb => by
      have : b = p := by simpa using hb
      subst this
      exact S.ne_new hp (.inl ha)⟩,
   fun a ha hb => by
      rcases List.mem_append.mp ha with z | z
      · exact S.dis a z hb
      · exact S.ne_new hp (.inr hb) (by simpa using z),
   fun a h => by rw [upd_ne (S.ne_new hp (.inr h))]; exact S.trt a h,
   fun n c' h => by
    by_cases hn : n < M.length
    · rw [List.getElem?_append_left hn] at h
      obtain ⟨a, ha, q⟩ := S.at_ n c' h
      refine ⟨a, ?_, q.mono (Ext.cell S hp) (upd_ne (S.ne_new hp (.inl (List.mem_of_getElem? ha))))⟩
      show (ρ.c ++ [p])[n]? = some a
      rw [List.getElem?_append_left (by rw [S.len]; exact hn)]; exact ha
    · have e : n = M.length := by
        have := (List.getElem?_eq_some_iff.mp h).1
        simp at this; omega
      subst e
      simp at h
      subst h
      exact ⟨p, by show (ρ.c ++ [p])[M.length]? = some p; rw [← S.len]; simp, hc⟩, S.tb.keeps fun b u z _ => by rw [upd_ne (ne_of_none z hp)]; exact z⟩
/-- a cell is written -/
theorem Ext.write {M : Sto} (S : RS G H ρ M) {n : Nat} {a : Addr} {o : HO} (ha : ρ.c[n]? = some a) : Ext G H ρ (upd H a o) ρ :=
  ⟨fun _ _ h => h, rfl, fun b h => upd_ne (fun z => by subst z; exact S.dis b (List.mem_of_getElem? ha) h), fun b xs h => tpA_upd h (fun u z => by
      obtain ⟨w, e, q⟩ := S.has (.inl (List.mem_of_getElem? ha))
      rw [e] at z; cases z; exact ⟨q.tup, q.frz⟩),
    fun b u h1 _ h2 => ⟨by rw [upd_ne (fun z => h1 (by rw [z]; exact .inl (List.mem_of_getElem? ha)))]; exact h2, h1⟩⟩
theorem nodup_at : ∀ {l : List Addr}, l.Nodup → ∀ {n m : Nat} {a : Addr}, l[n]? = some a → l[m]? = some a → n = m
  | [], _, _, _, _, h, _ => by simp at h
  | x :: l, nd, 0, 0, _, _, _ => rfl
  | x :: l, nd, 0, m + 1, a, h1, h2 => by
    have e : x = a := by simpa using h1
    subst e
    exact absurd (List.mem_of_getElem? (by simpa using h2)) (List.nodup_cons.mp nd).1
  | x :: l, nd, n + 1, 0, a, h1, h2 => by
    have e : x = a := by simpa using h2
    subst e
    exact absurd (List.mem_of_getElem? (by simpa using h1)) (List.nodup_cons.mp nd).1
  | x :: l, nd, n + 1, m + 1, a, h1, h2 => by
    rw [nodup_at (List.nodup_cons.mp nd).2 (n := n) (m := m) (a := a) (by simpa using h1) (by simpa using h2)]
theorem RS.write {M : Sto} (S : RS G H ρ M) {n : Nat} {a : Addr} {o : HO} {c : Cell} (ha : ρ.c[n]? = some a) (hc : COk G (upd H a o) ρ a c) : RS G (upd H a o) ρ (M.set n c) :=
  ⟨by simp [S.len], S.nd, S.dis, fun b h => by rw [(Ext.write S ha).same b h]; exact S.trt b h, fun m c' h => by
    by_cases hm : m = n
    · subst hm
      have hl : m < M.length := by rw [← S.len]; exact (List.getElem?_eq_some_iff.mp ha).1
      rw [List.getElem?_set_self hl] at h
      cases h
      exact ⟨a, ha, hc⟩
    · rw [List.getElem?_set_ne (Ne.symm hm)] at h
      obtain ⟨b, hb, q⟩ := S.at_ m c' h
      exact ⟨b, hb, q.mono (Ext.write S ha) (upd_ne fun z => by subst z; exact hm (nodup_at S.nd hb ha))⟩, S.tb.keeps fun b u z nz => by
    rw [upd_ne fun e => ?_]
    · exact z
    · obtain ⟨w, e1, q⟩ := S.has (.inl (List.mem_of_getElem? ha))
      rw [e, e1] at z
      cases z
      exact nz q⟩
end
def RE (G : Gx) (H : Hp) (ρ : Rho) (env : En) (σ : L2.St) : Prop := env.length = σ.length ∧ ∀ (i : Nat) (d : D), env[i]? = some (some d) → ∃ v, σ[i]? = some (some v) ∧ RV G H ρ d v
theorem RE.mo {G : Gx} {H H' : Hp} {ρ ρ' : Rho} {env : En} {σ : L2.St} (e : Mo G H ρ H' ρ') (h : RE G H ρ env σ) : RE G H' ρ' env σ :=
  ⟨h.1, fun i d q => let ⟨v, a, b⟩ := h.2 i d q; ⟨v, a, b.mo e⟩⟩
theorem RE.mono {G : Gx} {H H' : Hp} {ρ ρ' : Rho} {env : En} {σ : L2.St} (e : Ext G H ρ H' ρ') (h : RE G H ρ env σ) : RE G H' ρ' env σ :=
  ⟨h.1, fun i d q => let ⟨v, a, b⟩ := h.2 i d q; ⟨v, a, b.mono e⟩⟩
theorem RE.set {G : Gx} {H : Hp} {ρ : Rho} {env : En} {σ : L2.St} {d : D} {v : V} (i : Nat) (h : RE G H ρ env σ) (r : RV G H ρ d v) : RE G H ρ (env.set i (some d)) (σ.set i (some v)) :=
  ⟨by simp [h.1], fun j d' q => by
    by_cases hj : j = i
    · subst hj
      have hl : j < env.length := by
        have := (List.getElem?_eq_some_iff.mp q).1
        simpa using this
      rw [List.getElem?_set_self hl] at q
      cases q
      exact ⟨v, List.getElem?_set_self (by rw [← h.1]; exact hl), r⟩
    · rw [List.getElem?_set_ne (Ne.symm hj)] at q
      obtain ⟨w, a, b⟩ := h.2 j d' q
      exact ⟨w, by rw [List.getElem?_set_ne (Ne.symm hj)]; exact a, b⟩⟩
structure Exn where
  c : Str
  ks : List Str
  vs : List D
inductive Out (α : Type) where
  | ok (a : α) (M : Sto)
  | exc (e : Exn) (env : En) (M : Sto)
  | bad
def Out.post {α : Type} (o : Out α) (Q : α → Sto → Prop) (E : Exn → En → Sto → Prop) : Prop :=
  match o with
  | .ok a M => Q a M
  | .exc e env M => E e env M
  | .bad => False
def Out.bind {α β : Type} (o : Out α) (k : α → Sto → Out β) : Out β :=
  match o with
  | .ok a M => k a M
  | .exc e env M => .exc e env M
  | .bad => .bad
theorem post_bind {α β : Type} {o : Out α} {k : α → Sto → Out β} {Q : β → Sto → Prop} {E : Exn → En → Sto → Prop} (h : (o.bind k).post Q E) : o.post (fun a M => (k a M).post Q E) E := by
  cases o <;> exact h
theorem Out.post.imp {α : Type} {o : Out α} {Q Q' : α → Sto → Prop} {E E' : Exn → En → Sto → Prop} (h : o.post Q E) (hq : ∀ a M, Q a M → Q' a M) (he : ∀ e env M, E e env M → E' e env M) : o.post Q' E' := by
  cases o with
  | ok a M => exact hq _ _ h
  | exc e env M => exact he _ _ _ h
  | bad => exact h
def eP (G : Gx) (W : WX) (H : Hp) (ρ : Rho) : Exn → En → Sto → Prop := fun e env M' =>
  ∀ ρ' H' σ' C d vs, Ext G H ρ H' ρ' → RS G H' ρ' M' → RE G H' ρ' env σ' → G.cl e.c = some C → H' d = some (.xd (e.ks.zip vs)) → d ∉ ρ' → e.ks.length = vs.length → RVs G H' ρ' e.vs vs → W (.ref C) (some d) σ' H'
def oP (G : Gx) (H : Hp) (ρ : Rho) (Q : VK) : D → Sto → Prop := fun d M' => ∀ ρ' v H', Ext G H ρ H' ρ' → RS G H' ρ' M' → RV G H' ρ' d v → Q v H'
def bP (G : Gx) (H : Hp) (ρ : Rho) (Q : Bool → Hp → Prop) : Bool → Sto → Prop := fun b M' => ∀ ρ' H', Ext G H ρ H' ρ' → RS G H' ρ' M' → Q b H'
def aP (G : Gx) (H : Hp) (ρ : Rho) (Q : List V → Hp → Prop) : List D → Sto → Prop := fun ds M' => ∀ ρ' vs H', Ext G H ρ H' ρ' → RS G H' ρ' M' → RVs G H' ρ' ds vs → Q vs H'
section
variable {G : Gx} {W : WX} {H H1 : Hp} {ρ ρ1 : Rho}
theorem eP.sh (x : Ext G H ρ H1 ρ1) {e : Exn} {env : En} {M : Sto} (h : eP G W H ρ e env M) : eP G W H1 ρ1 e env M :=
  fun ρ' H' σ' C d vs a b c e1 e2 e3 e4 e5 => h ρ' H' σ' C d vs (x.trans a) b c e1 e2 e3 e4 e5
theorem oP.sh (x : Ext G H ρ H1 ρ1) {Q : VK} {d : D} {M : Sto} (h : oP G H ρ Q d M) : oP G H1 ρ1 Q d M := fun ρ' v H' a b c => h ρ' v H' (x.trans a) b c
theorem bP.sh (x : Ext G H ρ H1 ρ1) {Q : Bool → Hp → Prop} {d : Bool} {M : Sto} (h : bP G H ρ Q d M) : bP G H1 ρ1 Q d M := fun ρ' H' a b => h ρ' H' (x.trans a) b
end
abbrev DE := En → Sto → Out D
abbrev DA := En → Sto → Out (List D)
abbrev DT := En → Sto → Out Bool
def dE (G : Gx) (W : WX) (f : DE) : TE := fun σ H Q => ∃ ρ env M, RE G H ρ env σ ∧ RS G H ρ M ∧ (f env M).post (oP G H ρ Q) (eP G W H ρ)
def dA (G : Gx) (W : WX) (f : DA) : TA := fun σ H Q => ∃ ρ env M, RE G H ρ env σ ∧ RS G H ρ M ∧ (f env M).post (aP G H ρ Q) (eP G W H ρ)
def dT (G : Gx) (W : WX) (f : DT) : TT := fun σ H Q => ∃ ρ env M, RE G H ρ env σ ∧ RS G H ρ M ∧ (f env M).post (bP G H ρ Q) (eP G W H ρ)
end Ip
end
section
set_option Elab.async false
set_option linter.all false
set_option maxRecDepth 100000
set_option maxHeartbeats 4000000
set_option autoImplicit false
namespace Ip
open PySem L2
theorem PEweak {X : Cx} {e : Expr} {t t' : TE} (h : PE X e t) (w : ∀ σ H Q, t' σ H Q → t σ H Q) : PE X e t' := ⟨fun pins s σ H Q I z => h.run pins s σ H Q I (w σ H Q z)⟩
theorem PTweak {X : Cx} {e : Expr} {t t' : TT} (h : PT X e t) (w : ∀ σ H Q, t' σ H Q → t σ H Q) : PT X e t' := ⟨fun pins s σ H Q I z => h.run pins s σ H Q I (w σ H Q z)⟩
theorem PWweak {X : Cx} {e : Expr} {t t' : TT} (h : PW X e t) (w : ∀ σ H Q, t' σ H Q → t σ H Q) : PW X e t' := ⟨fun wh pins s σ H Q I z => h.run wh pins s σ H Q I (w σ H Q z)⟩
theorem PAweak {X : Cx} {e : List Expr} {t t' : TA} (h : PA X e t) (w : ∀ σ H Q, t' σ H Q → t σ H Q) : PA X e t' := ⟨fun pos pins s σ H Q I z => h.run pos pins s σ H Q I (w σ H Q z)⟩
theorem PSweak {X : Cx} {e : Stmt} {t t' : TS} (h : PS X e t) (w : ∀ D σ H, t' D σ H → t D σ H) : PS X e t' := ⟨fun pins s σ H D I z => h.run pins s σ H D I (w D σ H z)⟩
theorem PSsweak {X : Cx} {e : List Stmt} {t t' : TS} (h : PSs X e t) (w : ∀ D σ H, t' D σ H → t D σ H) : PSs X e t' := ⟨fun pins s σ H D I z => h.run pins s σ H D I (w D σ H z)⟩
theorem PIweak {X : Cx} {tg e : Expr} {t t' : TI} (h : PI X tg e t) (w : ∀ σ H Q, t' σ H Q → t σ H Q) : PI X tg e t' := ⟨fun pins s σ H Q I z => h.run pins s σ H Q I (w σ H Q z)⟩
theorem PTsweak {X : Cx} {e : List Expr} {t t' : TT} (h : PTs X e t) (w : ∀ σ H Q, t' σ H Q → t σ H Q) : PTs X e t' := ⟨fun pins s σ H Q I z => h.run pins s σ H Q I (w σ H Q z)⟩
theorem POweak {X : Cx} {e : Option Expr} {t t' : TO} (h : PO X e t) (w : ∀ σ H Q, t' σ H Q → t σ H Q) : PO X e t' := ⟨fun pins s σ H Q I z => h.run pins s σ H Q I (w σ H Q z)⟩
abbrev gx (X : Cx) (cl : Str → Option Addr) : Gx := ⟨X.K, cl⟩
def SE (X : Cx) (cl : Str → Option Addr) (W : WX) (e : Expr) (f : DE) : Prop := PE X e (dE (gx X cl) W f)
def SA (X : Cx) (cl : Str → Option Addr) (W : WX) (es : List Expr) (f : DA) : Prop := PA X es (dA (gx X cl) W f)
def ST (X : Cx) (cl : Str → Option Addr) (W : WX) (e : Expr) (f : DT) : Prop := PT X e (dT (gx X cl) W f)
def SW (X : Cx) (cl : Str → Option Addr) (W : WX) (e : Expr) (f : DT) : Prop := PW X e (dT (gx X cl) W f)
def dVar (i : Nat) : DE := fun env M => match env[i]? with
  | some (some d) => .ok d M
  | _ => .bad
def dC (d : D) : DE := fun _ M => .ok d M
def liftM (o : Option (D × Sto)) : Out D := match o with
  | some p => .ok p.1 p.2
  | none => .bad
abbrev G2 := D → D → Sto → Option (D × Sto)
def dBin (g : G2) (fa fb : DE) : DE := fun env M => (fa env M).bind fun x M1 => (fb env M1).bind fun y M2 => liftM (g x y M2)
def dUn (g : D → Sto → Option (D × Sto)) (fa : DE) : DE := fun env M => (fa env M).bind fun x M1 => liftM (g x M1)
def dNilA : DA := fun _ M => .ok [] M
def dConsA (fa : DE) (fr : DA) : DA := fun env M => (fa env M).bind fun x M1 => (fr env M1).bind fun xs M2 => .ok (x :: xs) M2
def dTup (fa : DA) : DE := fun env M => (fa env M).bind fun xs M1 => if xs.length ≤ 16777216 then .ok (.tup xs) M1 else .bad
def dLst (fa : DA) : DE := fun env M => (fa env M).bind fun xs M1 => if xs.length ≤ 16777216 then .ok (.lst xs) M1 else .bad
def dLstC (fa : DA) : DE := fun env M => (fa env M).bind fun xs M1 => if xs.length ≤ 16777216 then .ok (.ref M1.length) (M1 ++ [.lst xs]) else .bad
def dCallB (g : List D → Sto → Option (D × Sto)) (fa : DA) : DE := fun env M => (fa env M).bind fun xs M1 => liftM (g xs M1)
def dIfE (ft : DT) (fa fb : DE) : DE := fun env M => (ft env M).bind fun c M1 => if c then fa env M1 else fb env M1
def dAndV (fa fb : DE) : DE := fun env M => (fa env M).bind fun x M1 => match x with
  | .bl true => fb env M1
  | .bl false => .ok (.bl false) M1
  | _ => .bad
def dOrV (fa fb : DE) : DE := fun env M => (fa env M).bind fun x M1 => match x with
  | .bl true => .ok (.bl true) M1
  | .bl false => fb env M1
  | _ => .bad
def dNotV (fa : DE) : DE := fun env M => (fa env M).bind fun x M1 => match x with
  | .bl b => .ok (.bl (!b)) M1
  | _ => .bad
def dAnd (fa fb : DT) : DT := fun env M => (fa env M).bind fun c M1 => if c then fb env M1 else .ok false M1
def dOr (fa fb : DT) : DT := fun env M => (fa env M).bind fun c M1 => if c then .ok true M1 else fb env M1
def dNot (fa : DT) : DT := fun env M => (fa env M).bind fun c M1 => .ok (!c) M1
/-- the truth of a value that is no object -/
def truD (x : D) (M : Sto) : Option Bool := match x with
  | .non => some false
  | .bl b => some b
  | .int i => some (i != 0)
  | .lst l => some (!l.isEmpty)
  | .tup l => some (!l.isEmpty)
  | .ref n => match M[n]? with
    | some (.lst l) => some (!l.isEmpty)
    | _ => none
  | _ => none
def dTru (fa : DE) : DT := fun env M => (fa env M).bind fun x M1 => match truD x M1 with
  | some b => .ok b M1
  | none => .bad
def dChain (g g' : G2) (fa fb fc : DE) : DE := fun env M => (fa env M).bind fun x M1 => (fb env M1).bind fun y M2 => (liftM (g x y M2)).bind fun z M3 => match z with
  | .bl true => (fc env M3).bind fun w M4 => liftM (g' y w M4)
  | .bl false => .ok (.bl false) M3
  | _ => .bad
def OpS (G : Gx) (r : R2) (g : G2) : Prop := ∀ (H : Hp) (ρ : Rho) (M : Sto) (x y : V) (dx dy d : D) (M' : Sto) (Q : VK), RS G H ρ M → RV G H ρ dx x → RV G H ρ dy y → g dx dy M = some (d, M') → oP G H ρ Q d M' → r x y H Q
def UnS (G : Gx) (r : V → Hp → VK → Prop) (g : D → Sto → Option (D × Sto)) : Prop := ∀ (H : Hp) (ρ : Rho) (M : Sto) (x : V) (dx d : D) (M' : Sto) (Q : VK), RS G H ρ M → RV G H ρ dx x → g dx M = some (d, M') → oP G H ρ Q d M' → r x H Q
def CallS (G : Gx) (r : List V → Hp → VK → Prop) (g : List D → Sto → Option (D × Sto)) : Prop := ∀ (H : Hp) (ρ : Rho) (M : Sto) (xs : List V) (ds : List D) (d : D) (M' : Sto) (Q : VK), RS G H ρ M → RVs G H ρ ds xs → g ds M = some (d, M') → oP G H ρ Q d M' → r xs H Q
section
variable {X : Cx} {cl : Str → Option Addr} {W : WX} {G : Gx}
theorem lift_some {o : Option (D × Sto)} {Q : D → Sto → Prop} {E : Exn → En → Sto → Prop} (h : (liftM o).post Q E) : ∃ d M, o = some (d, M) ∧ Q d M := by
  cases o with
  | none => exact h.elim
  | some p => exact ⟨p.1, p.2, rfl, h⟩
theorem two {r : R2} {g : G2} {fa fb : DE} {σ : L2.St} {H : Hp} {Q : VK} {ρ : Rho} {env : En} {M : Sto} (hg : OpS G r g) (hE : RE G H ρ env σ) (hS : RS G H ρ M) (h : (dBin g fa fb env M).post (oP G H ρ Q) (eP G W H ρ)) : tOp r (dE G W fa) (dE G W fb) σ H Q := by
  refine ⟨ρ, env, M, hE, hS, (post_bind h).imp (fun x M1 hx ρ1 v H1 e1 S1 r1 => ?_) (fun _ _ _ z => z)⟩
  refine ⟨ρ1, env, M1, hE.mono e1, S1, (post_bind hx).imp (fun y M2 hy ρ2 w H2 e2 S2 r2 => ?_) (fun _ _ _ z => eP.sh e1 z)⟩
  obtain ⟨d, M', e, q⟩ := lift_some hy
  exact hg H2 ρ2 M2 v w x y d M' Q S2 (r1.mono e2) r2 e (oP.sh (e1.trans e2) q)
theorem se_var {i : Nat} {x : Str} {pos : Pos} (hN : X.N[i]? = some x) (hv : Vis X.env.scope x) (hd : (x == ("__debug__" : Str)) = false := by decide) (hcd : (x == ("__classdict__" : Str)) = false := by decide) : SE X cl W (.Name x pos) (dVar i) := by
  refine PEweak (pe_var hN hv hd hcd) fun σ H Q ⟨ρ, env, M, hE, hS, h⟩ => ?_
  unfold dVar at h
  split at h
  · rename_i d hd'
    obtain ⟨v, e, r⟩ := hE.2 i d hd'
    exact ⟨v, e, h ρ v H .refl hS r⟩
  · exact h.elim
theorem se_const {e : Expr} {d : D} {v : V} (h : PE X e (tC v)) (hr : ∀ H ρ, RV (gx X cl) H ρ d v) : SE X cl W e (dC d) :=
  PEweak h fun σ H Q ⟨ρ, env, M, hE, hS, q⟩ => q ρ v H .refl hS (hr H ρ)
theorem se_int {i j pos} : SE X cl W (.Constant (.int i) j pos) (dC (.int i)) := se_const pe_int fun _ _ => .int i
theorem se_bl {b j pos} : SE X cl W (.Constant (.bool b) j pos) (dC (.bl b)) := se_const pe_bl fun _ _ => .bl b
theorem se_non {j pos} : SE X cl W (.Constant .none j pos) (dC .non) := se_const pe_non fun _ _ => .non
theorem se_str {x j pos} : SE X cl W (.Constant (.str x) j pos) (dC (.str x)) := se_const pe_str fun _ _ => .str x
theorem se_bin {op : Operator} {r : R2} {g : G2} {a b : Expr} {fa fb : DE} {pos : Pos} (ho : OpR X (binaryOp op) r) (hg : OpS (gx X cl) r g) (ha : SE X cl W a fa) (hb : SE X cl W b fb) : SE X cl W (.BinOp a op b pos) (dBin g fa fb) :=
  PEweak (pe_op ho ha hb) fun _ _ _ ⟨_, _, _, hE, hS, h⟩ => two hg hE hS h
theorem se_cmp {op : CmpOp} {r : R2} {g : G2} {a b : Expr} {fa fb : DE} {pos : Pos} (ho : OpR X (compareOp op) r) (hg : OpS (gx X cl) r g) (ha : SE X cl W a fa) (hb : SE X cl W b fb) (hm : behindInMarks op b = false) : SE X cl W (.Compare a [op] [b] pos) (dBin g fa fb) :=
  PEweak (pe_cmpR ho ha hb hm) fun _ _ _ ⟨_, _, _, hE, hS, h⟩ => two hg hE hS h
theorem se_ix {r : R2} {g : G2} {a b : Expr} {fa fb : DE} {pos : Pos} (ho : IxR X r) (hg : OpS (gx X cl) r g) (ha : SE X cl W a fa) (hb : SE X cl W b fb) (hs : PlainIx b) : SE X cl W (.Subscript a b pos) (dBin g fa fb) :=
  PEweak (pe_ix ho ha hb hs) fun _ _ _ ⟨_, _, _, hE, hS, h⟩ => two hg hE hS h
theorem se_un {op : UnaryOp} {r : V → Hp → VK → Prop} {g : D → Sto → Option (D × Sto)} {a : Expr} {fa : DE} {pos : Pos} (ho : UnR X (unaryOp op) r) (hg : UnS (gx X cl) r g) (ha : SE X cl W a fa) : SE X cl W (.UnaryOp op a pos) (dUn g fa) :=
  PEweak (pe_un ho ha) fun σ H Q ⟨ρ, env, M, hE, hS, h⟩ => by
    refine ⟨ρ, env, M, hE, hS, (post_bind h).imp (fun x M1 hx ρ1 v H1 e1 S1 r1 => ?_) (fun _ _ _ z => z)⟩
    obtain ⟨d, M', e, q⟩ := lift_some hx
    exact hg H1 ρ1 M1 v x d M' Q S1 r1 e (oP.sh e1 q)
theorem sa_nil : SA X cl W [] dNilA := PAweak pa_nil fun σ H Q ⟨ρ, env, M, hE, hS, h⟩ => h ρ [] H .refl hS .nil
theorem sa_cons {e : Expr} {es : List Expr} {fe : DE} {fr : DA} (he : SE X cl W e fe) (hr : SA X cl W es fr) (hs : starEach (e :: es) X.env = (false, eval e X.env) :: starEach es X.env := by rfl) : SA X cl W (e :: es) (dConsA fe fr) :=
  PAweak (pa_cons he hr hs) fun σ H Q ⟨ρ, env, M, hE, hS, h⟩ => by
    refine ⟨ρ, env, M, hE, hS, (post_bind h).imp (fun x M1 hx ρ1 v H1 e1 S1 r1 => ?_) (fun _ _ _ z => z)⟩
    refine ⟨ρ1, env, M1, hE.mono e1, S1, (post_bind hx).imp (fun y M2 hy ρ2 w H2 e2 S2 r2 => ?_) (fun _ _ _ z => eP.sh e1 z)⟩
    exact hy ρ2 (v :: w) H2 (e1.trans e2) S2 (.cons (r1.mono e2) r2)
theorem line_of {n : Nat} (h : n ≤ 16777216) : n ≤ sizeLine := by rw [sizeLine_eq]; exact h
theorem se_tup {es : List Expr} {fa : DA} {k : Nat} {pos : Pos} (ha : SA X cl W es fa) : SE X cl W (.Tuple es k pos) (dTup fa) :=
  PEweak (pe_tup ha) fun σ H Q ⟨ρ, env, M, hE, hS, h⟩ => by
    refine ⟨ρ, env, M, hE, hS, (post_bind h).imp (fun x M1 hx ρ1 v H1 e1 S1 r1 => ?_) (fun _ _ _ z => z)⟩
    split at hx
    · rename_i hl
      exact ⟨by rw [r1.length]; exact line_of hl, fun p hp => hx ρ1 _ _ (e1.trans (Ext.new S1 hp)) (S1.new hp) (.tup (TpA.of upd_same) (r1.mono (Ext.new S1 hp)))⟩
    · exact hx.elim
theorem se_lst {es : List Expr} {fa : DA} {pos : Pos} (ha : SA X cl W es fa) : SE X cl W (.List es pos) (dLst fa) :=
  PEweak (pe_lst ha) fun σ H Q ⟨ρ, env, M, hE, hS, h⟩ => by
    refine ⟨ρ, env, M, hE, hS, (post_bind h).imp (fun x M1 hx ρ1 v H1 e1 S1 r1 => ?_) (fun _ _ _ z => z)⟩
    split at hx
    · rename_i hl
      exact ⟨by rw [r1.length]; exact line_of hl, fun p hp => hx ρ1 _ _ (e1.trans (Ext.new S1 hp)) (S1.new hp) (.lst upd_same (S1.fresh hp) (r1.mono (Ext.new S1 hp)))⟩
    · exact hx.elim
theorem RS.newLst {H : Hp} {ρ : Rho} {M : Sto} {ds : List D} {vs : List V} {p : Addr} (S : RS G H ρ M) (hp : H p = none) (r : RVs G H ρ ds vs) : RS G (upd H p (.lst vs)) (ρ.add p) (M ++ [.lst ds]) :=
  S.cell hp ⟨vs, upd_same, r.mono (Ext.cell S hp)⟩
theorem RS.at_new {H : Hp} {ρ : Rho} {M : Sto} {p : Addr} (S : RS G H ρ M) : (ρ.add p).c[M.length]? = some p := by show (ρ.c ++ [p])[M.length]? = some p; rw [← S.len]; simp
theorem se_lstC {es : List Expr} {fa : DA} {pos : Pos} (ha : SA X cl W es fa) : SE X cl W (.List es pos) (dLstC fa) :=
  PEweak (pe_lst ha) fun σ H Q ⟨ρ, env, M, hE, hS, h⟩ => by
    refine ⟨ρ, env, M, hE, hS, (post_bind h).imp (fun x M1 hx ρ1 v H1 e1 S1 r1 => ?_) (fun _ _ _ z => z)⟩
    split at hx
    · rename_i hl
      exact ⟨by rw [r1.length]; exact line_of hl, fun p hp => hx _ _ _ (e1.trans (Ext.cell S1 hp)) (S1.newLst hp r1) (.ref S1.at_new)⟩
    · exact hx.elim
theorem se_callB {id : String} {r : List V → Hp → VK → Prop} {g : List D → Sto → Option (D × Sto)} {x : Str} {e : Expr} {es : List Expr} {fa : DA} {p pos : Pos} (hc : CallR X (.builtin id) r) (hg' : CallS (gx X cl) r g) (hg : Gl X x) (hm : X.mg x = none) (hv : bootBuiltins x = some (.builtin id)) (ha : SA X cl W (e :: es) fa)
    (hn : x ≠ "__name__" := by decide) (hdb : (x == ("__debug__" : Str)) = false := by decide)
    (he : starEach (e :: es) X.env = (false, eval e X.env) :: starEach es X.env := by rfl) (hpl : (backTo pos (starEach es X.env)).any (·.1) = false := by rfl) : SE X cl W (.Call (.Name x p) (e :: es) [] pos) (dCallB g fa) :=
  PEweak (pe_callB hc hg hm hv ha hn hdb he hpl) fun σ H Q ⟨ρ, env, M, hE, hS, h⟩ => by
    refine ⟨ρ, env, M, hE, hS, (post_bind h).imp (fun x M1 hx ρ1 v H1 e1 S1 r1 => ?_) (fun _ _ _ z => z)⟩
    obtain ⟨d, M', e, q⟩ := lift_some hx
    exact hg' H1 ρ1 M1 v x d M' Q S1 r1 e (oP.sh e1 q)
theorem se_callTy {T : String} {r : List V → Hp → VK → Prop} {g : List D → Sto → Option (D × Sto)} {x : Str} {e : Expr} {es : List Expr} {fa : DA} {p pos : Pos} (hc : CallR X (.type T) r) (hg' : CallS (gx X cl) r g) (hg : Gl X x) (hm : X.mg x = none) (hv : bootBuiltins x = some (.type T)) (ha : SA X cl W (e :: es) fa)
    (hn : x ≠ "__name__" := by decide) (hdb : (x == ("__debug__" : Str)) = false := by decide)
    (he : starEach (e :: es) X.env = (false, eval e X.env) :: starEach es X.env := by rfl) (hpl : (backTo pos (starEach es X.env)).any (·.1) = false := by rfl) : SE X cl W (.Call (.Name x p) (e :: es) [] pos) (dCallB g fa) :=
  PEweak (pe_callTy hc hg hm hv ha hn hdb he hpl) fun σ H Q ⟨ρ, env, M, hE, hS, h⟩ => by
    refine ⟨ρ, env, M, hE, hS, (post_bind h).imp (fun x M1 hx ρ1 v H1 e1 S1 r1 => ?_) (fun _ _ _ z => z)⟩
    obtain ⟨d, M', e, q⟩ := lift_some hx
    exact hg' H1 ρ1 M1 v x d M' Q S1 r1 e (oP.sh e1 q)
theorem tru_ok' {H : Hp} {ρ : Rho} {M : Sto} {d : D} {v : V} {b : Bool} (S : RS G H ρ M) (r : RV G H ρ d v) (h : truD d M = some b) : TruV G.K v H b := by
  cases r with
  | non => cases h; rfl
  | bl c => cases h; rfl
  | int i => cases h; rfl
  | str s => cases h
  | ty s => cases h
  | tup hs rs => cases h; exact .inr (.inl ⟨_, hs.1, by cases rs <;> rfl⟩)
  | lst hs hn rs => cases h; exact .inl ⟨_, SqL.of hs, by cases rs <;> rfl⟩
  | scr hs => cases h
  | obj => cases h
  | cls => cases h
  | dK => cases h
  | dT => cases h
  | ref hn =>
    rename_i n a
    have h' : (match M[n]? with
      | some (.lst l) => some (!l.isEmpty)
      | _ => none) = some b := h
    split at h'
    · rename_i l hl
      cases h'
      obtain ⟨b, hb, vs, hv, rs⟩ := S.at_ _ _ hl
      rw [hn] at hb; cases hb
      exact .inl ⟨_, SqL.of hv, by cases rs <;> rfl⟩
    · cases h'
theorem st_val {e : Expr} {fe : DE} (he : SE X cl W e fe) (ht : ∀ whole, isTrue e X.env whole = (do let v ← whole; standAt e.pos; holding [v] (truthy v)) := by intro _; rfl) : ST X cl W e (dTru fe) :=
  PTweak (pt_truth he ht) fun σ H Q ⟨ρ, env, M, hE, hS, h⟩ => by
    refine ⟨ρ, env, M, hE, hS, (post_bind h).imp (fun x M1 hx ρ1 v H1 e1 S1 r1 => ?_) (fun _ _ _ z => z)⟩
    split at hx
    · rename_i b hb
      exact ⟨b, tru_ok' S1 r1 hb, hx ρ1 H1 e1 S1⟩
    · exact hx.elim
def dB (fe : DE) : DT := fun env M => (fe env M).bind fun x M1 => match x with
  | .bl b => .ok b M1
  | _ => .bad
theorem dB_ok {fe : DE} {σ : L2.St} {H : Hp} {Q : Bool → Hp → Prop} (h : dT G W (dB fe) σ H Q) : dE G W fe σ H fun x H' => ∃ k, x = .bl k ∧ Q k H' := by
  obtain ⟨ρ, env, M, hE, hS, h⟩ := h
  refine ⟨ρ, env, M, hE, hS, (post_bind h).imp (fun x M1 hx ρ1 v H1 e1 S1 r1 => ?_) (fun _ _ _ z => z)⟩
  cases r1 with
  | bl b => exact ⟨b, rfl, hx ρ1 H1 e1 S1⟩
  | _ => exact hx.elim
theorem st_cmp {op : CmpOp} {r : R2} {g : G2} {a b : Expr} {fa fb : DE} {pos : Pos} (ho : OpR X (compareOp op) r) (hg : OpS (gx X cl) r g) (ha : SE X cl W a fa) (hb : SE X cl W b fb) (hm : behindInMarks op b = false) : ST X cl W (.Compare a [op] [b] pos) (dB (dBin g fa fb)) :=
  PTweak (pt_cmpR ho ha hb hm) fun σ H Q h => by
    obtain ⟨ρ, env, M, hE, hS, h⟩ := dB_ok h
    exact two hg hE hS h
theorem sw_and1 {a : Expr} {fa : DT} {pos : Pos} (ha : ST X cl W a fa) : SW X cl W (.BoolOp .And [a] pos) fa := pw_and1 ha
theorem sw_or1 {a : Expr} {fa : DT} {pos : Pos} (ha : ST X cl W a fa) : SW X cl W (.BoolOp .Or [a] pos) fa := pw_or1 ha
theorem sw_and {a b : Expr} {rest : List Expr} {fa fb : DT} {pos : Pos} (ha : ST X cl W a fa) (hb : SW X cl W (.BoolOp .And (b :: rest) pos) fb) : SW X cl W (.BoolOp .And (a :: b :: rest) pos) (dAnd fa fb) :=
  PWweak (pw_and ha hb) fun σ H Q ⟨ρ, env, M, hE, hS, h⟩ => by
    refine ⟨ρ, env, M, hE, hS, (post_bind h).imp (fun c M1 hx ρ1 H1 e1 S1 => ?_) (fun _ _ _ z => z)⟩
    cases c with
    | true => exact ⟨ρ1, env, M1, hE.mono e1, S1, Out.post.imp hx (fun _ _ z => bP.sh e1 z) (fun _ _ _ z => eP.sh e1 z)⟩
    | false => exact hx ρ1 H1 e1 S1
theorem sw_or {a b : Expr} {rest : List Expr} {fa fb : DT} {pos : Pos} (ha : ST X cl W a fa) (hb : SW X cl W (.BoolOp .Or (b :: rest) pos) fb) : SW X cl W (.BoolOp .Or (a :: b :: rest) pos) (dOr fa fb) :=
  PWweak (pw_or ha hb) fun σ H Q ⟨ρ, env, M, hE, hS, h⟩ => by
    refine ⟨ρ, env, M, hE, hS, (post_bind h).imp (fun c M1 hx ρ1 H1 e1 S1 => ?_) (fun _ _ _ z => z)⟩
    cases c with
    | false => exact ⟨ρ1, env, M1, hE.mono e1, S1, Out.post.imp hx (fun _ _ z => bP.sh e1 z) (fun _ _ _ z => eP.sh e1 z)⟩
    | true => exact hx ρ1 H1 e1 S1
theorem SW.st {e : Expr} {f : DT} (h : SW X cl W e f) : ST X cl W e f := PW.pt h
theorem st_not {a : Expr} {fa : DT} {pos : Pos} (ha : ST X cl W a fa) : ST X cl W (.UnaryOp .Not a pos) (dNot fa) :=
  PTweak (pt_not ha) fun σ H Q ⟨ρ, env, M, hE, hS, h⟩ => ⟨ρ, env, M, hE, hS, (post_bind h).imp (fun c M1 hx ρ1 H1 e1 S1 => hx ρ1 H1 e1 S1) (fun _ _ _ z => z)⟩
theorem se_one {op : BoolOp} {a : Expr} {fa : DE} {pos : Pos} (ha : SE X cl W a fa) : SE X cl W (.BoolOp op [a] pos) fa := pe_one ha
theorem se_and {a b : Expr} {rest : List Expr} {fa fb : DE} {pos : Pos} (ha : SE X cl W a fa) (hb : SE X cl W (.BoolOp .And (b :: rest) pos) fb) : SE X cl W (.BoolOp .And (a :: b :: rest) pos) (dAndV fa fb) :=
  PEweak (pe_and ha hb) fun σ H Q ⟨ρ, env, M, hE, hS, h⟩ => by
    refine ⟨ρ, env, M, hE, hS, (post_bind h).imp (fun c M1 hx ρ1 v H1 e1 S1 r1 => ?_) (fun _ _ _ z => z)⟩
    cases r1 with
    | bl b =>
      cases b with
      | true => exact ⟨true, rfl, ρ1, env, M1, hE.mono e1, S1, Out.post.imp hx (fun _ _ z => oP.sh e1 z) (fun _ _ _ z => eP.sh e1 z)⟩
      | false => exact ⟨false, rfl, hx ρ1 _ H1 e1 S1 (.bl false)⟩
    | _ => exact hx.elim
theorem se_or {a b : Expr} {rest : List Expr} {fa fb : DE} {pos : Pos} (ha : SE X cl W a fa) (hb : SE X cl W (.BoolOp .Or (b :: rest) pos) fb) : SE X cl W (.BoolOp .Or (a :: b :: rest) pos) (dOrV fa fb) :=
  PEweak (pe_or ha hb) fun σ H Q ⟨ρ, env, M, hE, hS, h⟩ => by
    refine ⟨ρ, env, M, hE, hS, (post_bind h).imp (fun c M1 hx ρ1 v H1 e1 S1 r1 => ?_) (fun _ _ _ z => z)⟩
    cases r1 with
    | bl b =>
      cases b with
      | false => exact ⟨false, rfl, ρ1, env, M1, hE.mono e1, S1, Out.post.imp hx (fun _ _ z => oP.sh e1 z) (fun _ _ _ z => eP.sh e1 z)⟩
      | true => exact ⟨true, rfl, hx ρ1 _ H1 e1 S1 (.bl true)⟩
    | _ => exact hx.elim
theorem se_not {a : Expr} {fa : DE} {pos : Pos} (ha : SE X cl W a fa) : SE X cl W (.UnaryOp .Not a pos) (dNotV fa) :=
  PEweak (pe_not ha) fun σ H Q ⟨ρ, env, M, hE, hS, h⟩ => by
    refine ⟨ρ, env, M, hE, hS, (post_bind h).imp (fun c M1 hx ρ1 v H1 e1 S1 r1 => ?_) (fun _ _ _ z => z)⟩
    cases r1 with
    | bl b => exact ⟨b, rfl, hx ρ1 _ H1 e1 S1 (.bl _)⟩
    | _ => exact hx.elim
theorem se_if {c a b : Expr} {fc : DT} {fa fb : DE} {pos : Pos} (hc : ST X cl W c fc) (ha : SE X cl W a fa) (hb : SE X cl W b fb) : SE X cl W (.IfExp c a b pos) (dIfE fc fa fb) :=
  PEweak (pe_ifExp hc ha hb) fun σ H Q ⟨ρ, env, M, hE, hS, h⟩ => by
    refine ⟨ρ, env, M, hE, hS, (post_bind h).imp (fun c M1 hx ρ1 H1 e1 S1 => ?_) (fun _ _ _ z => z)⟩
    cases c with
    | true => exact ⟨ρ1, env, M1, hE.mono e1, S1, Out.post.imp hx (fun _ _ z => oP.sh e1 z) (fun _ _ _ z => eP.sh e1 z)⟩
    | false => exact ⟨ρ1, env, M1, hE.mono e1, S1, Out.post.imp hx (fun _ _ z => oP.sh e1 z) (fun _ _ _ z => eP.sh e1 z)⟩
theorem se_chain {op op' : CmpOp} {r r' : R2} {g g' : G2} {a b c : Expr} {fa fb fc : DE} {pos : Pos} (ho : OpR X (compareOp op) r) (hg : OpS (gx X cl) r g) (ho' : OpR X (compareOp op') r') (hg' : OpS (gx X cl) r' g') (ha : SE X cl W a fa) (hb : SE X cl W b fb) (hc : SE X cl W c fc)
    (hm : lastMarks [op, op'] [b, c] = false := by with_unfolding_all rfl) : SE X cl W (.Compare a [op, op'] [b, c] pos) (dChain g g' fa fb fc) :=
  PEweak (pe_chain ho ho' ha hb hc hm) fun σ H Q ⟨ρ, env, M, hE, hS, h⟩ => by
    refine ⟨ρ, env, M, hE, hS, (post_bind h).imp (fun x M1 hx ρ1 v H1 e1 S1 r1 => ?_) (fun _ _ _ z => z)⟩
    refine ⟨ρ1, env, M1, hE.mono e1, S1, (post_bind hx).imp (fun y M2 hy ρ2 w H2 e2 S2 r2 => ?_) (fun _ _ _ z => eP.sh e1 z)⟩
    obtain ⟨d, M3, e, q⟩ := lift_some (post_bind hy)
    refine hg H2 ρ2 M2 v w x y d M3 _ S2 (r1.mono e2) r2 e fun ρ3 z H3 e3 S3 r3 => ?_
    cases r3 with
    | bl k =>
      refine ⟨k, rfl, ?_⟩
      cases k with
      | false =>
        rw [if_neg (by decide)]
        exact q ρ3 _ H3 (e1.trans (e2.trans e3)) S3 (.bl _)
      | true =>
        rw [if_pos rfl]
        refine ⟨ρ3, env, M3, hE.mono (e1.trans (e2.trans e3)), S3, (post_bind q).imp (fun u M4 hu ρ4 w4 H4 e4 S4 r4 => ?_) (fun _ _ _ z => eP.sh (e1.trans (e2.trans e3)) z)⟩
        obtain ⟨d5, M5, e5, q5⟩ := lift_some hu
        exact hg' H4 ρ4 M4 w w4 y u d5 M5 Q S4 (r2.mono (e3.trans e4)) r4 e5 (oP.sh (e1.trans (e2.trans (e3.trans e4))) q5)
    | _ => exact q.elim
end
end Ip
end
section
set_option Elab.async false
set_option linter.all false
set_option maxRecDepth 100000
set_option maxHeartbeats 4000000
set_option autoImplicit false
namespace Ip
open PySem L2
inductive Fl where
  | nx (env : En) | rt (d : D) | bk (env : En) | ct (env : En)
abbrev DS := En → Sto → Out Fl
def nP (G : Gx) (H : Hp) (ρ : Rho) (N : L2.St → Hp → Prop) : En → Sto → Prop := fun env' M' => ∀ ρ' σ' H', Ext G H ρ H' ρ' → RS G H' ρ' M' → RE G H' ρ' env' σ' → N σ' H'
def sP (G : Gx) (H : Hp) (ρ : Rho) (D : Ends) : Fl → Sto → Prop
  | .nx env', M' => nP G H ρ D.nx env' M'
  | .rt d, M' => oP G H ρ D.rt d M'
  | .bk env', M' => nP G H ρ D.bk env' M'
  | .ct env', M' => nP G H ρ D.ct env' M'
def dS (G : Gx) (W : WX) (f : DS) : TS := fun D σ H => ∃ ρ env M, RE G H ρ env σ ∧ RS G H ρ M ∧ (f env M).post (sP G H ρ D) (eP G W H ρ)
def SS (X : Cx) (cl : Str → Option Addr) (W : WX) (st : Stmt) (f : DS) : Prop := PS X st (dS (gx X cl) W f)
def SSs (X : Cx) (cl : Str → Option Addr) (W : WX) (sts : List Stmt) (f : DS) : Prop := PSs X sts (dS (gx X cl) W f)
def dSeq (f g : DS) : DS := fun env M => (f env M).bind fun fl M1 => match fl with
  | .nx env1 => g env1 M1
  | o => .ok o M1
def dSkip : DS := fun env M => .ok (.nx env) M
def dSet (i : Nat) (fe : DE) : DS := fun env M => (fe env M).bind fun d M1 => .ok (.nx (env.set i (some d))) M1
def dDrop (fe : DE) : DS := fun env M => (fe env M).bind fun _ M1 => .ok (.nx env) M1
def dRet (fe : DE) : DS := fun env M => (fe env M).bind fun d M1 => .ok (.rt d) M1
def dRetN : DS := fun _ M => .ok (.rt .non) M
def dIf (ft : DT) (fa fb : DS) : DS := fun env M => (ft env M).bind fun c M1 => if c then fa env M1 else fb env M1
def dBad : DS := fun _ _ => .bad
abbrev DG := D → En → Option En
def dG (G : Gx) (t : DG) : TG := fun v σ H Q => ∃ ρ env d env', RE G H ρ env σ ∧ RV G H ρ d v ∧ t d env = some env' ∧ ∀ σ', RE G H ρ env' σ' → Q σ' H
def tgName (i : Nat) : DG := fun d env => some (env.set i (some d))
def tgAll : List Nat → List D → En → Option En
  | [], [], env => some env
  | i :: is, d :: ds, env => tgAll is ds (env.set i (some d))
  | _, _, _ => none
def tgTup (is : List Nat) : DG := fun d env => match d with
  | .tup ds => tgAll is ds env
  | _ => none
def SG (X : Cx) (cl : Str → Option Addr) (tg : Expr) (t : DG) : Prop := PG X tg (dG (gx X cl) t)
section
variable {X : Cx} {cl : Str → Option Addr} {W : WX} {G : Gx} {H H1 : Hp} {ρ ρ1 : Rho}
theorem nP.sh (x : Ext G H ρ H1 ρ1) {N : L2.St → Hp → Prop} {env : En} {M : Sto} (h : nP G H ρ N env M) : nP G H1 ρ1 N env M := fun ρ' v H' a b c => h ρ' v H' (x.trans a) b c
theorem sP.sh (x : Ext G H ρ H1 ρ1) {D : Ends} {fl : Fl} {M : Sto} (h : sP G H ρ D fl M) : sP G H1 ρ1 D fl M := by
  cases fl with
  | nx env => exact nP.sh x h
  | rt d => exact oP.sh x h
  | bk env => exact nP.sh x h
  | ct env => exact nP.sh x h
theorem PGweak {tg : Expr} {t t' : TG} (h : PG X tg t) (w : ∀ v σ H Q, t' v σ H Q → t v σ H Q) : PG X tg t' := ⟨fun pins s σ H v u Q I r z => h.run pins s σ H v u Q I r (w v σ H Q z)⟩
theorem ss_nil : SSs X cl W [] dSkip := PSsweak pss_nil fun D σ H ⟨ρ, env, M, hE, hS, h⟩ => h ρ σ H .refl hS hE
theorem ss_cons {st : Stmt} {sts : List Stmt} {f g : DS} (h1 : SS X cl W st f) (h2 : SSs X cl W sts g) : SSs X cl W (st :: sts) (dSeq f g) :=
  PSsweak (pss_cons h1 h2) fun D σ H ⟨ρ, env, M, hE, hS, h⟩ => by
    refine ⟨ρ, env, M, hE, hS, (post_bind h).imp (fun fl M1 hx => ?_) (fun _ _ _ z => z)⟩
    cases fl with
    | nx env1 => exact fun ρ' σ' H' e1 S1 E1 => ⟨ρ', env1, M1, E1, S1, Out.post.imp hx (fun _ _ z => sP.sh e1 z) (fun _ _ _ z => eP.sh e1 z)⟩
    | rt d => exact hx
    | bk env1 => exact hx
    | ct env1 => exact hx
theorem ss_one {st : Stmt} {f : DS} (h1 : SS X cl W st f) : SSs X cl W [st] f := pss_one h1
theorem ss_never {st : Stmt} : SS X cl W st dBad := PSweak ps_never fun D σ H ⟨ρ, env, M, hE, hS, h⟩ => h
theorem ss_expr {e : Expr} {fe : DE} {pos : Pos} (he : SE X cl W e fe) (hs : swapsWith e none pos.line X.env = pure false := by rfl) : SS X cl W (.Expr e pos) (dDrop fe) :=
  PSweak (ps_expr he hs) fun D σ H ⟨ρ, env, M, hE, hS, h⟩ =>
    ⟨ρ, env, M, hE, hS, (post_bind h).imp (fun d M1 hx ρ1 v H1 e1 S1 r1 => hx ρ1 σ H1 e1 S1 (hE.mono e1)) (fun _ _ _ z => z)⟩
theorem ss_ret {e : Expr} {fe : DE} {pos : Pos} (he : SE X cl W e fe) : SS X cl W (.Return (some e) pos) (dRet fe) :=
  PSweak (ps_ret he) fun D σ H ⟨ρ, env, M, hE, hS, h⟩ =>
    ⟨ρ, env, M, hE, hS, (post_bind h).imp (fun d M1 hx ρ1 v H1 e1 S1 r1 => hx ρ1 v H1 e1 S1 r1) (fun _ _ _ z => z)⟩
theorem ss_if {c : Expr} {a b : List Stmt} {ft : DT} {fa fb : DS} {pos : Pos} (hc : ST X cl W c ft) (ha : SSs X cl W a fa) (hb : SSs X cl W b fb) : SS X cl W (.If c a b pos) (dIf ft fa fb) :=
  PSweak (ps_if hc ha hb) fun D σ H ⟨ρ, env, M, hE, hS, h⟩ => by
    refine ⟨ρ, env, M, hE, hS, (post_bind h).imp (fun c M1 hx ρ1 H1 e1 S1 => ?_) (fun _ _ _ z => z)⟩
    cases c with
    | true => exact ⟨ρ1, env, M1, hE.mono e1, S1, Out.post.imp hx (fun _ _ z => sP.sh e1 z) (fun _ _ _ z => eP.sh e1 z)⟩
    | false => exact ⟨ρ1, env, M1, hE.mono e1, S1, Out.post.imp hx (fun _ _ z => sP.sh e1 z) (fun _ _ _ z => eP.sh e1 z)⟩
theorem ss_set {i : Nat} {x : Str} {e : Expr} {fe : DE} {pos pos' : Pos} (hN : X.N.Nodup) (hi : X.N[i]? = some x) (hx : Loc X.env.scope x) (he : SE X cl W e fe) (hs : swapsWith e (some (.Name x pos')) pos.line X.env = pure false := by rfl) (hf : X.fn x = true ∨ X.env.scope.names.lookup x = some .local := by first | exact .inl rfl | exact .inr rfl | assumption) :
    SS X cl W (.Assign [.Name x pos'] e pos) (dSet i fe) :=
  PSweak (ps_set hN hi hx he hs hf) fun D σ H ⟨ρ, env, M, hE, hS, h⟩ =>
    ⟨ρ, env, M, hE, hS, (post_bind h).imp (fun d M1 hx ρ1 v H1 e1 S1 r1 => hx ρ1 _ H1 e1 S1 ((hE.mono e1).set i r1)) (fun _ _ _ z => z)⟩
theorem sg_name {i : Nat} {x : Str} {pos : Pos} (hN : X.N.Nodup) (hi : X.N[i]? = some x) (hx : Loc X.env.scope x) (hf : X.fn x = true ∨ X.env.scope.names.lookup x = some .local := by first | exact .inl rfl | exact .inr rfl | assumption) : SG X cl (.Name x pos) (tgName i) :=
  PGweak (pg_name hN hi hx hf) fun v σ H Q ⟨ρ, env, d, env', hE, r, e, h⟩ => by
    cases e
    exact h _ (hE.set i r)
/-- names of a tuple target -/
def gsNames : List Nat → TGs
  | [] => gNil
  | i :: is => gCons (gName i) (gsNames is)
theorem gsNames_ok {is : List Nat} : ∀ {ds : List D} {vs : List V} {env env' : En} {σ : L2.St} {Q : L2.St → Hp → Prop}, RVs G H ρ ds vs → RE G H ρ env σ → tgAll is ds env = some env' → (∀ σ', RE G H ρ env' σ' → Q σ' H) → gsNames is vs σ H Q := by
  induction is with
  | nil =>
    intro ds vs env env' σ Q r hE e h
    cases r with
    | nil => cases e; exact ⟨rfl, h σ hE⟩
    | cons _ _ => cases e
  | cons i is ih =>
    intro ds vs env env' σ Q r hE e h
    cases r with
    | nil => cases e
    | cons r1 r2 => exact ⟨_, _, rfl, ih r2 (hE.set i r1) e h⟩
theorem tgAll_len : ∀ {is : List Nat} {ds : List D} {env env' : En}, tgAll is ds env = some env' → ds.length = is.length
  | [], [], _, _, _ => rfl
  | [], _ :: _, _, _, h => by cases h
  | _ :: _, [], _, _, h => by cases h
  | i :: is, d :: ds, env, env', h => by
    have := tgAll_len (is := is) (ds := ds) h
    simp [this]
theorem sg_tup {es : List Expr} {k n : Nat} {is : List Nat} {pos : Pos} (hc : X.calm = true) (h : PGs X es (gsNames is)) (hl : is.length = n) (hn : (assignEach es X.env).length = n := by rfl) (hst : (assignEach es X.env).findIdx? (·.1) = none := by rfl) : SG X cl (.Tuple es k pos) (tgTup is) :=
  PGweak (pg_tup hc h hn hst) fun v σ H Q ⟨ρ, env, d, env', hE, r, e, q⟩ => by
    cases r with
    | tup hs rs => exact ⟨_, _, rfl, hs.1, by rw [rs.length, tgAll_len e, hl], gsNames_ok rs hE e q⟩
    | _ => cases e
def dAsg (t : DG) (fe : DE) : DS := fun env M => (fe env M).bind fun d M1 => match t d env with
  | some env' => .ok (.nx env') M1
  | none => .bad
theorem ss_asg {tg e : Expr} {fe : DE} {t : DG} {pos : Pos} (he : SE X cl W e fe) (hg : SG X cl tg t) (hs : swapsWithSole [tg] e pos.line X.env = pure false := by rfl) (hw : swappedStores [tg] e X.env = pure none := by rfl)
    (h1 : (assignEach [tg] X.env).map (·.2) = [assign tg X.env] := by rfl) : SS X cl W (.Assign [tg] e pos) (dAsg t fe) :=
  PSweak (ps_asg he hg hs hw h1) fun D σ H ⟨ρ, env, M, hE, hS, h⟩ => by
    refine ⟨ρ, env, M, hE, hS, (post_bind h).imp (fun d M1 hx ρ1 v H1 e1 S1 r1 => ?_) (fun _ _ _ z => z)⟩
    split at hx
    · rename_i env' he'
      exact ⟨ρ1, env, d, env', hE.mono e1, r1, he', fun σ' E' => hx ρ1 σ' H1 e1 S1 E'⟩
    · exact hx.elim
def dPar (i j : Nat) (fa : DA) : DS := fun env M => (fa env M).bind fun ds M1 => match ds with
  | [x, y] => .ok (.nx ((env.set i (some x)).set j (some y))) M1
  | _ => .bad
theorem ss_par {i j : Nat} {x y : Str} {a b : Expr} {fa : DA} {px py pt pos : Pos} {kt k2 pt2} (hc : X.calm = true) (hN : X.N.Nodup) (hi : X.N[i]? = some x) (hj : X.N[j]? = some y) (hij : i ≠ j)
    (hx : X.env.scope.names.lookup x = some .local) (hy : X.env.scope.names.lookup y = some .local) (ha : SA X cl W [a, b] fa)
    (hw : swappedStores [.Tuple [.Name x px, .Name y py] kt pt] (.Tuple [a, b] k2 pt2) X.env = pure (some [x, y]))
    (hs : swapsWithSole [.Tuple [.Name x px, .Name y py] kt pt] (.Tuple [a, b] k2 pt2) pos.line X.env = pure false := by rfl) :
    SS X cl W (.Assign [.Tuple [.Name x px, .Name y py] kt pt] (.Tuple [a, b] k2 pt2) pos) (dPar i j fa) :=
  PSweak (ps_par hc hN hi hj hij hx hy ha hw hs) fun D σ H ⟨ρ, env, M, hE, hS, h⟩ => by
    refine ⟨ρ, env, M, hE, hS, (post_bind h).imp (fun ds M1 hx ρ1 vs H1 e1 S1 r1 => ?_) (fun _ _ _ z => z)⟩
    cases r1 with
    | nil => exact hx.elim
    | cons q1 q2 =>
      cases q2 with
      | nil => exact hx.elim
      | cons q2 q3 =>
        cases q3 with
        | cons _ _ => exact hx.elim
        | nil => exact ⟨_, _, rfl, hx ρ1 _ H1 e1 S1 (((hE.mono e1).set i q1).set j q2)⟩
def Good (J : It) (G : Gx) (items : List D) (ρ0 : Rho) (H0 : Hp) : Prop := ∀ (H : Hp) (ρ : Rho), Mo G H0 ρ0 H ρ → ∀ i : Nat,
  (∀ d, items[i]? = some d → J.go i H ∧ ∀ x H', J.yld i H x H' → (∃ M, RS G H ρ M) → Ext G H ρ H' ρ ∧ (∀ M, RS G H ρ M → RS G H' ρ M) ∧ RV G H' ρ d x) ∧ (items.length ≤ i → J.stop i H)
def dI (G : Gx) (W : WX) (f : DA) : TI := fun σ H R => ∃ ρ env M, RE G H ρ env σ ∧ RS G H ρ M ∧ (f env M).post (fun items M' => ∀ ρ' H' J, Ext G H ρ H' ρ' → RS G H' ρ' M' → Good J G items ρ' H' → R J H') (eP G W H ρ)
def SI (X : Cx) (cl : Str → Option Addr) (W : WX) (tg iter : Expr) (f : DA) : Prop := PI X tg iter (dI (gx X cl) W f)
def forGo (t : DG) (fb : DS) : List D → DS
  | [], env, M => .ok (.nx env) M
  | d :: ds, env, M => match t d env with
    | none => .bad
    | some env1 => (fb env1 M).bind fun fl M1 => match fl with
      | .nx e => forGo t fb ds e M1
      | .ct e => forGo t fb ds e M1
      | .bk e => .ok (.nx e) M1
      | .rt d => .ok (.rt d) M1
def dFor (t : DG) (fi : DA) (fb : DS) : DS := fun env M => (fi env M).bind fun items M1 => forGo t fb items env M1
theorem ss_for {tg iter : Expr} {body : List Stmt} {t : DG} {fi : DA} {fb : DS} {pos : Pos} (hp : PassesOwn (model X.prog X.w) X.A X.env X.xe) (hc : X.calm = true) (hi : SI X cl W tg iter fi) (hg : SG X cl tg t) (hb : SSs X cl W body fb)
    (hs : ∀ x, foldedSetIterable iter X.env x = pure x := by intro _; rfl) : SS X cl W (.For tg iter body [] pos) (dFor t fi fb) :=
  PSweak (ps_for hp hc hi hg hb hs) fun D σ H ⟨ρ, env, M, hE, hS, h⟩ => by
    refine ⟨ρ, env, M, hE, hS, (post_bind h).imp (fun items M1 hx ρ1 H1 J e1 S1 good => ?_) (fun _ _ _ z => z)⟩
    refine ⟨fun i m σ H => m = items.length - i ∧ i ≤ items.length ∧ ∃ ρ env M, Ext (gx X cl) H1 ρ1 H ρ ∧ RE (gx X cl) H ρ env σ ∧ RS (gx X cl) H ρ M ∧ (forGo t fb (items.drop i) env M).post (sP (gx X cl) H ρ D) (eP (gx X cl) W H ρ),
      ⟨items.length, by simp, Nat.zero_le _, ρ1, env, M1, .refl, hE.mono e1, S1, Out.post.imp hx (fun _ _ z => sP.sh e1 z) (fun _ _ _ z => eP.sh e1 z)⟩, ?_⟩
    rintro i m σ' H' ⟨rfl, hi, ρ', env', M', x1, E', S', q⟩
    obtain ⟨g1, g2⟩ := good H' ρ' x1.mo i
    by_cases hlt : i < items.length
    · have hd : items[i]? = some items[i] := List.getElem?_eq_getElem hlt
      obtain ⟨go, yl⟩ := g1 _ hd
      have hdrop : items.drop i = items[i] :: items.drop (i + 1) := List.drop_eq_getElem_cons hlt
      rw [hdrop] at q
      refine .inr ⟨go, fun σ H => ∃ ρ env M, Ext (gx X cl) H1 ρ1 H ρ ∧ RE (gx X cl) H ρ env σ ∧ RS (gx X cl) H ρ M ∧ (forGo t fb (items.drop (i + 1)) env M).post (sP (gx X cl) H ρ D) (eP (gx X cl) W H ρ),
        fun σ2 H2 n2 => ⟨items.length - (i + 1), by omega, rfl, hlt, n2⟩, fun x H2 y => ?_⟩
      obtain ⟨x2, rs2, r2⟩ := yl x H2 y ⟨M', S'⟩
      unfold forGo at q
      split at q
      · exact q.elim
      · rename_i env1 he1
        refine ⟨ρ', env', items[i], env1, E'.mono x2, r2, he1, fun σ3 E3 => ?_⟩
        refine ⟨ρ', env1, M', E3, rs2 M' S', (post_bind q).imp (fun fl M4 h4 => ?_) (fun _ _ _ z => eP.sh x2 z)⟩
        cases fl with
        | nx e => exact fun ρ5 σ5 H5 x5 S5 E5 => ⟨ρ5, e, M4, x1.trans (x2.trans x5), E5, S5, Out.post.imp h4 (fun _ _ z => sP.sh (x2.trans x5) z) (fun _ _ _ z => eP.sh (x2.trans x5) z)⟩
        | ct e => exact fun ρ5 σ5 H5 x5 S5 E5 => ⟨ρ5, e, M4, x1.trans (x2.trans x5), E5, S5, Out.post.imp h4 (fun _ _ z => sP.sh (x2.trans x5) z) (fun _ _ _ z => eP.sh (x2.trans x5) z)⟩
        | bk e => exact nP.sh x2 h4
        | rt d => exact oP.sh x2 h4
    · have e : i = items.length := by omega
      subst e
      rw [List.drop_length] at q
      exact .inl ⟨g2 (Nat.le_refl _), q ρ' σ' H' .refl S' E'⟩
def whGo (fc : DT) (fb : DS) : Nat → DS
  | 0, _, _ => .bad
  | n + 1, env, M => (fc env M).bind fun c M1 => if c then (fb env M1).bind fun fl M2 => match fl with
      | .nx e => whGo fc fb n e M2
      | .ct e => whGo fc fb n e M2
      | .bk e => .ok (.nx e) M2
      | .rt d => .ok (.rt d) M2
    else .ok (.nx env) M1
theorem ss_while {c : Expr} {body : List Stmt} {fc : DT} {fb : DS} {pos : Pos} (n : Nat) (hp : PassesOwn (model X.prog X.w) X.A X.env X.xe) (hc : ST X cl W c fc) (hb : SSs X cl W body fb) : SS X cl W (.While c body [] pos) (whGo fc fb n) :=
  PSweak (ps_while hp hc hb) fun D σ H ⟨ρ, env, M, hE, hS, h⟩ => by
    refine ⟨fun m σ H => ∃ ρ env M, RE (gx X cl) H ρ env σ ∧ RS (gx X cl) H ρ M ∧ (whGo fc fb m env M).post (sP (gx X cl) H ρ D) (eP (gx X cl) W H ρ), ⟨n, ρ, env, M, hE, hS, h⟩, ?_⟩
    rintro m σ' H' ⟨ρ', env', M', E', S', q⟩
    cases m with
    | zero => exact q.elim
    | succ m =>
      refine ⟨ρ', env', M', E', S', (post_bind (show (Out.bind (fc env' M') _).post _ _ from q)).imp (fun b M1 hx ρ1 H1 e1 S1 => ?_) (fun _ _ _ z => z)⟩
      cases b with
      | false => exact hx ρ1 σ' H1 e1 S1 (E'.mono e1)
      | true =>
        rw [if_pos rfl]
        refine ⟨fun σ H => ∃ ρ env M, RE (gx X cl) H ρ env σ ∧ RS (gx X cl) H ρ M ∧ (whGo fc fb m env M).post (sP (gx X cl) H ρ D) (eP (gx X cl) W H ρ), fun σ2 H2 n2 => ⟨m, Nat.lt_succ_self _, n2⟩, ρ1, env', M1, E'.mono e1, S1, ?_⟩
        refine (post_bind (show (Out.bind (fb env' M1) _).post _ _ from hx)).imp (fun fl M4 h4 => ?_) (fun _ _ _ z => eP.sh e1 z)
        cases fl with
        | nx e => exact fun ρ5 σ5 H5 x5 S5 E5 => ⟨ρ5, e, M4, E5, S5, Out.post.imp h4 (fun _ _ z => sP.sh (e1.trans x5) z) (fun _ _ _ z => eP.sh (e1.trans x5) z)⟩
        | ct e => exact fun ρ5 σ5 H5 x5 S5 E5 => ⟨ρ5, e, M4, E5, S5, Out.post.imp h4 (fun _ _ z => sP.sh (e1.trans x5) z) (fun _ _ _ z => eP.sh (e1.trans x5) z)⟩
        | bk e => exact nP.sh e1 h4
        | rt d => exact oP.sh e1 h4
end
end Ip
end
section
set_option Elab.async false
set_option linter.all false
set_option maxRecDepth 100000
set_option maxHeartbeats 4000000
set_option autoImplicit false
namespace Ip
open PySem L2
def noex {α : Type} (o : Out α) : Out α := match o with
  | .ok a M => .ok a M
  | _ => .bad
theorem noex_post {α : Type} {o : Out α} {Q : α → Sto → Prop} {E E' : Exn → En → Sto → Prop} (h : (noex o).post Q E) : o.post Q E' := by
  cases o with
  | ok a M => exact h
  | exc e env M => exact h.elim
  | bad => exact h
abbrev W0 : WX := fun _ _ _ _ => False
def wipeE (env : En) : List Nat → En
  | [] => env
  | v :: vs => (wipeE env vs).set v none
def lcGo (t : DG) (ft : DT) (fe : DE) : List D → List D → En → Sto → Out (List D)
  | [], acc, _, M => .ok acc M
  | d :: ds, acc, env, M => match t d env with
    | none => .bad
    | some env1 => (noex (ft env1 M)).bind fun b M1 => if b then (noex (fe env1 M1)).bind fun y M2 => if acc.length < 16777216 then lcGo t ft fe ds (acc ++ [y]) env M2 else .bad
      else lcGo t ft fe ds acc env M1
def dLc (vs : List Nat) (t : DG) (fi : DA) (ft : DT) (fe : DE) : DE := fun env M => (fi env M).bind fun items M1 => (lcGo t ft fe items [] (wipeE env vs) M1).bind fun l M2 => .ok (.lst l) M2
def dYes : DT := fun _ M => .ok true M
theorem wipeE_len (env : En) : ∀ vs : List Nat, (wipeE env vs).length = env.length
  | [] => rfl
  | v :: vs => by unfold wipeE; rw [List.length_set, wipeE_len env vs]
theorem wipeE_some {env : En} {i : Nat} {d : D} : ∀ {vs : List Nat}, (wipeE env vs)[i]? = some (some d) → env[i]? = some (some d) ∧ i ∉ vs
  | [], h => ⟨h, by simp⟩
  | v :: vs, h => by
    unfold wipeE at h
    by_cases e : v = i
    · subst e
      rw [List.getElem?_set] at h
      simp at h
    · rw [List.getElem?_set_ne e] at h
      obtain ⟨a, b⟩ := wipeE_some h
      exact ⟨a, fun z => (List.mem_cons.mp z).elim (fun z => e z.symm) b⟩
theorem RE.wipe {G : Gx} {H : Hp} {ρ : Rho} {env : En} {σ : L2.St} (vs : List Nat) (h : RE G H ρ env σ) : RE G H ρ (wipeE env vs) (wipe σ vs) :=
  ⟨by rw [wipeE_len, wipe_length, h.1], fun i d q => by
    obtain ⟨a, b⟩ := wipeE_some q
    obtain ⟨v, e, r⟩ := h.2 i d a
    exact ⟨v, by rw [wipe_out b]; exact e, r⟩⟩
theorem wipe_in {σ : L2.St} {i : Nat} : ∀ {vs : List Nat}, i ∈ vs → (wipe σ vs)[i]? = if i < σ.length then some none else none
  | v :: vs, h => by
    unfold wipe
    by_cases e : v = i
    · subst e
      rw [List.getElem?_set, if_pos rfl, wipe_length]
    · rw [List.getElem?_set_ne e]
      exact wipe_in ((List.mem_cons.mp h).elim (fun z => absurd z.symm e) id)
theorem wipe_eq {σ τ : L2.St} {vs : List Nat} (hl : σ.length = τ.length) (h : ∀ i : Nat, i ∉ vs → σ[i]? = τ[i]?) : wipe σ vs = wipe τ vs := by
  refine List.ext_getElem? fun i => ?_
  by_cases hi : i ∈ vs
  · rw [wipe_in hi, wipe_in hi, hl]
  · rw [wipe_out hi, wipe_out hi, h i hi]
/-- a target whose names are all the comprehension's own -/
def TgOk (G : Gx) (vs : List Nat) (g : TG) (t : DG) : Prop := ∀ (H : Hp) (ρ : Rho) (v : V) (σ : L2.St) (env env' : En) (d : D) (Q : L2.St → Hp → Prop), RE G H ρ env σ → RV G H ρ d v → t d env = some env' →
  (∀ σ', RE G H ρ env' σ' → wipe σ' vs = wipe σ vs → Q σ' H) → g v σ H Q
theorem tgok_name {G : Gx} {vs : List Nat} {i : Nat} (hi : i ∈ vs) : TgOk G vs (gName i) (tgName i) := fun H ρ v σ env env' d Q hE r e h => by
  cases e
  exact h _ (hE.set i r) (wipe_eq (by simp) fun j hj => List.getElem?_set_ne (fun z : i = j => hj (z ▸ hi)))
section
variable {X : Cx} {cl : Str → Option Addr} {W : WX} {G : Gx}
theorem lc_ok {vs : List Nat} {g : TG} {t : DG} {fi : DA} {ft : DT} {fe : DE} (hg : TgOk G vs g t) {σ : L2.St} {H : Hp} {Q : VK} (h : dE G W (dLc vs t fi ft fe) σ H Q) : tLc (dI G W fi) g (dT G W0 ft) (dE G W0 fe) vs σ H Q := by
  obtain ⟨ρ, env, M, hE, hS, h⟩ := h
  refine ⟨ρ, env, M, hE, hS, (post_bind h).imp (fun items M1 hx ρ1 H1 J e1 S1 good D hD => ?_) (fun _ _ _ z => z)⟩
  have hD1 : D ∉ ρ1 := S1.fresh hD
  refine ⟨fun i m H => m = items.length - i ∧ i ≤ items.length ∧ ∃ (ρ : Rho) (M : Sto) (acc : List Ip.D) (av : List V), ρ.t = D :: ρ1.t ∧ Ext G H1 ρ1 H ⟨ρ.c, ρ1.t⟩ ∧ H D = some (.lst av) ∧ RVs G H ρ acc av ∧ RE G H ρ (wipeE env vs) (wipe σ vs) ∧ RS G H ρ M ∧
    (lcGo t ft fe (items.drop i) acc (wipeE env vs) M).post (fun l M' => oP G H1 ρ1 Q (.lst l) M') (fun _ _ _ => False), ⟨items.length, by simp, Nat.zero_le _, ⟨ρ1.c, D :: ρ1.t⟩, M1, [], [], rfl, ?_, upd_same, .nil, ?_, ?_, ?_⟩, ?_⟩
  · exact Ext.new S1 hD
  · refine RE.mo (H := H1) (ρ := ρ1) ?_ ((hE.mono e1).wipe vs)
    exact ⟨fun _ _ z => z, fun a xs z => tpA_upd z (fun u w => by rw [hD] at w; cases w), fun a o n nt z => ⟨by rw [upd_ne (ne_of_none z hD)]; exact z, fun w => by
      rcases w with w | w
      · exact n (.inl w)
      · rcases List.mem_cons.mp w with w | w
        · exact ne_of_none z hD w
        · exact n (.inr w)⟩⟩
  · have mo : Mo G H1 ρ1 (upd H1 D (.lst [])) ⟨ρ1.c, D :: ρ1.t⟩ := ⟨fun _ _ z => z, fun a xs z => tpA_upd z (fun u w => by rw [hD] at w; cases w), fun a o n nt z => ⟨by rw [upd_ne (ne_of_none z hD)]; exact z, fun w => by
      rcases w with w | w
      · exact n (.inl w)
      · rcases List.mem_cons.mp w with w | w
        · exact ne_of_none z hD w
        · exact n (.inr w)⟩⟩
    refine ⟨S1.len, S1.nd, fun a ha hb => ?_, fun a ha => ?_, fun n c hc => ?_, S1.tb.keeps fun b u z _ => by rw [upd_ne (ne_of_none z hD)]; exact z⟩
    · rcases List.mem_cons.mp hb with z | z
      · exact hD1 (.inl (by rw [← z]; exact ha))
      · exact S1.dis a ha z
    · rcases List.mem_cons.mp ha with z | z
      · exact ⟨_, by rw [z]; exact upd_same, .inl ⟨_, rfl⟩⟩
      · rw [upd_ne (S1.ne_new hD (.inr z))]; exact S1.trt a z
    · obtain ⟨a, ha, q⟩ := S1.at_ n c hc
      exact ⟨a, ha, q.mo mo (upd_ne (S1.ne_new hD (.inl (List.mem_of_getElem? ha))))⟩
  · have hx' := post_bind hx
    rw [List.drop_zero]
    cases hlc : lcGo t ft fe items [] (wipeE env vs) M1 with
    | ok l M2 => rw [hlc] at hx'; exact oP.sh e1 hx'
    | bad => rw [hlc] at hx'; exact hx'
    | exc e ev M2 =>
      exfalso
      -- a comprehension's walk raises nothing
      have : ∀ (ds acc : List Ip.D) (env : En) (M : Sto) (e : Exn) (ev : En) (M2 : Sto), lcGo t ft fe ds acc env M ≠ .exc e ev M2 := by
        intro ds
        induction ds with
        | nil => intro acc env M e ev M2 z; cases z
        | cons d ds ih =>
          intro acc env M e ev M2 z
          unfold lcGo at z
          split at z
          · cases z
          · cases h1 : ft _ M with
            | bad => rw [h1] at z; cases z
            | exc _ _ _ => rw [h1] at z; cases z
            | ok b M3 =>
              rw [h1] at z
              cases b with
              | false => exact ih _ _ _ _ _ _ z
              | true =>
                change (noex (fe _ M3)).bind _ = _ at z
                cases h2 : fe _ M3 with
                | bad => rw [h2] at z; cases z
                | exc _ _ _ => rw [h2] at z; cases z
                | ok y M4 =>
                  rw [h2] at z
                  change (if acc.length < 16777216 then _ else _) = _ at z
                  split at z
                  · exact ih _ _ _ _ _ _ z
                  · cases z
      exact this _ _ _ _ _ _ _ hlc
  · rintro i m H2 ⟨rfl, hi, ρ2, M2, acc, av, ht, x2, hDv, ra, E2, S2, q⟩
    have mk2 : ∀ (a : Addr) (o : HO), a ∉ ρ1 → (∀ ps, o ≠ .tbl ps) → H1 a = some o → H2 a = some o ∧ a ∉ ρ2 := fun a o n nt z => ⟨(x2.keep a o n nt z).1, fun w => by
      rcases w with w | w
      · exact (x2.keep a o n nt z).2 (.inl w)
      · rw [ht] at w
        rcases List.mem_cons.mp w with w | w
        · exact ne_of_none z hD w
        · exact n (.inr w)⟩
    have mo2 : Mo G H1 ρ1 H2 ρ2 := ⟨x2.pre, x2.tup, fun a o n p z => mk2 a o n p.tbl z⟩
    have hDt : D ∈ ρ2.t := by rw [ht]; exact List.mem_cons_self
    obtain ⟨g1, g2⟩ := good H2 ρ2 mo2 i
    by_cases hlt : i < items.length
    · have hd : items[i]? = some items[i] := List.getElem?_eq_getElem hlt
      obtain ⟨go, yl⟩ := g1 _ hd
      have hdrop : items.drop i = items[i] :: items.drop (i + 1) := List.drop_eq_getElem_cons hlt
      rw [hdrop] at q
      refine .inr ⟨go, fun H => ∃ (ρ : Rho) (M : Sto) (acc : List Ip.D) (av : List V), ρ.t = D :: ρ1.t ∧ Ext G H1 ρ1 H ⟨ρ.c, ρ1.t⟩ ∧ H D = some (.lst av) ∧ RVs G H ρ acc av ∧ RE G H ρ (wipeE env vs) (wipe σ vs) ∧ RS G H ρ M ∧
        (lcGo t ft fe (items.drop (i + 1)) acc (wipeE env vs) M).post (fun l M' => oP G H1 ρ1 Q (.lst l) M') (fun _ _ _ => False), fun H' n2 => ⟨items.length - (i + 1), by omega, rfl, hlt, n2⟩, fun x H3 y => ?_⟩
      obtain ⟨x3, rs3, r3⟩ := yl x H3 y ⟨M2, S2⟩
      unfold lcGo at q
      split at q
      · exact q.elim
      · rename_i env1 he1
        refine hg H3 ρ2 x _ _ env1 _ _ (E2.mono x3) r3 he1 fun σ4 E4 w4 => ⟨w4.trans (by rw [wipe_eq (σ := wipe σ vs) (τ := σ) (vs := vs) (wipe_length _ _) fun j hj => wipe_out hj]), ?_⟩
        -- from where the turn began to where it is
        have step : ∀ {H5 : Hp} {ρ5 : Rho}, Ext G H2 ρ2 H5 ρ5 → Ext G H1 ρ1 H5 ⟨ρ5.c, ρ1.t⟩ ∧ ρ5.t = D :: ρ1.t ∧ H5 D = some (.lst av) := fun {H5 ρ5} x5 =>
          ⟨⟨fun n a z => x5.pre n a (x2.pre n a z), rfl, fun a z => (x5.same a (by rw [ht]; exact List.mem_cons_of_mem _ z)).trans (x2.same a z), fun a xs z => x5.tup a xs (x2.tup a xs z), fun a o n nt z => by
              obtain ⟨k1, k2⟩ := mk2 a o n nt z
              obtain ⟨k3, k4⟩ := x5.keep a o k2 nt k1
              exact ⟨k3, fun w => by
                rcases w with w | w
                · exact k4 (.inl w)
                · exact n (.inr w)⟩⟩, x5.res.trans ht, (x5.same D hDt).trans hDv⟩
        refine ⟨ρ2, env1, M2, E4, rs3 M2 S2, (noex_post (post_bind q)).imp (fun b M5 hb ρ5 H5 x5 S5 => ?_) (fun _ _ _ z => z)⟩
        cases b with
        | false =>
          obtain ⟨s1, s2, s3⟩ := step (x3.trans x5)
          exact ⟨ρ5, M5, acc, av, s2, s1, s3, ra.mono (x3.trans x5), E2.mono (x3.trans x5), S5, hb⟩
        | true =>
          rw [if_pos rfl]
          refine ⟨ρ5, env1, M5, E4.mono x5, S5, (noex_post (post_bind (show (Out.bind (noex (fe env1 M5)) _).post _ _ from hb))).imp (fun y M6 hy ρ6 v6 H6 x6 S6 r6 => ?_) (fun _ _ _ z => z)⟩
          obtain ⟨s1, s2, s3⟩ := step (x3.trans (x5.trans x6))
          split at hy
          · rename_i hlen
            have hD6 : D ∈ ρ6.t := by rw [s2]; exact List.mem_cons_self
            have mo6 : Mo G H6 ρ6 (upd H6 D (.lst (av ++ [v6]))) ρ6 := ⟨fun _ _ z => z, fun a xs z => tpA_upd z (fun u w => by rw [s3] at w; cases w; exact ⟨fun _ z => (by cases z), fun _ _ z => (by cases z)⟩), fun a o n nt z => ⟨by rw [upd_ne (fun w : a = D => n (by rw [w]; exact .inr hD6))]; exact z, n⟩⟩
            have la : av.length = acc.length := ra.length
            refine ⟨av, s3, by rw [la]; rw [sizeLine_eq]; exact hlen, ρ6, M6, acc ++ [y], av ++ [v6], s2, ⟨s1.pre, rfl, fun a z => ?_, fun a xs z => mo6.tup a xs (s1.tup a xs z), fun a o n nt z => ?_⟩, upd_same, ?_, (E2.mono (x3.trans (x5.trans x6))).mo mo6, ?_, hy⟩
            · rw [upd_ne (fun w : a = D => hD1 (by rw [← w]; exact .inr z))]
              exact s1.same a z
            · obtain ⟨k1, k2⟩ := s1.keep a o n nt z
              exact ⟨by rw [upd_ne (ne_of_none z hD)]; exact k1, k2⟩
            · exact ((ra.mono (x3.trans (x5.trans x6))).append (.one r6)).mo mo6
            · refine ⟨S6.len, S6.nd, S6.dis, fun a ha => ?_, fun n c hc => ?_, S6.tb.keeps fun b u z nz => by rw [upd_ne (fun w : b = D => nz (by rw [w, s3] at z; cases z; exact .inl ⟨_, rfl⟩))]; exact z⟩
              · by_cases z : a = D
                · exact ⟨_, by rw [z]; exact upd_same, .inl ⟨_, rfl⟩⟩
                · rw [upd_ne z]; exact S6.trt a ha
              · obtain ⟨a, ha, q⟩ := S6.at_ n c hc
                exact ⟨a, ha, q.mo mo6 (upd_ne (fun z : a = D => S6.dis a (List.mem_of_getElem? ha) (by rw [z]; exact hD6)))⟩
          · exact hy.elim
    · have e : i = items.length := by omega
      subst e
      rw [List.drop_length] at q
      refine .inl ⟨g2 (Nat.le_refl _), q ⟨ρ2.c, ρ1.t⟩ (.ref D) H2 x2 ?_ ?_⟩
      · have mo : Mo G H2 ρ2 H2 ⟨ρ2.c, ρ1.t⟩ := ⟨fun _ _ z => z, fun _ _ z => z, fun a o n nt z => ⟨z, fun w => by
          rcases w with w | w
          · exact n (.inl w)
          · exact n (.inr (by rw [ht]; exact List.mem_cons_of_mem _ w))⟩⟩
        refine ⟨S2.len, S2.nd, fun a ha hb => S2.dis a ha (by rw [ht]; exact List.mem_cons_of_mem _ hb), fun a ha => S2.trt a (by rw [ht]; exact List.mem_cons_of_mem _ ha), fun n c hc => ?_, S2.tb⟩
        obtain ⟨a, ha, q⟩ := S2.at_ n c hc
        exact ⟨a, ha, q.mo mo rfl⟩
      · have mo : Mo G H2 ρ2 H2 ⟨ρ2.c, ρ1.t⟩ := ⟨fun _ _ z => z, fun _ _ z => z, fun a o n nt z => ⟨z, fun w => by
          rcases w with w | w
          · exact n (.inl w)
          · exact n (.inr (by rw [ht]; exact List.mem_cons_of_mem _ w))⟩⟩
        exact .lst hDv (fun w => by
          rcases w with w | w
          · exact S2.dis D w hDt
          · exact hD1 (.inr w)) (ra.mo mo)
end
end Ip
end
section
set_option Elab.async false
set_option linter.all false
set_option maxRecDepth 100000
set_option maxHeartbeats 4000000
set_option autoImplicit false
namespace Ip
open PySem PyProof.Rows L2
section
variable {X : Cx} {cl : Str → Option Addr} {W : WX} {G : Gx}
theorem se_lc {elt tg iter : Expr} {ifs : List Expr} {scope : Scope} {own : List (Str × Nat)} {pos : Pos} {g : TG} {t : DG} {fi : DA} {ft : DT} {fe : DE} (hc : X.calm = true) (hN : X.N.Nodup) (hi : SI X cl W tg iter fi) (ok : BlkOk X.N X.env.scope scope own)
    (hgp : ∀ (s : Shared) (H : Hp) (C : Addr) (c : List (Str × Addr)) (fp : List Addr), PG (X.blk s H scope (compEnvC scope c C X.env) fp) tg g) (hg : TgOk (gx X cl) (own.map (·.2)) g t)
    (ht : ∀ (s : Shared) (H : Hp) (C : Addr) (c : List (Str × Addr)) (fp : List Addr), PTs (X.blk s H scope (compEnvC scope c C X.env) fp) ifs (dT (gx X cl) W0 ft))
    (he : ∀ (s : Shared) (H : Hp) (C : Addr) (c : List (Str × Addr)) (fp : List Addr), PE (X.blk s H scope (compEnvC scope c C X.env) fp) elt (dE (gx X cl) W0 fe)) (hs : ∀ x, foldedSetIterable iter X.env x = pure x := by intro _; rfl) :
    SE X cl W (.ListComp elt [⟨tg, iter, ifs, 0⟩] scope pos) (dLc (own.map (·.2)) t fi ft fe) :=
  PEweak (pe_lc hc hN hi ok hgp ht he hs) fun σ H Q h => lc_ok hg h
theorem pts_yes : PTs X [] (dT G W0 dYes) := PTsweak pts_nil fun σ H Q ⟨ρ, env, M, hE, hS, h⟩ => h ρ H .refl hS
theorem pts_st {c : Expr} {ft : DT} (h : ST X cl W0 c ft) : PTs X [c] (dT (gx X cl) W0 ft) := pts_one h
def iterD (x : D) : Option (List D) := match x with
  | .lst l => some l
  | .tup l => some l
  | .scr ns => some (ns.map D.int)
  | _ => none
def dIter (fe : DE) : DA := fun env M => (fe env M).bind fun x M1 => match iterD x with
  | some l => .ok l M1
  | none => .bad
theorem good_lst {H0 : Hp} {ρ0 : Rho} {a : Addr} {vs : List V} {ds : List D} (hs : H0 a = some (.lst vs)) (hn : a ∉ ρ0) (rs : RVs G H0 ρ0 ds vs) : Good (Itl G.K a) G ds ρ0 H0 := by
  intro H ρ mo i
  have hl := (mo.keep _ _ hn (by first | exact .l | exact .f) hs).1
  have rs' := rs.mo mo
  refine ⟨fun d hd => ?_, fun hi => ⟨vs, SqL.of hl, by rw [rs.length]; exact hi⟩⟩
  obtain ⟨v, hv, rv⟩ := rs'.get hd
  refine ⟨⟨vs, v, SqL.of hl, hv⟩, fun x H' y _ => ?_⟩
  obtain ⟨rfl, y⟩ := y
  have e := y vs (SqL.of hl)
  rw [hv] at e; cases e
  exact ⟨.refl, fun _ z => z, rv⟩
theorem good_scr {H0 : Hp} {ρ0 : Rho} {a : Addr} {ns : List Int} (hs : (Rd H0 a (.lst (ns.map V.int)) ∧ a ∉ ρ0) ∨ (∀ H', SqL G.K H' a (ns.map V.int))) : Good (Itl G.K a) G (ns.map D.int) ρ0 H0 := by
  intro H ρ mo i
  have hl : SqL G.K H a (ns.map V.int) := by
    rcases hs with ⟨h | ⟨o, h⟩, n⟩ | h
    · exact .inl (.inl (mo.keep _ _ n (by first | exact .l | exact .f) h).1)
    · exact .inl (.inr ⟨o, (mo.keep _ _ n (by first | exact .l | exact .f) h).1⟩)
    · exact h H
  have rs' : RVs G H ρ (ns.map D.int) (ns.map V.int) := RVs.ints ns
  refine ⟨fun d hd => ?_, fun hi => ⟨_, hl, by rw [rs'.length]; exact hi⟩⟩
  obtain ⟨v, hv, rv⟩ := rs'.get hd
  refine ⟨⟨_, v, hl, hv⟩, fun x H' y _ => ?_⟩
  obtain ⟨rfl, y⟩ := y
  have e := y _ hl
  rw [hv] at e; cases e
  exact ⟨.refl, fun _ z => z, rv⟩
theorem good_tup {H0 : Hp} {ρ0 : Rho} {a : Addr} {vs : List V} {ds : List D} (hs : TpA G H0 a vs) (rs : RVs G H0 ρ0 ds vs) : Good (Itt G.K a) G ds ρ0 H0 := by
  intro H ρ mo i
  have hl := (mo.tup _ _ hs).1
  have rs' := rs.mo mo
  refine ⟨fun d hd => ?_, fun hi => ⟨vs, hl, by rw [rs.length]; exact hi⟩⟩
  obtain ⟨v, hv, rv⟩ := rs'.get hd
  refine ⟨⟨vs, v, hl, hv⟩, fun x H' y _ => ?_⟩
  obtain ⟨rfl, y⟩ := y
  have e := y vs hl
  rw [hv] at e; cases e
  exact ⟨.refl, fun _ z => z, rv⟩
def rngD (lo : Int) (n : Nat) : List D := (List.range n).map fun k => D.int (lo + (k : Nat))
theorem good_rng {H0 : Hp} {ρ0 : Rho} {lo : Int} {n : Nat} : Good (Itr lo n) G (rngD lo n) ρ0 H0 := by
  intro H ρ mo i
  refine ⟨fun d hd => ?_, fun hi => show n ≤ i by simpa [rngD] using hi⟩
  have hi : i < n := by
    have := (List.getElem?_eq_some_iff.mp hd).1
    simpa [rngD] using this
  have e : d = D.int (lo + (i : Nat)) := by
    unfold rngD at hd
    rw [List.getElem?_map, List.getElem?_range hi] at hd
    exact (Option.some.inj hd).symm
  subst e
  refine ⟨hi, fun x H' y _ => ?_⟩
  obtain ⟨rfl, rfl⟩ := y
  exact ⟨.refl, fun _ z => z, .int _⟩
def enumD (k : Nat) : List D → List D
  | [] => []
  | d :: ds => .tup [.int (k : Nat), d] :: enumD (k + 1) ds
theorem enumD_get : ∀ {ds : List D} {k i : Nat}, (enumD k ds)[i]? = (ds[i]?).map fun d => D.tup [.int ((k + i : Nat) : Int), d]
  | [], k, i => by simp [enumD]
  | d :: ds, k, 0 => by simp [enumD]
  | d :: ds, k, i + 1 => by
    have := enumD_get (ds := ds) (k := k + 1) (i := i)
    simp only [enumD, List.getElem?_cons_succ]
    rw [this]
    have e : k + 1 + i = k + (i + 1) := by omega
    rw [e]
theorem enumD_len : ∀ {ds : List D} {k : Nat}, (enumD k ds).length = ds.length
  | [], k => rfl
  | d :: ds, k => by simp [enumD, enumD_len]
theorem good_enum {H0 : Hp} {ρ0 : Rho} {a : Addr} {vs : List V} {ds : List D} (hs : H0 a = some (.lst vs)) (hn : a ∉ ρ0) (rs : RVs G H0 ρ0 ds vs) : Good (Ite G.K a) G (enumD 0 ds) ρ0 H0 := by
  intro H ρ mo i
  have hl := (mo.keep _ _ hn (by first | exact .l | exact .f) hs).1
  have rs' := rs.mo mo
  refine ⟨fun d hd => ?_, fun hi => ⟨vs, SqL.of hl, by rw [rs.length]; rw [enumD_len] at hi; exact hi⟩⟩
  rw [enumD_get] at hd
  cases e : ds[i]? with
  | none => rw [e] at hd; cases hd
  | some d0 =>
    rw [e] at hd
    cases hd
    obtain ⟨v, hv, rv⟩ := rs'.get e
    refine ⟨⟨vs, v, SqL.of hl, hv⟩, fun x H' y ⟨M, S⟩ => ?_⟩
    obtain ⟨T, x', rfl, hT, rfl, y⟩ := y
    have e := y vs (SqL.of hl)
    rw [hv] at e; cases e
    refine ⟨Ext.new S hT, fun M' S' => S'.new hT, .tup (TpA.of upd_same) (.cons ?_ (.one (rv.mono (Ext.new S hT))))⟩
    have e0 : ((0 + i : Nat) : Int) = (i : Nat) := by omega
    rw [e0]; exact .int _
end
theorem PI.or {X : Cx} {tg e : Expr} {t t' : TI} (h : PI X tg e t) (h' : PI X tg e t') : PI X tg e (fun σ H R => t σ H R ∨ t' σ H R) :=
  ⟨fun pins s σ H R I z => z.elim (h.run pins s σ H R I) (h'.run pins s σ H R I)⟩
section
variable {X : Cx} {cl : Str → Option Addr} {W : WX} {G : Gx}
theorem si_iter {tg e : Expr} {fe : DE} (he : SE X cl W e fe) : SI X cl W tg e (dIter fe) :=
  PIweak (PI.or (pi_list he) (pi_tup he)) fun σ H R ⟨ρ, env, M, hE, hS, h⟩ => by
    have h' := post_bind h
    cases hf : fe env M with
    | bad => rw [hf] at h'; exact h'.elim
    | exc e ev M1 => exact .inl ⟨ρ, env, M, hE, hS, by rw [hf] at h' ⊢; exact h'⟩
    | ok d M1 =>
      rw [hf] at h'
      cases d with
      | lst l => exact .inl ⟨ρ, env, M, hE, hS, by
          rw [hf]
          intro ρ1 v H1 e1 S1 r1
          cases r1 with
          | lst hs hn rs => exact ⟨_, rfl, ⟨_, SqL.of hs⟩, h' ρ1 H1 _ e1 S1 (good_lst (G := gx X cl) hs hn rs)⟩⟩
      | scr ns => exact .inl ⟨ρ, env, M, hE, hS, by
          rw [hf]
          intro ρ1 v H1 e1 S1 r1
          cases r1 with
          | scr hs =>
            refine ⟨_, rfl, ⟨ns.map V.int, ?_⟩, h' ρ1 H1 _ e1 S1 (good_scr (G := gx X cl) hs)⟩
            rcases hs with ⟨h, _⟩ | h
            · exact .inl h
            · exact h H1⟩
      | tup l => exact .inr ⟨ρ, env, M, hE, hS, by
          rw [hf]
          intro ρ1 v H1 e1 S1 r1
          cases r1 with
          | tup hs rs => exact ⟨_, rfl, ⟨_, hs.1⟩, h' ρ1 H1 _ e1 S1 (good_tup (G := gx X cl) hs rs)⟩⟩
      | _ => exact h'.elim
def in62 (j : Int) : Bool := decide (-(2 ^ 62) ≤ j) && decide (j < 2 ^ 62)
theorem in62_ok {j : Int} (h : in62 j = true) : -(2 ^ 62) ≤ j ∧ j < 2 ^ 62 := by
  unfold in62 at h
  simp only [Bool.and_eq_true, decide_eq_true_eq] at h
  exact h
def dRng1 (fa : DA) : DA := fun env M => (fa env M).bind fun ds M1 => match ds with
  | [.int j] => if in62 j then .ok (rngD 0 j.toNat) M1 else .bad
  | _ => .bad
def dRng2 (fa : DA) : DA := fun env M => (fa env M).bind fun ds M1 => match ds with
  | [.int i, .int j] => if in62 i && in62 j then .ok (rngD i (j - i).toNat) M1 else .bad
  | _ => .bad
theorem si_range1 {tg a : Expr} {fa : DA} {p pos : Pos} (hg : Gl X "range") (hm : X.mg "range" = none) (ha : SA X cl W [a] fa) (hs : starEach [a] X.env = [(false, eval a X.env)] := by rfl) : SI X cl W tg (.Call (.Name "range" p) [a] [] pos) (dRng1 fa) :=
  PIweak (pi_range1 hg hm ha hs) fun σ H R ⟨ρ, env, M, hE, hS, h⟩ => by
    refine ⟨ρ, env, M, hE, hS, (post_bind h).imp (fun ds M1 hx ρ1 vs H1 e1 S1 r1 => ?_) (fun _ _ _ z => z)⟩
    split at hx
    · rename_i j
      split at hx
      · rename_i hj
        cases r1 with
        | cons q1 q2 =>
          cases q1
          cases q2
          exact ⟨j, rfl, (in62_ok hj).1, (in62_ok hj).2, hx ρ1 H1 _ e1 S1 good_rng⟩
      · exact hx.elim
    · exact hx.elim
abbrev DF := List D → Sto → Out D
def spD (G : Gx) (F : DF) : Sp := fun vs H Q _ => ∃ ρ M ds, RS G H ρ M ∧ RVs G H ρ ds vs ∧ (F ds M).post (oP G H ρ Q) (fun _ _ _ => False)
def dCall (F : DF) (fa : DA) : DE := fun env M => (fa env M).bind fun ds M1 => noex (F ds M1)
theorem noexF {α : Type} {o : Out α} {Q : α → Sto → Prop} {E : Exn → En → Sto → Prop} (h : (noex o).post Q E) : o.post Q (fun _ _ _ => False) := noex_post h
theorem se_call {F : DF} {k : Nat} {f : Addr} {fd : FuncData} {ps : List Str} {x : Str} {e : Expr} {es : List Expr} {fa : DA} {p pos : Pos} (Fk : FnOk X.prog X.w X.K X.mg X.base CX0 k f fd ps (spD (gx X cl) F)) (hr : Room k X.A) (hg : Gl X x) (hm : X.mg x = some (.ref f)) (hk : PySem.W.keepIn X.K (.ref f) = true) (hb : Binds X.K fd ps [])
    (ha : SA X cl W (e :: es) fa) (hdb : (x == ("__debug__" : Str)) = false := by decide) (he : starEach (e :: es) X.env = (false, eval e X.env) :: starEach es X.env := by rfl) (hpl : (backTo pos (starEach es X.env)).any (·.1) = false := by rfl) :
    SE X cl W (.Call (.Name x p) (e :: es) [] pos) (dCall F fa) :=
  PEweak (pe_call Fk hr hg hm hk hb .nil (E := E0) pass0 ha hdb he hpl) fun σ H Q ⟨ρ, env, M, hE, hS, h⟩ => by
    refine ⟨ρ, env, M, hE, hS, (post_bind h).imp (fun ds M1 hx ρ1 vs H1 e1 S1 r1 => ?_) (fun _ _ _ z => z)⟩
    show spD (gx X cl) F (vs ++ []) H1 Q E0
    rw [List.append_nil]
    exact ⟨ρ1, M1, ds, S1, r1, (noexF hx).imp (fun _ _ z => oP.sh e1 z) (fun _ _ _ z => z)⟩
def runF (n m : Nat) (fb : DS) : DF := fun ds M => if ds.length = m then (fb (ds.map some ++ List.replicate (n - m) none) M).bind fun fl M1 => match fl with
    | .nx _ => .ok .non M1
    | .rt d => .ok d M1
    | _ => .bad
  else .bad
theorem runF_len {n m : Nat} {fb : DS} {ds : List D} {M : Sto} {Q : D → Sto → Prop} {E : Exn → En → Sto → Prop} (h : (runF n m fb ds M).post Q E) : ds.length = m ∧ ((fb (ds.map some ++ List.replicate (n - m) none) M).bind fun fl M1 => match fl with
    | .nx _ => Out.ok D.non M1
    | .rt d => .ok d M1
    | _ => .bad).post Q E := by
  unfold runF at h
  split at h
  · exact ⟨by assumption, h⟩
  · exact h.elim
theorem RE.start {H : Hp} {ρ : Rho} {N : List Str} {ds : List D} {vs : List V} (r : RVs G H ρ ds vs) : RE G H ρ (ds.map some ++ List.replicate (N.length - ds.length) none) (start N vs) := by
  have hl := r.length
  refine ⟨by simp [L2.start, hl], fun i d h => ?_⟩
  by_cases hi : i < ds.length
  · rw [List.getElem?_append_left (by simpa using hi)] at h
    rw [List.getElem?_map] at h
    cases e : ds[i]? with
    | none => rw [e] at h; cases h
    | some d0 =>
      rw [e] at h
      cases h
      obtain ⟨v, hv, rv⟩ := r.get e
      refine ⟨v, ?_, rv⟩
      unfold L2.start
      rw [List.getElem?_append_left (by simp [hl]; exact hi), List.getElem?_map, hv]
      rfl
  · rw [List.getElem?_append_right (by simpa using hi)] at h
    rw [List.getElem?_replicate] at h
    split at h
    · cases h
    · cases h
theorem fnok {P : Program} {w : World} {K : PySem.W.Frag} {mg : Str → Option Value} {base : Heap} {cl : Str → Option Addr} {x qual : Str} {st : Stmt} {f : Addr} {fd : FuncData} {N ps : List Str} {k : Nat} {fb : DS} (F : Fun K x qual st f fd) (S : FnScope N ps (defScope st))
    (hb : ∀ (cdv : Value) (A : Around) (outer : List Env) (s : Shared) (H : Hp) (E : XK), Room k (A.deeper (envOfC qual (defScope st) s.heap.objs.size f cdv)) → SSs (cxOf CX0 P w K mg base N qual (defScope st) f cdv A outer s H E).nox cl W0 (defBody st) fb) :
    FnOk P w K mg base CX0 (k + 1) f fd ps (spD ⟨K, cl⟩ (runF N.length ps.length fb)) := by
  refine F.ok S (fun vs H Q E ⟨ρ, M, ds, hS, r, h⟩ => by rw [r.length]; exact (runF_len h).1) fun cdv A outer s H vs Q E hr ⟨ρ, M, ds, hS, r, h⟩ => ⟨_, hb cdv A outer s H E hr, ?_⟩
  obtain ⟨hl, h⟩ := runF_len h
  rw [← hl] at h
  refine ⟨ρ, _, M, RE.start (N := N) r, hS, (post_bind h).imp (fun fl M1 hx => ?_) (fun _ _ _ z => z.elim)⟩
  cases fl with
  | nx env => exact fun ρ1 σ1 H1 e1 S1 E1 => hx ρ1 .non H1 e1 S1 .non
  | rt d => exact hx
  | bk env => exact hx.elim
  | ct env => exact hx.elim
end
end Ip
end
section
set_option Elab.async false
set_option linter.all false
set_option maxRecDepth 100000
set_option maxHeartbeats 4000000
set_option autoImplicit false
namespace Ip
open PySem PyProof.Rows L2
mutual
def closed (k : Nat) : D → Bool
  | .tup l => closedAll k l
  | .lst l => closedAll k l
  | .obj _ _ l => closedAll k l
  | .ref n => decide (n < k)
  | .non => true
  | .bl _ => true
  | .int _ => true
  | .str _ => true
  | .scr _ => true
  | .ty _ => true
  | .cls _ => true
  | .dK _ l => closedAll k l
  | .dT _ l => closedAll k l
def closedAll (k : Nat) : List D → Bool
  | [] => true
  | d :: ds => closed k d && closedAll k ds
end
def cellClosed (k : Nat) : Cell → Bool
  | .lst ds => closedAll k ds
  | .ins _ _ ds => closedAll k ds
  | .dK _ ds => closedAll k ds
  | .dT _ ds => closedAll k ds
def thaw (k : Nat) (M : Sto) (d : D) : Option D := match d with
  | .ref n => if n < k then some (.ref n) else match M[n]? with
    | some (.lst ds) => if closedAll k ds then some (.lst ds) else none
    | some (.ins c ks ds) => if closedAll k ds then some (.obj c ks ds) else none
    | some (.dK ks ds) => if closedAll k ds then some (.dK ks ds) else none
    | some (.dT ks ds) => if closedAll k ds then some (.dT ks ds) else none
    | none => none
  | d => if closed k d then some d else none
def frzO (k : Nat) (d : D) (M1 : Sto) : Out D := match thaw k M1 d with
  | some d' => if (M1.take k).all (cellClosed k) then .ok d' (M1.take k) else .bad
  | none => .bad
def frz (F : DF) : DF := fun ds M => (F ds M).bind fun d M1 => frzO M.length d M1
section
variable {G : Gx} {H : Hp} {ρ : Rho} {k : Nat}
def Rho.cut (ρ : Rho) (k : Nat) : Rho := ⟨ρ.c.take k, ρ.t⟩
theorem Rho.cut_sub {a : Addr} (h : a ∉ ρ) : a ∉ ρ.cut k := fun z => by
  rcases z with z | z
  · exact h (.inl (List.mem_of_mem_take z))
  · exact h (.inr z)
mutual
theorem RV.cut : ∀ {d : D} {v : V}, RV G H ρ d v → closed k d = true → RV G H (ρ.cut k) d v
  | _, _, .non, _ => .non
  | _, _, .bl b, _ => .bl b
  | _, _, .int i, _ => .int i
  | _, _, .str s, _ => .str s
  | _, _, .ty s, _ => .ty s
  | _, _, .tup h r, c => .tup h (RVs.cut r (by simpa [closed] using c))
  | _, _, .lst h n r, c => .lst h (Rho.cut_sub n) (RVs.cut r (by simpa [closed] using c))
  | _, _, .scr h, _ => .scr (h.elim (fun z => .inl ⟨z.1, Rho.cut_sub z.2⟩) .inr)
  | _, _, .ref (n := n) (a := a) h, c => .ref (by
      have c' : n < k := by simpa [closed] using c
      show (ρ.c.take k)[n]? = some a
      rw [List.getElem?_take_of_lt c']; exact h)
  | _, _, .obj c h l n r, z => .obj c h l (Rho.cut_sub n) (RVs.cut r (by simpa [closed] using z))
  | _, _, .cls h, _ => .cls h
  | _, _, .dK h l n r, z => .dK h l (Rho.cut_sub n) (RVs.cut r (by simpa [closed] using z))
  | _, _, .dT h l n r, z => .dT h l (Rho.cut_sub n) (RVs.cut r (by simpa [closed] using z))
theorem RVs.cut : ∀ {ds : List D} {vs : List V}, RVs G H ρ ds vs → closedAll k ds = true → RVs G H (ρ.cut k) ds vs
  | _, _, .nil, _ => .nil
  | _, _, .cons a b, c => by
    simp only [closedAll, Bool.and_eq_true] at c
    exact .cons (RV.cut a c.1) (RVs.cut b c.2)
end
theorem RS.cut {M : Sto} (S : RS G H ρ M) (hc : (M.take k).all (cellClosed k) = true) : RS G H (ρ.cut k) (M.take k) := by
  refine ⟨by show (ρ.c.take k).length = _; simp [S.len], S.nd.sublist (List.take_sublist _ _), fun a ha => S.dis a (List.mem_of_mem_take ha), S.trt, fun n c h => ?_, S.tb⟩
  have hn : n < k := by
    have := (List.getElem?_eq_some_iff.mp h).1
    simp at this; omega
  have hcc : cellClosed k c = true := List.all_eq_true.mp hc c (List.mem_of_getElem? h)
  rw [List.getElem?_take_of_lt hn] at h
  obtain ⟨a, ha, q⟩ := S.at_ n c h
  refine ⟨a, by show (ρ.c.take k)[n]? = some a; rw [List.getElem?_take_of_lt hn]; exact ha, ?_⟩
  cases c with
  | lst ds => obtain ⟨vs, e, r⟩ := q; exact ⟨vs, e, r.cut hcc⟩
  | ins c ks ds => obtain ⟨C, dx, vs, e0, e, l, r⟩ := q; exact ⟨C, dx, vs, e0, e, l, r.cut hcc⟩
  | dK ks ds => obtain ⟨vs, e, l, r⟩ := q; exact ⟨vs, e, l, r.cut hcc⟩
  | dT ks ds => obtain ⟨vs, e, l, r⟩ := q; exact ⟨vs, e, l, r.cut hcc⟩
theorem cut_notin {M : Sto} (S : RS G H ρ M) {n : Nat} {a : Addr} (hn : k ≤ n) (h : ρ.c[n]? = some a) : a ∉ ρ.cut k := fun z => by
  rcases z with z | z
  · have z' : a ∈ ρ.c.take k := z
    obtain ⟨m, hm, e⟩ := List.getElem_of_mem z'
    have hm' : m < k := by
      rw [List.length_take] at hm; omega
    have : ρ.c[m]? = some a := by
      have q : (ρ.c.take k)[m]? = some a := by rw [List.getElem?_eq_getElem hm, e]
      rw [List.getElem?_take_of_lt hm'] at q; exact q
    have := nodup_at S.nd this h
    omega
  · exact S.dis a (List.mem_of_getElem? h) z
theorem thaw_ok {M : Sto} (S : RS G H ρ M) {d d' : D} {v : V} (r : RV G H ρ d v) (h : thaw k M d = some d') : RV G H (ρ.cut k) d' v := by
  cases r with
  | ref hn =>
    rename_i n a
    have h' : (if n < k then some (D.ref n) else match M[n]? with
      | some (.lst ds) => if closedAll k ds then some (D.lst ds) else none
      | some (.ins c ks ds) => if closedAll k ds then some (D.obj c ks ds) else none
      | some (.dK ks ds) => if closedAll k ds then some (D.dK ks ds) else none
      | some (.dT ks ds) => if closedAll k ds then some (D.dT ks ds) else none
      | none => none) = some d' := h
    split at h'
    · rename_i hlt
      cases h'
      exact .ref (by show (ρ.c.take k)[n]? = some a; rw [List.getElem?_take_of_lt hlt]; exact hn)
    · rename_i hge
      split at h'
      · rename_i ds hm
        split at h'
        · rename_i hc
          cases h'
          obtain ⟨b, hb, vs, e, r⟩ := S.at_ _ _ hm
          rw [hn] at hb; cases hb
          exact .lst e (cut_notin S (by omega) hn) (r.cut hc)
        · cases h'
      · rename_i c ks ds hm
        split at h'
        · rename_i hc
          cases h'
          obtain ⟨b, hb, C, dx, vs, e0, e, l, r⟩ := S.at_ _ _ hm
          rw [hn] at hb; cases hb
          exact .obj e0 e l (cut_notin S (by omega) hn) (r.cut hc)
        · cases h'
      · rename_i ks ds hm
        split at h'
        · rename_i hc
          cases h'
          obtain ⟨b, hb, vs, e, l, r⟩ := S.at_ _ _ hm
          rw [hn] at hb; cases hb
          exact .dK e l (cut_notin S (by omega) hn) (r.cut hc)
        · cases h'
      · rename_i ks ds hm
        split at h'
        · rename_i hc
          cases h'
          obtain ⟨b, hb, vs, e, l, r⟩ := S.at_ _ _ hm
          rw [hn] at hb; cases hb
          exact .dT (.inl e) l (cut_notin S (by omega) hn) (r.cut hc)
        · cases h'
      · cases h'
  | non => cases (show (if closed k .non then some D.non else none) = some d' from h); exact .non
  | bl b => cases (show (if closed k (.bl b) then some (D.bl b) else none) = some d' from h); exact .bl b
  | int i => cases (show (if closed k (.int i) then some (D.int i) else none) = some d' from h); exact .int i
  | str s => cases (show (if closed k (.str s) then some (D.str s) else none) = some d' from h); exact .str s
  | ty s => cases (show (if closed k (.ty s) then some (D.ty s) else none) = some d' from h); exact .ty s
  | scr hs =>
    rename_i a ns
    cases (show (if closed k (.scr ns) then some (D.scr ns) else none) = some d' from h); exact RV.cut (.scr hs) rfl
  | tup hs rs =>
    unfold thaw at h
    have h' := h
    simp only at h'
    split at h'
    · rename_i hc
      cases h'
      exact RV.cut (.tup hs rs) hc
    · cases h'
  | lst hs hn rs =>
    unfold thaw at h
    have h' := h
    simp only at h'
    split at h'
    · rename_i hc
      cases h'
      exact RV.cut (.lst hs hn rs) hc
    · cases h'
  | obj e0 hs l hn rs =>
    unfold thaw at h
    have h' := h
    simp only at h'
    split at h'
    · rename_i hc
      cases h'
      exact RV.cut (.obj e0 hs l hn rs) hc
    · cases h'
  | cls e0 => cases h; exact .cls e0
  | dK hs l hn rs =>
    unfold thaw at h
    have h' := h
    simp only at h'
    split at h'
    · rename_i hc
      cases h'
      exact RV.cut (.dK hs l hn rs) hc
    · cases h'
  | dT hs l hn rs =>
    unfold thaw at h
    have h' := h
    simp only at h'
    split at h'
    · rename_i hc
      cases h'
      exact RV.cut (.dT hs l hn rs) hc
    · cases h'
theorem Ext.cut {H' : Hp} {ρ' : Rho} {M M' : Sto} (S : RS G H ρ M) (e : Ext G H ρ H' ρ') : Ext G H ρ H' (ρ'.cut M.length) :=
  ⟨fun n a h => by
    have hn : n < M.length := by rw [← S.len]; exact (List.getElem?_eq_some_iff.mp h).1
    show (ρ'.c.take M.length)[n]? = some a
    rw [List.getElem?_take_of_lt hn]; exact e.pre n a h, e.res, e.same, e.tup, fun a o h1 nt h2 => ⟨(e.keep a o h1 nt h2).1, Rho.cut_sub (e.keep a o h1 nt h2).2⟩⟩
theorem frzO_ok {M M1 : Sto} {d : D} {Q : VK} {E : Exn → En → Sto → Prop} (S : RS G H ρ M) (h : (frzO M.length d M1).post (oP G H ρ Q) E) : oP G H ρ Q d M1 := by
  unfold frzO at h
  split at h
  · rename_i d' hd
    split at h
    · rename_i hc
      intro ρ1 v H1 e1 S1 r1
      exact h (ρ1.cut M.length) v H1 (Ext.cut (M' := M1) S e1) (S1.cut hc) (thaw_ok S1 r1 hd)
    · exact h.elim
  · exact h.elim
end
theorem spD_frz {G : Gx} {F : DF} {vs : List V} {H : Hp} {Q : VK} {E : XK} (h : spD G (frz F) vs H Q E) : spD G F vs H Q E := by
  obtain ⟨ρ, M, ds, S, r, h⟩ := h
  exact ⟨ρ, M, ds, S, r, (post_bind h).imp (fun d M1 hx => frzO_ok S hx) (fun _ _ _ z => z)⟩
theorem fn_frz {P : Program} {w : World} {K : PySem.W.Frag} {mg : Str → Option Value} {base : Heap} {k : Nat} {f : Addr} {fd : FuncData} {ps : List Str} {G : Gx} {F : DF} (h : FnOk P w K mg base CX0 k f fd ps (spD G F)) : FnOk P w K mg base CX0 k f fd ps (spD G (frz F)) :=
  h.imp fun _ _ _ _ z => spD_frz z
section
variable {X : Cx} {cl : Str → Option Addr} {W : WX} {G : Gx}
theorem zip_lookup {H : Hp} {ρ : Rho} {f : Str} : ∀ {ks : List Str} {ds : List D} {vs : List V} {d : D}, RVs G H ρ ds vs → (ks.zip ds).lookup f = some d → ∃ v, (ks.zip vs).lookup f = some v ∧ RV G H ρ d v
  | [], _, _, _, _, h => by simp at h
  | _ :: _, _, _, _, .nil, h => by simp at h
  | k :: ks, _, _, d, .cons r rs, h => by
    rw [List.zip_cons_cons, List.lookup_cons] at h
    rw [List.zip_cons_cons, List.lookup_cons]
    cases e : f == k with
    | true => rw [e] at h; cases h; exact ⟨_, rfl, r⟩
    | false => rw [e] at h; exact zip_lookup rs h
theorem zip_none {f : Str} : ∀ {ks : List Str} {ds : List D} {vs : List V}, vs.length = ds.length → (ks.zip ds).lookup f = none → (ks.zip vs).lookup f = none
  | [], _, _, _, _ => by simp
  | _ :: _, [], vs, hl, _ => by
    cases vs with
    | nil => simp
    | cons _ _ => simp at hl
  | k :: ks, d :: ds, [], hl, _ => by simp at hl
  | k :: ks, d :: ds, v :: vs, hl, h => by
    rw [List.zip_cons_cons, List.lookup_cons] at h
    rw [List.zip_cons_cons, List.lookup_cons]
    cases e : f == k with
    | true => rw [e] at h; cases h
    | false => rw [e] at h; exact zip_none (by simpa using hl) h
def objOf (c : Str) (x : D) (M : Sto) : Option (List Str × List D) := match x with
  | .obj c' ks ds => if c' = c then some (ks, ds) else none
  | .ref n => match M[n]? with
    | some (.ins c' ks ds) => if c' = c then some (ks, ds) else none
    | _ => none
  | _ => none
theorem objOf_ok {c : Str} {C : Addr} (hC : G.cl c = some C) {H : Hp} {ρ : Rho} {M : Sto} {x : D} {v : V} {ks : List Str} {ds : List D} (S : RS G H ρ M) (r : RV G H ρ x v) (h : objOf c x M = some (ks, ds)) :
    ∃ a dx vs, v = .ref a ∧ H a = some (.ins C dx (ks.zip vs)) ∧ ks.length = vs.length ∧ RVs G H ρ ds vs := by
  cases r with
  | obj e0 hs l hn rs =>
    unfold objOf at h
    have h' := h
    simp only at h'
    split at h'
    · rename_i ec
      cases h'
      subst ec
      rw [hC] at e0; cases e0
      exact ⟨_, _, _, rfl, hs, l, rs⟩
    · cases h'
  | ref hn =>
    rename_i n a
    have h' : (match M[n]? with
      | some (.ins c' ks ds) => if c' = c then some (ks, ds) else none
      | _ => none) = some (ks, ds) := h
    split at h'
    · rename_i c' ks' ds' hm
      split at h'
      · rename_i ec
        cases h'
        subst ec
        obtain ⟨b, hb, C', dx, vs, e0, e, l, rs⟩ := S.at_ _ _ hm
        rw [hn] at hb; cases hb
        rw [hC] at e0; cases e0
        exact ⟨_, _, _, rfl, e, l, rs⟩
      · cases h'
    · cases h'
  | _ => cases h
def dFld (c f : Str) (fe : DE) : DE := fun env M => (fe env M).bind fun x M1 => match objOf c x M1 with
  | some (ks, ds) => match (ks.zip ds).lookup f with
    | some d => .ok d M1
    | none => .bad
  | none => .bad
theorem se_fld {c f : Str} {C : Addr} {e : Expr} {fe : DE} {pos : Pos} (hC : cl c = some C) (k : Cls X.K C) (na : NoAttr X.K C f) (he : SE X cl W e fe) (hb : attributeBase e f X.env (eval e X.env) = eval e X.env := by rfl) : SE X cl W (.Attribute e f pos) (dFld c f fe) :=
  PEweak (pe_fld he hb) fun σ H Q ⟨ρ, env, M, hE, hS, h⟩ => by
    refine ⟨ρ, env, M, hE, hS, (post_bind h).imp (fun x M1 hx ρ1 v H1 e1 S1 r1 => ?_) (fun _ _ _ z => z)⟩
    split at hx
    · rename_i ks ds ho
      split at hx
      · rename_i d hd
        obtain ⟨a, dx, vs, rfl, ha, hl, rs⟩ := objOf_ok (G := gx X cl) hC S1 r1 ho
        obtain ⟨u, hu, ru⟩ := zip_lookup rs hd
        exact ⟨a, C, dx, _, u, rfl, ha, k, na, hu, hx ρ1 u H1 e1 S1 ru⟩
      · exact hx.elim
    · exact hx.elim
def putKs (f : Str) : List Str → List Str
  | [] => [f]
  | g :: r => if g = f then g :: r else g :: putKs f r
def putVs {α : Type} (f : Str) (x : α) : List Str → List α → List α
  | [], _ => [x]
  | g :: r, y :: ys => if g = f then x :: ys else y :: putVs f x r ys
  | _ :: _, [] => []
theorem putF_zip {f : Str} {v : V} : ∀ {ks : List Str} {vs : List V}, ks.length = vs.length → putF f v (ks.zip vs) = (putKs f ks).zip (putVs f v ks vs) ∧ (putKs f ks).length = (putVs f v ks vs).length
  | [], [], _ => ⟨rfl, rfl⟩
  | [], _ :: _, h => by simp at h
  | _ :: _, [], h => by simp at h
  | k :: ks, w :: vs, h => by
    have ih := putF_zip (f := f) (v := v) (ks := ks) (vs := vs) (by simpa using h)
    show (if k = f then (k, v) :: ks.zip vs else (k, w) :: putF f v (ks.zip vs)) = _ ∧ _
    unfold putKs putVs
    split
    · exact ⟨rfl, by simpa using h⟩
    · rw [ih.1]
      exact ⟨rfl, by simp [ih.2]⟩
theorem putVs_rv {H : Hp} {ρ : Rho} {f : Str} {d : D} {v : V} (r : RV G H ρ d v) : ∀ {ks : List Str} {ds : List D} {vs : List V}, RVs G H ρ ds vs → RVs G H ρ (putVs f d ks ds) (putVs f v ks vs)
  | [], _, _, _ => .one r
  | k :: ks, _, _, .nil => .nil
  | k :: ks, _, _, .cons q qs => by
    unfold putVs
    split
    · exact .cons r qs
    · exact .cons q (putVs_rv r qs)
def dSetFld (c f : Str) (fo fe : DE) : DS := fun env M => (fe env M).bind fun y M1 => (fo env M1).bind fun x M2 => match x with
  | .ref n => match M2[n]? with
    | some (.ins c' ks ds) => if c' = c ∧ ks.length < 1000 then .ok (.nx env) (M2.set n (.ins c' (putKs f ks) (putVs f y ks ds))) else .bad
    | _ => .bad
  | _ => .bad
theorem ss_fld {c f : Str} {C : Addr} {o e : Expr} {fo fe : DE} {pos pos' : Pos} (hC : cl c = some C) (k : Cls X.K C) (na : NoAttr X.K C f) (ho : SE X cl W o fo) (he : SE X cl W e fe) (hs : swapsWith e (some (.Attribute o f pos')) pos.line X.env = pure false := by rfl) : SS X cl W (.Assign [.Attribute o f pos'] e pos) (dSetFld c f fo fe) :=
  PSweak (ps_fld ho he hs) fun D σ H ⟨ρ, env, M, hE, hS, h⟩ => by
    refine ⟨ρ, env, M, hE, hS, (post_bind h).imp (fun y M1 hy ρ1 v H1 e1 S1 r1 => ?_) (fun _ _ _ z => z)⟩
    refine ⟨ρ1, env, M1, hE.mono e1, S1, (post_bind hy).imp (fun x M2 hx ρ2 w H2 e2 S2 r2 => ?_) (fun _ _ _ z => eP.sh e1 z)⟩
    cases r2 with
    | ref hn =>
      rename_i n a
      have hx' : (match M2[n]? with
        | some (.ins c' ks ds) => if c' = c ∧ ks.length < 1000 then Out.ok (Fl.nx env) (M2.set n (.ins c' (putKs f ks) (putVs f y ks ds))) else .bad
        | _ => .bad).post (sP (gx X cl) H ρ D) (eP (gx X cl) W H ρ) := hx
      split at hx'
      · rename_i c' ks ds hm
        split at hx'
        · rename_i hcc
          obtain ⟨rfl, hl⟩ := hcc
          obtain ⟨b, hb, C', dx, vs, e0, ea, l, rs⟩ := S2.at_ _ _ hm
          rw [hn] at hb; cases hb
          have e0' : cl c' = some C' := e0
          rw [hC] at e0'; cases e0'
          have x3 : Ext (gx X cl) H2 ρ2 (upd H2 a (.ins C dx (putF f v (ks.zip vs)))) ρ2 := Ext.write S2 hn
          refine ⟨a, C, dx, _, rfl, ea, k, na, by rw [List.length_zip, ← l]; omega, hx' ρ2 σ _ (e1.trans (e2.trans x3)) (S2.write hn ⟨C, dx, putVs f v ks vs, e0, ?_, (putF_zip l).2, ?_⟩) (hE.mono (e1.trans (e2.trans x3)))⟩
          · rw [upd_same, (putF_zip l).1]
          · exact (putVs_rv (r1.mono e2) rs).mono x3
        · exact hx'.elim
      · exact hx'.elim
    | _ => exact hx.elim
def dMeth (c m : Str) (F : DF) (fo : DE) (fa : DA) : DE := fun env M => (fo env M).bind fun x M1 => match objOf c x M1 with
  | some (ks, ds) => match (ks.zip ds).lookup m with
    | none => (fa env M1).bind fun as M2 => noex (F (x :: as) M2)
    | some _ => .bad
  | none => .bad
theorem meth_ok {c m : Str} {C : Addr} (hC : G.cl c = some C) {F : DF} {fo : DE} {fa : DA} {σ : L2.St} {H : Hp} {Q : VK} (h : dE G W (dMeth c m F fo fa) σ H Q) : tMeth C m (spD G F) [] E0 (dE G W fo) (dA G W fa) σ H Q := by
  obtain ⟨ρ, env, M, hE, hS, h⟩ := h
  refine ⟨ρ, env, M, hE, hS, (post_bind h).imp (fun x M1 hx ρ1 v H1 e1 S1 r1 => ?_) (fun _ _ _ z => z)⟩
  split at hx
  · rename_i ks ds ho
    split at hx
    · rename_i hnone
      obtain ⟨a, dx, vs, rfl, ha, hl, rs⟩ := objOf_ok hC S1 r1 ho
      refine ⟨a, dx, _, rfl, ha, zip_none rs.length hnone, ρ1, env, M1, hE.mono e1, S1, (post_bind hx).imp (fun as M2 hy ρ2 ws H2 e2 S2 r2 => ?_) (fun _ _ _ z => eP.sh e1 z)⟩
      show spD G F (.ref a :: (ws ++ [])) H2 Q E0
      rw [List.append_nil]
      exact ⟨ρ2, M2, x :: as, S2, .cons (r1.mono e2) r2, (noexF hy).imp (fun _ _ z => oP.sh (e1.trans e2) z) (fun _ _ _ z => z)⟩
    · exact hx.elim
  · exact hx.elim
theorem se_meth0 {c m : Str} {C f : Addr} {k : Nat} {fd : FuncData} {ps : List Str} {F : DF} {o : Expr} {fo : DE} {apos pos : Pos} {pl : Sem Bool} (hC : cl c = some C) (ho : SE X cl W o fo) (kc : Cls X.K C) (hm : Meth X.K C m f) (Fk : FnOk X.prog X.w X.K X.mg X.base CX0 k f fd ps (spD (gx X cl) F)) (hr : Room k X.A) (hb : Binds X.K fd ps [])
    (ht : eval (.Call (.Attribute o m apos) [] [] pos) X.env = (do
      let ov ← eval o X.env
      standAt apos.atName
      let (f, first) ← holding [ov] (getMethod ov m pl)
      callWith pos f first (backTo pos (starEach [] X.env)) (backToKw pos (keywordEach [] X.env))) := by rfl) :
    SE X cl W (.Call (.Attribute o m apos) [] [] pos) (dMeth c m F fo dNilA) :=
  PEweak (pe_meth0 ho kc hm Fk hr hb .nil (E := E0) pass0 ht) fun σ H Q h => by
    have q := meth_ok (G := gx X cl) hC h
    obtain ⟨ρ, env, M, hE, hS, q⟩ := q
    refine ⟨ρ, env, M, hE, hS, q.imp (fun x M1 hx ρ1 v H1 e1 S1 r1 => ?_) (fun _ _ _ z => z)⟩
    obtain ⟨a, dx, fs, e, ha, hn, z⟩ := hx ρ1 v H1 e1 S1 r1
    refine ⟨a, dx, fs, e, ha, hn, ?_⟩
    obtain ⟨ρ2, env2, M2, E2, S2, z⟩ := z
    exact z ρ2 [] H1 .refl S2 .nil
def dMake (c : Str) (F : DF) (fa : DA) : DE := fun env M => (fa env M).bind fun ds M1 => (noex (F (.ref M1.length :: ds) (M1 ++ [.ins c [] []]))).bind fun d M2 => match d with
  | .non => frzO M1.length (.ref M1.length) M2
  | _ => .bad
theorem se_make {c : Str} {C f : Addr} {k : Nat} {fd : FuncData} {ps : List Str} {F : DF} {x : Str} {e : Expr} {es : List Expr} {fa : DA} {p pos : Pos} (hC : cl c = some C) (Mk' : Mk X.K C f) (Fk : FnOk X.prog X.w X.K X.mg X.base CX0 k f fd ps (spD (gx X cl) F)) (hr : Room (k + 1) X.A) (hg : Gl X x) (hm : X.mg x = some (.ref C)) (hb : Binds X.K fd ps [])
    (ha : SA X cl W (e :: es) fa) (hdb : (x == ("__debug__" : Str)) = false := by decide) (he : starEach (e :: es) X.env = (false, eval e X.env) :: starEach es X.env := by rfl) (hpl : (backTo pos (starEach es X.env)).any (·.1) = false := by rfl) :
    SE X cl W (.Call (.Name x p) (e :: es) [] pos) (dMake c F fa) :=
  PEweak (pe_make Mk' Fk hr hg hm hb .nil (E := E0) pass0 ha hdb he hpl) fun σ H Q ⟨ρ, env, M, hE, hS, h⟩ => by
    refine ⟨ρ, env, M, hE, hS, (post_bind h).imp (fun ds M1 hx ρ1 vs H1 e1 S1 r1 x dx nx ndx nex => ?_) (fun _ _ _ z => z)⟩
    show spD (gx X cl) F (.ref x :: (vs ++ [])) _ _ E0
    rw [List.append_nil]
    have S2 : RS (gx X cl) (upd H1 dx (.own x)) ρ1 M1 := S1.new ndx
    have x2 : Ext (gx X cl) H1 ρ1 (upd H1 dx (.own x)) ρ1 := Ext.new S1 ndx
    have nx2 : upd H1 dx (.own x) x = none := by rw [upd_ne (Ne.symm nex)]; exact nx
    have x3 : Ext (gx X cl) (upd H1 dx (.own x)) ρ1 (upd (upd H1 dx (.own x)) x (.ins C dx [])) (ρ1.add x) := Ext.cell S2 nx2
    have S3 : RS (gx X cl) (upd (upd H1 dx (.own x)) x (.ins C dx [])) (ρ1.add x) (M1 ++ [.ins c [] []]) := S2.cell nx2 ⟨C, dx, [], hC, upd_same, rfl, .nil⟩
    refine ⟨ρ1.add x, _, .ref M1.length :: ds, S3, .cons (.ref S1.at_new) ((r1.mono x2).mono x3), (noexF (post_bind hx)).imp (fun d M2 hd ρ4 v H4 e4 S4 r4 => ?_) (fun _ _ _ z => z)⟩
    split at hd
    · cases r4
      refine ⟨rfl, frzO_ok (H := H1) (ρ := ρ1) S1 (hd.imp (fun _ _ z => oP.sh e1 z) (fun _ _ _ z => z)) ρ4 (.ref x) H4 (x2.trans (x3.trans e4)) S4 (.ref (e4.pre _ _ S1.at_new))⟩
    · exact hd.elim
end
end Ip
end
section
set_option Elab.async false
set_option linter.all false
set_option maxRecDepth 100000
set_option maxHeartbeats 4000000
set_option autoImplicit false
namespace Ip
open PySem PyProof.Rows L2
section
variable {X : Cx} {cl : Str → Option Addr} {W : WX} {G : Gx}
/-- a list, tree or cell -/
def asL (x : D) (M : Sto) : Option (List D) := match x with
  | .lst l => some l
  | .ref n => match M[n]? with
    | some (.lst l) => some l
    | _ => none
  | _ => none
theorem asL_ok {H : Hp} {ρ : Rho} {M : Sto} {x : D} {v : V} {l : List D} (S : RS G H ρ M) (r : RV G H ρ x v) (h : asL x M = some l) : ∃ a vs, v = .ref a ∧ H a = some (.lst vs) ∧ RVs G H ρ l vs := by
  cases r with
  | lst hs hn rs => cases h; exact ⟨_, _, rfl, hs, rs⟩
  | ref hn =>
    rename_i n a
    have h' : (match M[n]? with
      | some (.lst l) => some l
      | _ => none) = some l := h
    split at h'
    · rename_i l' hm
      cases h'
      obtain ⟨b, hb, vs, e, rs⟩ := S.at_ _ _ hm
      rw [hn] at hb; cases hb
      exact ⟨_, _, rfl, e, rs⟩
    · cases h'
  | _ => cases h
theorem oP.new {H : Hp} {ρ : Rho} {M : Sto} {Q : VK} {d : D} {p : Addr} {o : HO} (h : oP G H ρ Q d M) (S : RS G H ρ M) (hp : H p = none) (r : RV G (upd H p o) ρ d (.ref p)) : Q (.ref p) (upd H p o) := h ρ _ _ (Ext.new S hp) (S.new hp) r
theorem RV.newL {H : Hp} {ρ : Rho} {M : Sto} {ds : List D} {vs : List V} {p : Addr} (S : RS G H ρ M) (hp : H p = none) (r : RVs G H ρ ds vs) : RV G (upd H p (.lst vs)) ρ (.lst ds) (.ref p) := .lst upd_same (S.fresh hp) (r.mono (Ext.new S hp))
theorem RV.newT {H : Hp} {ρ : Rho} {M : Sto} {ds : List D} {vs : List V} {p : Addr} (S : RS G H ρ M) (hp : H p = none) (r : RVs G H ρ ds vs) : RV G (upd H p (.tup vs)) ρ (.tup ds) (.ref p) := .tup (TpA.of upd_same) (r.mono (Ext.new S hp))
def gInt (f : Int → Int → Int) : G2 := fun x y M => match x, y with
  | .int i, .int j => some (.int (f i j), M)
  | _, _ => none
def gIntB (f : Int → Int → Bool) : G2 := fun x y M => match x, y with
  | .int i, .int j => some (.bl (f i j), M)
  | _, _ => none
theorem ops_int {f : Int → Int → Int} : OpS G (rI0 fun i j => .int (f i j)) (gInt f) := fun H ρ M x y dx dy d M' Q S rx ry e h => by
  cases rx with
  | int i =>
    cases ry with
    | int j => cases e; exact ⟨i, j, rfl, rfl, h ρ _ H .refl S (.int _)⟩
    | _ => cases e
  | _ => cases e
theorem ops_intB {f : Int → Int → Bool} : OpS G (rI0 fun i j => .bl (f i j)) (gIntB f) := fun H ρ M x y dx dy d M' Q S rx ry e h => by
  cases rx with
  | int i =>
    cases ry with
    | int j => cases e; exact ⟨i, j, rfl, rfl, h ρ _ H .refl S (.bl _)⟩
    | _ => cases e
  | _ => cases e
def gIntC (c : Int → Int → Bool) (f : Int → Int → Int) : G2 := fun x y M => match x, y with
  | .int i, .int j => if c i j then some (.int (f i j), M) else none
  | _, _ => none
theorem ops_intC {C : Int → Int → Prop} {c : Int → Int → Bool} {f : Int → Int → Int} (hc : ∀ i j, c i j = true → C i j) : OpS G (rI C fun i j => .int (f i j)) (gIntC c f) := fun H ρ M x y dx dy d M' Q S rx ry e h => by
  cases rx with
  | int i =>
    cases ry with
    | int j =>
      have e' : (if c i j then some (D.int (f i j), M) else none) = some (d, M') := e
      split at e'
      · rename_i hcc
        cases e'
        exact ⟨i, j, rfl, rfl, hc i j hcc, h ρ _ H .refl S (.int _)⟩
      · cases e'
    | _ => cases e
  | _ => cases e
def gStr (f : Str → Str → Str) : G2 := fun x y M => match x, y with
  | .str s, .str t => if s.length + t.length ≤ 16777216 then some (.str (f s t), M) else none
  | _, _ => none
theorem ops_addS : OpS G (fun x y H Q => ∃ i j, x = .str i ∧ y = .str j ∧ i.length + j.length ≤ sizeLine ∧ Q (.str (i ++ j)) H) (gStr fun s t => s ++ t) := fun H ρ M x y dx dy d M' Q S rx ry e h => by
  cases rx with
  | str i =>
    cases ry with
    | str j =>
      have e' : (if i.length + j.length ≤ 16777216 then some (D.str (i ++ j), M) else none) = some (d, M') := e
      split at e'
      · rename_i hcc
        cases e'
        exact ⟨i, j, rfl, rfl, line_of hcc, h ρ _ H .refl S (.str _)⟩
      · cases e'
    | _ => cases e
  | _ => cases e
def gCat : G2 := fun x y M => match asL x M, asL y M with
  | some a, some b => if a.length + b.length ≤ 16777216 then some (.lst (a ++ b), M) else none
  | _, _ => none
theorem ops_cat : OpS G rCat gCat := fun H ρ M x y dx dy d M' Q S rx ry e h => by
  unfold gCat at e
  split at e
  · rename_i a b ha hb
    split at e
    · rename_i hl
      cases e
      obtain ⟨p, vs, rfl, hp, rs⟩ := asL_ok S rx ha
      obtain ⟨q, ws, rfl, hq, rt⟩ := asL_ok S ry hb
      exact ⟨p, q, vs, ws, rfl, rfl, hp, hq, by rw [rs.length, rt.length]; exact line_of hl, fun z hz => h.new S hz (RV.newL S hz (rs.append rt))⟩
    · cases e
  · cases e
def gCatT : G2 := fun x y M => match x, y with
  | .tup a, .tup b => if a.length + b.length ≤ 16777216 then some (.tup (a ++ b), M) else none
  | _, _ => none
theorem ops_catT : OpS G (rCatA G.K) gCatT := fun H ρ M x y dx dy d M' Q S rx ry e h => by
  cases rx with
  | tup hs rs =>
    cases ry with
    | tup ht rt =>
      unfold gCatT at e
      simp only at e
      split at e
      · rename_i hl
        cases e
        refine ⟨_, _, _, _, rfl, rfl, hs.1, ht.1, by rw [rs.length, rt.length]; exact line_of hl, fun z => ?_, fun _ z => ?_, fun _ _ p hp => h.new S hp (RV.newT S hp (rs.append rt))⟩
        · subst z
          cases rs
          exact h ρ _ H .refl S (.tup ht rt)
        · subst z
          cases rt
          rw [List.append_nil] at h
          exact h ρ _ H .refl S (.tup hs rs)
      · cases e
    | _ => cases e
  | _ => cases e
def in63 (k : Int) : Bool := decide (-(2 ^ 63) ≤ k) && decide (k < 2 ^ 63)
def gRep : G2 := fun x y M => match y with
  | .int k => match asL x M with
    | some a => if in63 k && decide (a.length * k.toNat ≤ 16777216) then some (.lst (List.replicate k.toNat a).flatten, M) else none
    | none => none
  | _ => none
theorem ops_rep : OpS G rRep gRep := fun H ρ M x y dx dy d M' Q S rx ry e h => by
  cases ry with
  | int k =>
    unfold gRep at e
    simp only at e
    split at e
    · rename_i a ha
      split at e
      · rename_i hl
        simp only [in63, Bool.and_eq_true, decide_eq_true_eq] at hl
        cases e
        obtain ⟨p, vs, rfl, hp, rs⟩ := asL_ok S rx ha
        exact ⟨p, k, vs, rfl, rfl, hp, hl.1.1, hl.1.2, by rw [rs.length]; exact line_of hl.2, fun z hz => h.new S hz (RV.newL S hz (rs.rep _))⟩
      · cases e
    · cases e
  | _ => cases e
def orG (g g' : G2) : G2 := fun x y M => match g x y M with
  | some p => some p
  | none => g' x y M
theorem OpS.or {r r' : R2} {g g' : G2} (h : OpS G r g) (h' : OpS G r' g') : OpS G (fun x y H Q => r x y H Q ∨ r' x y H Q) (orG g g') := fun H ρ M x y dx dy d M' Q S rx ry e z => by
  unfold orG at e
  split at e
  · rename_i p hp
    cases e
    exact .inl (h H ρ M x y dx dy d M' Q S rx ry hp z)
  · exact .inr (h' H ρ M x y dx dy d M' Q S rx ry e z)
/-- a + b -/
def gAdd : G2 := fun x y M => match x, y with
  | .int i, .int j => some (.int (i + j), M)
  | _, _ => orG (gStr fun s t => s ++ t) (orG gCat gCatT) x y M
abbrev rAddA (K : PySem.W.Frag) : R2 := fun x y H Q => rI0 (fun i j => .int (i + j)) x y H Q ∨ ((∃ i j, x = .str i ∧ y = .str j ∧ i.length + j.length ≤ sizeLine ∧ Q (.str (i ++ j)) H) ∨ (rCat x y H Q ∨ rCatA K x y H Q))
theorem op_addA : OpR X (binaryOp .Add) (rAddA X.K) := op_add.or (op_add_str.or (op_cat.or op_catA))
theorem ops_addA : OpS G (rAddA G.K) gAdd := fun H ρ M x y dx dy d M' Q S rx ry e z => by
  unfold gAdd at e
  split at e
  · cases e
    cases rx
    cases ry
    exact .inl ⟨_, _, rfl, rfl, z ρ _ H .refl S (.int _)⟩
  · exact .inr ((ops_addS.or (ops_cat.or ops_catT)) H ρ M x y dx dy d M' Q S rx ry e z)
def toV : D → Option V
  | .non => some .non
  | .bl b => some (.bl b)
  | .int i => some (.int i)
  | .str s => some (.str s)
  | _ => none
mutual
def toPy : D → Option PyData
  | .non => some .none
  | .bl b => some (.bool b)
  | .int i => some (.int i)
  | .str s => some (.str s)
  | .tup l => (toPys l).map .tuple
  | .lst l => (toPys l).map .list
  | .scr _ => none
  | .ty _ => none
  | .ref _ => none
  | .obj _ _ _ => none
  | .cls _ => none
  | .dK _ _ => none
  | .dT _ _ => none
def toPys : List D → Option (List PyData)
  | [] => some []
  | d :: ds => match toPy d, toPys ds with
    | some p, some ps => some (p :: ps)
    | _, _ => none
end
def pyM (x : D) (M : Sto) : Option PyData := match x with
  | .ref n => match M[n]? with
    | some (.lst l) => (toPys l).map .list
    | _ => none
  | d => toPy d
mutual
theorem toPy_ok {H : Hp} {ρ : Rho} : ∀ {d : D} {v : V} {p : PyData}, RV G H ρ d v → toPy d = some p → Dp G.K H v p
  | _, _, _, .non, h => by cases h; exact .non
  | _, _, _, .bl b, h => by cases h; exact .bl b
  | _, _, _, .int i, h => by cases h; exact .int i
  | _, _, _, .str s, h => by cases h; exact .str s
  | _, _, _, .ty s, h => by cases h
  | _, _, _, .scr s, h => by cases h
  | _, _, _, .ref s, h => by cases h
  | _, _, _, .obj _ _ _ _ _, h => by cases h
  | _, _, _, .cls _, h => by cases h
  | _, _, _, .dK _ _ _ _, h => by cases h
  | _, _, _, .dT _ _ _ _, h => by cases h
  | _, _, p, .tup (ds := ds) hs rs, h => by
    simp only [toPy] at h
    cases e : toPys ds with
    | none => rw [e] at h; cases h
    | some ps => rw [e] at h; cases h; exact .tup hs.1 (toPys_ok rs e)
  | _, _, p, .lst (ds := ds) hs hn rs, h => by
    simp only [toPy] at h
    cases e : toPys ds with
    | none => rw [e] at h; cases h
    | some ps => rw [e] at h; cases h; exact .lst (SqL.of hs) (toPys_ok rs e)
theorem toPys_ok {H : Hp} {ρ : Rho} : ∀ {ds : List D} {vs : List V} {ps : List PyData}, RVs G H ρ ds vs → toPys ds = some ps → DpAll G.K H vs ps
  | _, _, _, .nil, h => by cases h; exact .nil
  | _, _, _, .cons (d := d) (ds := ds) r rs, h => by
    simp only [toPys] at h
    cases e : toPy d with
    | none => rw [e] at h; cases h
    | some p =>
      cases e2 : toPys ds with
      | none => rw [e, e2] at h; cases h
      | some ps => rw [e, e2] at h; cases h; exact .cons (toPy_ok r e) (toPys_ok rs e2)
end
theorem pyM_ok {H : Hp} {ρ : Rho} {M : Sto} {d : D} {v : V} {p : PyData} (S : RS G H ρ M) (r : RV G H ρ d v) (h : pyM d M = some p) : Dp G.K H v p := by
  cases r with
  | ref hn =>
    rename_i n a
    have h' : (match M[n]? with
      | some (.lst l) => (toPys l).map PyData.list
      | _ => none) = some p := h
    split at h'
    · rename_i l hm
      cases e : toPys l with
      | none => rw [e] at h'; cases h'
      | some ps =>
        rw [e] at h'; cases h'
        obtain ⟨b, hb, vs, e0, rs⟩ := S.at_ _ _ hm
        rw [hn] at hb; cases hb
        exact .lst (SqL.of e0) (toPys_ok rs e)
    · cases h'
  | non => exact toPy_ok (ρ := ρ) .non h
  | bl b => exact toPy_ok (ρ := ρ) (.bl b) h
  | int i => exact toPy_ok (ρ := ρ) (.int i) h
  | str s => exact toPy_ok (ρ := ρ) (.str s) h
  | ty s => exact toPy_ok (ρ := ρ) (.ty s) h
  | scr s => exact toPy_ok (.scr s) h
  | tup a b => exact toPy_ok (.tup a b) h
  | lst a b c => exact toPy_ok (.lst a b c) h
  | obj a b c d e => exact toPy_ok (.obj a b c d e) h
  | cls a => exact toPy_ok (ρ := ρ) (.cls a) h
  | dK a b c d => exact toPy_ok (.dK a b c d) h
  | dT a b c d => exact toPy_ok (.dT a b c d) h
theorem toV_ok {H : Hp} {ρ : Rho} {d : D} {v w : V} (r : RV G H ρ d v) (h : toV d = some w) : v = w := by
  cases r <;> first | (cases h; done) | (cases h; rfl)
def eqD (x y : D) (M : Sto) : Option Bool := match toV x, toV y with
  | some v, some w => if scal v w then some (decide (v = w)) else none
  | _, _ => match pyM x M, pyM y M with
    | some p, some q => if SeqAt.shaped p && SeqAt.shaped q then some (PyData.eqv p q) else none
    | _, _ => none
def gEq (n : Bool) : G2 := fun x y M => (eqD x y M).map fun b => (.bl (if n then !b else b), M)
theorem op_eqA (hu : X.A.units + 64 < cLine) : OpR X (compareOp .Eq) (fun x y H Q => rEq x y H Q ∨ rEqD X.K x y H Q) := op_eq.or (op_eqD hu)
theorem op_neA (hu : X.A.units + 64 < cLine) : OpR X (compareOp .NotEq) (fun x y H Q => rNe x y H Q ∨ rNeD X.K x y H Q) := op_ne.or (op_neD hu)
theorem eqD_some {x y : D} {M : Sto} {b : Bool} (h : eqD x y M = some b) : (∃ v w, toV x = some v ∧ toV y = some w ∧ scal v w = true ∧ b = decide (v = w)) ∨ (∃ p q, pyM x M = some p ∧ pyM y M = some q ∧ SeqAt.shaped p = true ∧ SeqAt.shaped q = true ∧ b = PyData.eqv p q) := by
  unfold eqD at h
  split at h
  · rename_i v w hv hw
    split at h
    · rename_i hs
      cases h
      exact .inl ⟨v, w, hv, hw, hs, rfl⟩
    · cases h
  · split at h
    · rename_i p q hp hq
      split at h
      · rename_i hs
        rw [Bool.and_eq_true] at hs
        cases h
        exact .inr ⟨p, q, hp, hq, hs.1, hs.2, rfl⟩
      · cases h
    · cases h
theorem ops_eq : OpS G (fun x y H Q => rEq x y H Q ∨ rEqD G.K x y H Q) (gEq false) := fun H ρ M x y dx dy d M' Q S rx ry e z => by
  unfold gEq at e
  cases hb : eqD dx dy M with
  | none => rw [hb] at e; cases e
  | some b =>
    rw [hb] at e; cases e
    have hq : Q (.bl b) H := z ρ _ H .refl S (.bl _)
    rcases eqD_some hb with ⟨v, w, h1, h2, h3, rfl⟩ | ⟨p, q, h1, h2, h3, h4, rfl⟩
    · rw [toV_ok rx h1, toV_ok ry h2]
      exact .inl ⟨h3, hq⟩
    · exact .inr ⟨p, q, pyM_ok S rx h1, pyM_ok S ry h2, h3, h4, hq⟩
theorem ops_ne : OpS G (fun x y H Q => rNe x y H Q ∨ rNeD G.K x y H Q) (gEq true) := fun H ρ M x y dx dy d M' Q S rx ry e z => by
  unfold gEq at e
  cases hb : eqD dx dy M with
  | none => rw [hb] at e; cases e
  | some b =>
    rw [hb] at e; cases e
    have hq : Q (.bl (!b)) H := z ρ _ H .refl S (.bl _)
    rcases eqD_some hb with ⟨v, w, h1, h2, h3, rfl⟩ | ⟨p, q, h1, h2, h3, h4, rfl⟩
    · rw [toV_ok rx h1, toV_ok ry h2]
      exact .inl ⟨h3, hq⟩
    · exact .inr ⟨p, q, pyM_ok S rx h1, pyM_ok S ry h2, h3, h4, hq⟩
def isNon : D → Bool
  | .non => true
  | _ => false
theorem isNon_ok {H : Hp} {ρ : Rho} {d : D} {v : V} (r : RV G H ρ d v) : decide (v = .non) = isNon d := by
  cases r <;> simp [isNon]
def gIs (n : Bool) : G2 := fun x y M => match y with
  | .non => some (.bl (if n then !isNon x else isNon x), M)
  | _ => none
theorem ops_is : OpS G (fun x y H Q => y = .non ∧ Q (.bl (decide (x = .non))) H) (gIs false) := fun H ρ M x y dx dy d M' Q S rx ry e z => by
  cases ry with
  | non => cases e; exact ⟨rfl, by rw [isNon_ok rx]; exact z ρ _ H .refl S (.bl _)⟩
  | _ => cases e
theorem ops_isnot : OpS G (fun x y H Q => y = .non ∧ Q (.bl (!decide (x = .non))) H) (gIs true) := fun H ρ M x y dx dy d M' Q S rx ry e z => by
  cases ry with
  | non => cases e; exact ⟨rfl, by rw [isNon_ok rx]; exact z ρ _ H .refl S (.bl _)⟩
  | _ => cases e
def gIx : G2 := fun x y M => match y with
  | .int i => match x with
    | .tup l => (atI l i).map (·, M)
    | x => match asL x M with
      | some l => (atI l i).map (·, M)
      | none => none
  | _ => none
theorem RVs.atI {H : Hp} {ρ : Rho} {ds : List D} {vs : List V} {i : Int} {d : D} (r : RVs G H ρ ds vs) (h : L2.atI ds i = some d) : ∃ v, L2.atI vs i = some v ∧ RV G H ρ d v := by
  unfold L2.atI at h ⊢
  rw [r.length]
  cases e : ixN ds.length i with
  | none => rw [e] at h; cases h
  | some j =>
    rw [e] at h
    exact r.get h
theorem ops_ix : OpS G (rIx G.K) gIx := fun H ρ M x y dx dy d M' Q S rx ry e z => by
  cases ry with
  | int i =>
    unfold gIx at e
    simp only at e
    split at e
    · rename_i l
      cases rx with
      | tup hs rs =>
        cases e2 : L2.atI l i with
        | none => rw [e2] at e; cases e
        | some d0 =>
          rw [e2] at e; cases e
          obtain ⟨v, hv, rv⟩ := rs.atI e2
          exact .inr (.inl ⟨_, _, _, v, rfl, rfl, hs.1, hv, z ρ _ H .refl S rv⟩)
    · split at e
      · rename_i l hl
        obtain ⟨a, vs, rfl, ha, rs⟩ := asL_ok S rx hl
        cases e2 : L2.atI l i with
        | none => rw [e2] at e; cases e
        | some d0 =>
          rw [e2] at e; cases e
          obtain ⟨v, hv, rv⟩ := rs.atI e2
          exact .inl ⟨_, _, _, v, rfl, rfl, SqL.of ha, hv, z ρ _ H .refl S rv⟩
      · cases e
  | _ => cases e
def cutD {α : Type} (xs : List α) (lo hi : Option Int) : List α := (xs.drop (HT.sIx xs.length 0 lo)).take (HT.sIx xs.length xs.length hi - HT.sIx xs.length 0 lo)
theorem RVs.cutD {H : Hp} {ρ : Rho} {ds : List D} {vs : List V} (r : RVs G H ρ ds vs) (lo hi : Option Int) : RVs G H ρ (Ip.cutD ds lo hi) (cutV vs lo hi) := by
  unfold Ip.cutD cutV
  rw [r.length]
  exact (r.drop _).take _
def gSl (x : D) (lo hi : Option Int) (M : Sto) : Option (D × Sto) := match x with
  | .tup l => some (.tup (cutD l lo hi), M)
  | .scr ns => some (.lst (cutD (ns.map D.int) lo hi), M)
  | x => match asL x M with
    | some l => some (.lst (cutD l lo hi), M)
    | none => none
abbrev rSlAll (K : PySem.W.Frag) : V → Option Int → Option Int → Hp → VK → Prop := fun x lo hi H Q => rSlL K x lo hi H Q ∨ rSlA K x lo hi H Q
theorem sl_all : SlR X (rSlAll X.K) := sl_list.or sl_tupA
def DO := En → Sto → Out (Option Int)
def dO (G : Gx) (W : WX) (f : DO) : TO := fun σ H Q => ∃ ρ env M, RE G H ρ env σ ∧ RS G H ρ M ∧ (f env M).post (fun o M' => ∀ ρ' H', Ext G H ρ H' ρ' → RS G H' ρ' M' → Q o H') (eP G W H ρ)
def SO (X : Cx) (cl : Str → Option Addr) (W : WX) (e : Option Expr) (f : DO) : Prop := PO X e (dO (gx X cl) W f)
def dNoPart : DO := fun _ M => .ok none M
def dPart (fe : DE) : DO := fun env M => (fe env M).bind fun x M1 => match x with
  | .int i => .ok (some i) M1
  | _ => .bad
theorem so_none : SO X cl W none dNoPart := POweak po_none fun σ H Q ⟨ρ, env, M, hE, hS, h⟩ => h ρ H .refl hS
theorem so_some {e : Expr} {fe : DE} (he : SE X cl W e fe) : SO X cl W (some e) (dPart fe) := POweak (po_some he) fun σ H Q ⟨ρ, env, M, hE, hS, h⟩ => by
  refine ⟨ρ, env, M, hE, hS, (post_bind h).imp (fun x M1 hx ρ1 v H1 e1 S1 r1 => ?_) (fun _ _ _ z => z)⟩
  cases r1 with
  | int i => exact ⟨i, rfl, hx ρ1 H1 e1 S1⟩
  | _ => exact hx.elim
def dSl (fe : DE) (fl fh : DO) : DE := fun env M => (fe env M).bind fun x M1 => (fl env M1).bind fun lo M2 => (fh env M2).bind fun hi M3 => liftM (gSl x lo hi M3)
theorem cut_whole {α : Type} {l : List α} {lo hi : Option Int} (h : HT.sIx l.length 0 lo = 0 ∧ HT.sIx l.length l.length hi = l.length) : cutD l lo hi = l := by
  unfold cutD
  rw [h.1, h.2]
  simp
theorem gSl_ok {H : Hp} {ρ : Rho} {M M' : Sto} {x d : D} {v : V} {lo hi : Option Int} {Q : VK} (S : RS G H ρ M) (r : RV G H ρ x v) (e : gSl x lo hi M = some (d, M')) (h : oP G H ρ Q d M') : rSlAll G.K v lo hi H Q := by
  unfold gSl at e
  split at e
  · cases r with
    | tup hs rs =>
      cases e
      refine .inr ⟨_, _, rfl, hs.1, fun w => ?_, fun _ p hp => h.new S hp (RV.newT S hp (rs.cutD lo hi))⟩
      rw [rs.length] at w
      rw [cut_whole w] at h
      exact h ρ _ H .refl S (.tup hs rs)
  · cases r with
    | scr hs =>
      rename_i ns a
      cases e
      have hl : SqL G.K H a (ns.map V.int) := by
        rcases hs with ⟨h, _⟩ | h
        · exact .inl h
        · exact h H
      exact .inl ⟨_, _, rfl, hl, fun p hp => h.new S hp (RV.newL S hp ((RVs.ints ns).cutD lo hi))⟩
  · split at e
    · rename_i l hl
      cases e
      obtain ⟨a, vs, rfl, ha, rs⟩ := asL_ok S r hl
      exact .inl ⟨_, _, rfl, SqL.of ha, fun p hp => h.new S hp (RV.newL S hp (rs.cutD lo hi))⟩
    · cases e
theorem se_slice {e : Expr} {lo hi : Option Expr} {fe : DE} {fl fh : DO} {p2 pos : Pos} (he : SE X cl W e fe) (hl : SO X cl W lo fl) (hh : SO X cl W hi fh) : SE X cl W (.Subscript e (.Slice lo hi none p2) pos) (dSl fe fl fh) :=
  PEweak (pe_slice sl_all he hl hh) fun σ H Q ⟨ρ, env, M, hE, hS, h⟩ => by
    refine ⟨ρ, env, M, hE, hS, (post_bind h).imp (fun x M1 hx ρ1 v H1 e1 S1 r1 => ?_) (fun _ _ _ z => z)⟩
    refine ⟨ρ1, env, M1, hE.mono e1, S1, (post_bind hx).imp (fun o M2 hy ρ2 H2 e2 S2 => ?_) (fun _ _ _ z => eP.sh e1 z)⟩
    refine ⟨ρ2, env, M2, hE.mono (e1.trans e2), S2, (post_bind hy).imp (fun o2 M3 hz ρ3 H3 e3 S3 => ?_) (fun _ _ _ z => eP.sh (e1.trans e2) z)⟩
    obtain ⟨d, M', eq, q⟩ := lift_some hz
    exact gSl_ok (G := gx X cl) S3 (r1.mono (e2.trans e3)) eq (oP.sh (e1.trans (e2.trans e3)) q)
end
end Ip
end
section
set_option Elab.async false
set_option linter.all false
set_option maxRecDepth 100000
set_option maxHeartbeats 4000000
set_option autoImplicit false
namespace Ip
open PySem PyProof.Rows L2
section
variable {X : Cx} {cl : Str → Option Addr} {W : WX} {G : Gx}
abbrev GM := D → List D → Sto → Option (D × Sto)
def MtS (G : Gx) (r : V → List V → Hp → VK → Prop) (g : GM) : Prop := ∀ (H : Hp) (ρ : Rho) (M : Sto) (x : V) (dx : D) (vs : List V) (ds : List D) (d : D) (M' : Sto) (Q : VK), RS G H ρ M → RV G H ρ dx x → RVs G H ρ ds vs → g dx ds M = some (d, M') → oP G H ρ Q d M' → r x vs H Q
def dLm (g : GM) (fo : DE) (fa : DA) : DE := fun env M => (fo env M).bind fun x M1 => match asL x M1 with
  | some _ => (fa env M1).bind fun as M2 => liftM (g x as M2)
  | none => .bad
theorem lm_ok {r : V → List V → Hp → VK → Prop} {g : GM} (hg : MtS G r g) {fo : DE} {fa : DA} {σ : L2.St} {H : Hp} {Q : VK} (h : dE G W (dLm g fo fa) σ H Q) : tBM G.K "list" r (dE G W fo) (dA G W fa) σ H Q := by
  obtain ⟨ρ, env, M, hE, hS, h⟩ := h
  refine ⟨ρ, env, M, hE, hS, (post_bind h).imp (fun x M1 hx ρ1 v H1 e1 S1 r1 => ?_) (fun _ _ _ z => z)⟩
  split at hx
  · rename_i l hl
    obtain ⟨a, vs, rfl, ha, rs⟩ := asL_ok S1 r1 hl
    refine ⟨.inl ⟨rfl, _, SqL.of ha⟩, ρ1, env, M1, hE.mono e1, S1, (post_bind hx).imp (fun as M2 hy ρ2 ws H2 e2 S2 r2 => ?_) (fun _ _ _ z => eP.sh e1 z)⟩
    obtain ⟨d, M', e, q⟩ := lift_some hy
    exact hg H2 ρ2 M2 _ x ws as d M' Q S2 (r1.mono e2) r2 e (oP.sh (e1.trans e2) q)
  · exact hx.elim
theorem se_lm {name : Str} {id : String} {r : V → List V → Hp → VK → Prop} {g : GM} {o e : Expr} {es : List Expr} {fo : DE} {fa : DA} {apos cpos : Pos} (slot : Slot "list" name id) (hty : typeOf (.builtin id) = pure (.type "method_descriptor")) (hm : MtR X id r) (hg : MtS (gx X cl) r g) (ho : SE X cl W o fo) (ha : SA X cl W (e :: es) fa)
    (hbase : attributeBase o name X.env (eval o X.env) = eval o X.env := by rfl)
    (hfew : ((backTo cpos (starEach (e :: es) X.env)).all (fun x => !x.1) && (backToKw cpos (keywordEach [] X.env)).all (fun x => x.1.isSome)
      && decide ((e :: es).length + ([] : List Keyword).length + (if ([] : List Keyword).isEmpty then 0 else 1) < 30)) = true := by rfl)
    (hline : (apos.endLine == cpos.line) = true := by rfl) (hs : starEach (e :: es) X.env = (false, eval e X.env) :: starEach es X.env := by rfl) (hplain : (backTo cpos (starEach es X.env)).any (·.1) = false := by rfl) :
    SE X cl W (.Call (.Attribute o name apos) (e :: es) [] cpos) (dLm g fo fa) :=
  PEweak (pe_bm PySem.F.plainAttrs_list slot hty hm ho ha hbase hfew hline hs hplain) fun σ H Q h => lm_ok (G := gx X cl) hg h
def setL (x : D) (M : Sto) (k : List D → Option (List D)) : Option Sto := match x with
  | .ref n => match M[n]? with
    | some (.lst l) => (k l).map fun l' => M.set n (.lst l')
    | _ => none
  | _ => none
theorem setL_ok {H : Hp} {ρ : Rho} {M M' : Sto} {x : D} {v : V} {k : List D → Option (List D)} (S : RS G H ρ M) (r : RV G H ρ x v) (h : setL x M k = some M') :
    ∃ a l l' vs, v = .ref a ∧ H a = some (.lst vs) ∧ RVs G H ρ l vs ∧ k l = some l' ∧ ∀ vs', RVs G H ρ l' vs' → Ext G H ρ (upd H a (.lst vs')) ρ ∧ RS G (upd H a (.lst vs')) ρ M' := by
  cases r with
  | ref hn =>
    rename_i n a
    have h' : (match M[n]? with
      | some (.lst l) => (k l).map fun l' => M.set n (.lst l')
      | _ => none) = some M' := h
    split at h'
    · rename_i l hm
      cases e : k l with
      | none => rw [e] at h'; cases h'
      | some l' =>
        rw [e] at h'; cases h'
        obtain ⟨b, hb, vs, e0, rs⟩ := S.at_ _ _ hm
        rw [hn] at hb; cases hb
        exact ⟨a, l, l', vs, rfl, e0, rs, e, fun vs' r' => ⟨Ext.write S hn, S.write hn ⟨vs', upd_same, r'.mono (Ext.write S hn)⟩⟩⟩
    · cases h'
  | _ => cases h
def gApp : GM := fun x as M => match as with
  | [y] => (setL x M fun l => if l.length < 16777216 then some (l ++ [y]) else none).map (D.non, ·)
  | _ => none
theorem mts_app : MtS G rAppend gApp := fun H ρ M x dx vs ds d M' Q S rx rs e h => by
  unfold gApp at e
  split at e
  · rename_i y
    cases rs with
    | cons q1 q2 =>
      cases q2
      cases e2 : setL dx M fun l => if l.length < 16777216 then some (l ++ [y]) else none with
      | none => rw [e2] at e; cases e
      | some M2 =>
        rw [e2] at e; cases e
        obtain ⟨a, l, l', ws, rfl, ha, rl, ek, up⟩ := setL_ok S rx e2
        split at ek
        · rename_i hl
          cases ek
          obtain ⟨x1, s1⟩ := up _ (rl.append (.one q1))
          exact ⟨a, ws, _, rfl, rfl, ha, by rw [rl.length, sizeLine_eq]; exact hl, h ρ _ _ x1 s1 .non⟩
        · cases ek
  · cases e
def gClear : GM := fun x as M => match as with
  | [] => (setL x M fun _ => some []).map (D.non, ·)
  | _ => none
theorem se_append {o e : Expr} {fo fe : DE} {apos cpos : Pos} (ho : SE X cl W o fo) (ha : SE X cl W e fe) (hst : starEach [e] X.env = (false, eval e X.env) :: starEach [] X.env := by rfl)
    (hbase : attributeBase o "append" X.env (eval o X.env) = eval o X.env := by rfl)
    (hfew : ((backTo cpos (starEach [e] X.env)).all (fun x => !x.1) && (backToKw cpos (keywordEach [] X.env)).all (fun x => x.1.isSome)
      && decide ([e].length + ([] : List Keyword).length + (if ([] : List Keyword).isEmpty then 0 else 1) < 30)) = true := by rfl)
    (hline : (apos.endLine == cpos.line) = true := by rfl) (hplain : (backTo cpos (starEach [] X.env)).any (·.1) = false := by rfl) : SE X cl W (.Call (.Attribute o "append" apos) [e] [] cpos) (dLm gApp fo (dConsA fe dNilA)) :=
  se_lm PySem.F.slot_list_append PySem.F.type_list_append mt_append mts_app ho (sa_cons ha sa_nil hst) hbase hfew hline hst hplain
/-- o[i] = e over a cell -/
def dSetIx (fo fi fe : DE) : DS := fun env M => (fe env M).bind fun y M1 => (fo env M1).bind fun x M2 => (fi env M2).bind fun i M3 => match i with
  | .int k => match setL x M3 fun l => (ixN l.length k).map fun j => l.set j y with
    | some M4 => .ok (.nx env) M4
    | none => .bad
  | _ => .bad
theorem ss_setIx {o i e : Expr} {fo fi fe : DE} {pos pos' : Pos} (ho : SE X cl W o fo) (hi : SE X cl W i fi) (he : SE X cl W e fe)
    (hg : PG X (.Subscript o i pos') (gSub (dE (gx X cl) W fo) (dE (gx X cl) W fi) rSetL))
    (hs : swapsWithSole [.Subscript o i pos'] e pos.line X.env = pure false := by rfl) (hw : swappedStores [.Subscript o i pos'] e X.env = pure none := by rfl)
    (h1 : (assignEach [.Subscript o i pos'] X.env).map (·.2) = [assign (.Subscript o i pos') X.env] := by rfl) : SS X cl W (.Assign [.Subscript o i pos'] e pos) (dSetIx fo fi fe) :=
  PSweak (ps_asg he hg hs hw h1) fun D σ H ⟨ρ, env, M, hE, hS, h⟩ => by
    refine ⟨ρ, env, M, hE, hS, (post_bind h).imp (fun y M1 hy ρ1 v H1 e1 S1 r1 => ?_) (fun _ _ _ z => z)⟩
    refine ⟨ρ1, env, M1, hE.mono e1, S1, (post_bind hy).imp (fun x M2 hx ρ2 w H2 e2 S2 r2 => ?_) (fun _ _ _ z => eP.sh e1 z)⟩
    refine ⟨ρ2, env, M2, hE.mono (e1.trans e2), S2, (post_bind hx).imp (fun ii M3 hz ρ3 u H3 e3 S3 r3 => ?_) (fun _ _ _ z => eP.sh (e1.trans e2) z)⟩
    cases r3 with
    | int k =>
      have hz' : (match setL x M3 fun l => (ixN l.length k).map fun j => l.set j y with
        | some M4 => Out.ok (Fl.nx env) M4
        | none => .bad).post (sP (gx X cl) H ρ D) (eP (gx X cl) W H ρ) := hz
      split at hz'
      · rename_i M4 hm4
        obtain ⟨a, l, l', ws, rfl, ha, rl, ek, up⟩ := setL_ok S3 (r2.mono e3) hm4
        cases ej : ixN l.length k with
        | none => rw [ej] at ek; cases ek
        | some j =>
          rw [ej] at ek; cases ek
          obtain ⟨x1, s1⟩ := up _ (rl.set (r1.mono (e2.trans e3)) j)
          exact ⟨a, ws, k, j, rfl, rfl, ha, by rw [rl.length]; exact ej, hz' ρ3 σ _ (e1.trans (e2.trans (e3.trans x1))) s1 (hE.mono (e1.trans (e2.trans (e3.trans x1))))⟩
      · exact hz'.elim
    | _ => exact hz.elim
abbrev GC := List D → Sto → Option (D × Sto)
def gLen : GC := fun as M => match as with
  | [.tup l] => some (.int (l.length : Nat), M)
  | [x] => match asL x M with
    | some l => some (.int (l.length : Nat), M)
    | none => none
  | _ => none
theorem cs_len : CallS G (fun xs H Q => ∃ p ys, xs = [.ref p] ∧ (SqL G.K H p ys ∨ SqT G.K H p ys) ∧ Q (.int ys.length) H) gLen := fun H ρ M xs ds d M' Q S rs e h => by
  unfold gLen at e
  split at e
  · rename_i l
    cases e
    cases rs with
    | cons q1 q2 =>
      cases q2
      cases q1 with
      | tup hs rs => exact ⟨_, _, rfl, .inr hs.1, by rw [rs.length]; exact h ρ _ H .refl S (.int _)⟩
  · split at e
    · rename_i x _ l hl
      cases e
      cases rs with
      | cons q1 q2 =>
        cases q2
        obtain ⟨a, vs, rfl, ha, rl⟩ := asL_ok S q1 hl
        exact ⟨_, _, rfl, .inl (SqL.of ha), by rw [rl.length]; exact h ρ _ H .refl S (.int _)⟩
    · cases e
  · cases e
def seqOf (x : D) (M : Sto) : Option (List D) := match x with
  | .tup l => some l
  | x => asL x M
theorem seqOf_ok {H : Hp} {ρ : Rho} {M : Sto} {x : D} {v : V} {l : List D} (S : RS G H ρ M) (r : RV G H ρ x v) (h : seqOf x M = some l) : ∃ a vs, v = .ref a ∧ (SqL G.K H a vs ∨ SqT G.K H a vs) ∧ RVs G H ρ l vs := by
  unfold seqOf at h
  split at h
  · cases h
    cases r with
    | tup hs rs => exact ⟨_, _, rfl, .inr hs.1, rs⟩
  · obtain ⟨a, vs, e, ha, rl⟩ := asL_ok S r h
    exact ⟨a, vs, e, .inl (SqL.of ha), rl⟩
def gList : GC := fun as M => match as with
  | [x] => (seqOf x M).map fun l => (.lst l, M)
  | _ => none
def gListC : GC := fun as M => match as with
  | [x] => (seqOf x M).map fun l => (.ref M.length, M ++ [.lst l])
  | _ => none
theorem cs_list : CallS G (fun xs H Q => ∃ p ys, xs = [.ref p] ∧ (SqL G.K H p ys ∨ SqT G.K H p ys) ∧ ∀ l, H l = none → Q (.ref l) (upd H l (.lst ys))) gList := fun H ρ M xs ds d M' Q S rs e h => by
  unfold gList at e
  split at e
  · rename_i x
    cases e2 : seqOf x M with
    | none => rw [e2] at e; cases e
    | some l =>
      rw [e2] at e; cases e
      cases rs with
      | cons q1 q2 =>
        cases q2
        obtain ⟨a, vs, rfl, ha, rl⟩ := seqOf_ok S q1 e2
        exact ⟨_, _, rfl, ha, fun p hp => h.new S hp (RV.newL S hp rl)⟩
  · cases e
theorem cs_listC : CallS G (fun xs H Q => ∃ p ys, xs = [.ref p] ∧ (SqL G.K H p ys ∨ SqT G.K H p ys) ∧ ∀ l, H l = none → Q (.ref l) (upd H l (.lst ys))) gListC := fun H ρ M xs ds d M' Q S rs e h => by
  unfold gListC at e
  split at e
  · rename_i x
    cases e2 : seqOf x M with
    | none => rw [e2] at e; cases e
    | some l =>
      rw [e2] at e; cases e
      cases rs with
      | cons q1 q2 =>
        cases q2
        obtain ⟨a, vs, rfl, ha, rl⟩ := seqOf_ok S q1 e2
        exact ⟨_, _, rfl, ha, fun p hp => h _ _ _ (Ext.cell S hp) (S.newLst hp rl) (.ref S.at_new)⟩
  · cases e
def gTuple : GC := fun as M => match as with
  | [.tup l] => some (.tup l, M)
  | [x] => (asL x M).map fun l => (.tup l, M)
  | _ => none
def bls : List D → Option (List Bool)
  | [] => some []
  | .bl b :: ds => (bls ds).map (b :: ·)
  | _ :: _ => none
theorem bls_ok {H : Hp} {ρ : Rho} : ∀ {ds : List D} {vs : List V} {bs : List Bool}, RVs G H ρ ds vs → bls ds = some bs → vs = bs.map V.bl
  | _, _, _, .nil, h => by cases h; rfl
  | _, _, _, .cons (d := d) (ds := ds) r rs, h => by
    cases r with
    | bl b =>
      unfold bls at h
      cases e : bls ds with
      | none => rw [e] at h; cases h
      | some bs => rw [e] at h; cases h; rw [bls_ok rs e]; rfl
    | _ => cases h
def gAll : GC := fun as M => match as with
  | [.lst l] => (bls l).map fun bs => (.bl (bs.all id), M)
  | _ => none
theorem cs_all : CallS G (rAll G.K) gAll := fun H ρ M xs ds d M' Q S rs e h => by
  unfold gAll at e
  split at e
  · rename_i l
    cases e2 : bls l with
    | none => rw [e2] at e; cases e
    | some bs =>
      rw [e2] at e; cases e
      cases rs with
      | cons q1 q2 =>
        cases q2
        cases q1 with
        | lst hs hn rl => exact ⟨_, bs, rfl, by rw [← bls_ok rl e2]; exact SqL.of hs, h ρ _ H .refl S (.bl _)⟩
  · cases e
def gMax2 : GC := fun as M => match as with
  | [.int i, .int j] => some (.int (if j > i then j else i), M)
  | _ => none
def gMin2 : GC := fun as M => match as with
  | [.int i, .int j] => some (.int (if j < i then j else i), M)
  | _ => none
theorem cs_max2 : CallS G (fun xs H Q => ∃ i j, xs = [.int i, .int j] ∧ Q (.int (if j > i then j else i)) H) gMax2 := fun H ρ M xs ds d M' Q S rs e h => by
  unfold gMax2 at e
  split at e
  · cases e
    cases rs with
    | cons q1 q2 => cases q1; cases q2 with
      | cons q2 q3 => cases q2; cases q3; exact ⟨_, _, rfl, h ρ _ H .refl S (.int _)⟩
  · cases e
theorem cs_min2 : CallS G (fun xs H Q => ∃ i j, xs = [.int i, .int j] ∧ Q (.int (if j < i then j else i)) H) gMin2 := fun H ρ M xs ds d M' Q S rs e h => by
  unfold gMin2 at e
  split at e
  · cases e
    cases rs with
    | cons q1 q2 => cases q1; cases q2 with
      | cons q2 q3 => cases q2; cases q3; exact ⟨_, _, rfl, h ρ _ H .refl S (.int _)⟩
  · cases e
def tyD (x : D) (M : Sto) : Option String := match x with
  | .non => some "NoneType"
  | .bl _ => some "bool"
  | .int _ => some "int"
  | .str _ => some "str"
  | .tup _ => some "tuple"
  | .lst _ => some "list"
  | .ref n => match M[n]? with
    | some (.lst _) => some "list"
    | _ => none
  | _ => none
theorem tyD_ok {H : Hp} {ρ : Rho} {M : Sto} {x : D} {v : V} {t : String} (S : RS G H ρ M) (r : RV G H ρ x v) (h : tyD x M = some t) : TyX G.K H v (.type t) := by
  cases r with
  | non => cases h; exact .base .non
  | bl b => cases h; exact .base (.bl b)
  | int i => cases h; exact .base (.int i)
  | str s => cases h; exact .base (.str s)
  | ty s => cases h
  | scr s => cases h
  | obj => cases h
  | cls => cases h
  | dK => cases h
  | dT => cases h
  | tup hs rs =>
    cases h
    rcases hs.1 with (h | ⟨o, h⟩) | ⟨o, its, n, k, c, _⟩
    · exact .base (.tup h)
    · exact .fTuple h
    · exact .kTuple k c
  | lst hs hn rs => cases h; exact .base (.lst hs)
  | ref hn =>
    rename_i n a
    have h' : (match M[n]? with
      | some (.lst _) => some "list"
      | _ => none) = some t := h
    split at h'
    · rename_i l hm
      cases h'
      obtain ⟨b, hb, vs, e0, rs⟩ := S.at_ _ _ hm
      rw [hn] at hb; cases hb
      exact .base (.lst e0)
    · cases h'
/-- t is a T (the six plain types) -/
def isA (t T : String) : Option Bool := kitB t T
def gIsi (T : String) : D → Sto → Option (D × Sto) := fun x M => match tyD x M with
  | some t => (isA t T).map fun b => (.bl b, M)
  | none => none
def dIsi (T : String) (fe : DE) : DE := dUn (gIsi T) fe
theorem boot_ty_rel {n : String} : RelV (.ty n) (.type n) := rfl
theorem se_isi {T : String} {x : Str} {e : Expr} {fe : DE} {p p2 pos : Pos} (hg : Gl X "isinstance") (hm : X.mg "isinstance" = none) (hgT : Gl X x) (hmT : X.mg x = none) (hvT : bootBuiltins x = some (.type T)) (he : SE X cl W e fe)
    (hnT : x ≠ "__name__" := by decide) (hdT : (x == ("__debug__" : Str)) = false := by decide)
    (h1 : starEach [e, .Name x p2] X.env = (false, eval e X.env) :: starEach [.Name x p2] X.env := by rfl) (h2 : starEach [.Name x p2] X.env = (false, eval (.Name x p2) X.env) :: starEach [] X.env := by rfl) (hpl : (backTo pos (starEach [.Name x p2] X.env)).any (·.1) = false := by rfl) :
    SE X cl W (.Call (.Name "isinstance" p) [e, .Name x p2] [] pos) (dIsi T fe) :=
  PEweak (pe_callB call_isi hg hm (by decide +kernel) (pa_cons he (pa_cons (pe_bltn hgT hmT hvT boot_ty_rel hnT hdT) pa_nil h2) h1) (by decide) (by decide) h1 hpl) fun σ H Q ⟨ρ, env, M, hE, hS, h⟩ => by
    refine ⟨ρ, env, M, hE, hS, (post_bind h).imp (fun y M1 hx ρ1 v H1 e1 S1 r1 => ?_) (fun _ _ _ z => z)⟩
    obtain ⟨d, M', eq, q⟩ := lift_some hx
    unfold gIsi at eq
    split at eq
    · rename_i t ht
      cases hb : isA t T with
      | none => rw [hb] at eq; cases eq
      | some b =>
        rw [hb] at eq; cases eq
        exact ⟨v, .ty T, .type t, .type T, b, rfl, .ty T, tyD_ok (G := gx X cl) S1 r1 ht, kit_ty hb, q ρ1 _ H1 e1 S1 (.bl _)⟩
    · cases eq
end
end Ip
end
section
set_option Elab.async false
set_option linter.all false
set_option maxRecDepth 100000
set_option maxHeartbeats 4000000
set_option autoImplicit false
namespace Ip
open PySem PyProof.Rows L2
section
variable {X : Cx} {cl : Str → Option Addr} {W : WX} {a b c e o : Expr} {es : List Expr} {fa fb fc fe fo : DE} {pos p p2 : Pos}
theorem se_v (i : Nat) {x : Str} (hN : X.N[i]? = some x := by rfl) (hv : Vis X.env.scope x := by first | exact Or.inl rfl | exact Or.inr (Or.inl rfl) | exact Or.inr (Or.inr rfl)) (hd : (x == ("__debug__" : Str)) = false := by decide)
    (hcd : (x == ("__classdict__" : Str)) = false := by decide) : SE X cl W (.Name x pos) (dVar i) := se_var hN hv hd hcd
theorem se_at (ha : SE X cl W a fa) (hb : SE X cl W b fb) (hs : PlainIx b := by exact fun _ _ => rfl) : SE X cl W (.Subscript a b pos) (dBin gIx fa fb) := se_ix ix_seq ops_ix ha hb hs
theorem se_add (ha : SE X cl W a fa) (hb : SE X cl W b fb) : SE X cl W (.BinOp a .Add b pos) (dBin gAdd fa fb) := se_bin op_addA ops_addA ha hb
abbrev gSub : G2 := gInt fun i j => i - j
theorem se_sub (ha : SE X cl W a fa) (hb : SE X cl W b fb) : SE X cl W (.BinOp a .Sub b pos) (dBin Ip.gSub fa fb) := se_bin op_sub ops_int ha hb
def in64 (i : Int) : Bool := decide (-(2 ^ 64) < i) && decide (i < 2 ^ 64)
def gMul : G2 := orG (gIntC (fun i j => in64 i || in64 j) fun i j => i * j) gRep
theorem in64_ok {i : Int} (h : in64 i = true) : -(2 ^ 64) < i ∧ i < 2 ^ 64 := by
  unfold in64 at h
  simp only [Bool.and_eq_true, decide_eq_true_eq] at h
  exact h
theorem se_mul (ha : SE X cl W a fa) (hb : SE X cl W b fb) : SE X cl W (.BinOp a .Mult b pos) (dBin gMul fa fb) :=
  se_bin (op_mul.or op_rep) ((ops_intC fun i j h => by
    rw [Bool.or_eq_true] at h
    exact h.elim (fun z => .inl (in64_ok z)) (fun z => .inr (in64_ok z))).or ops_rep) ha hb
def gMod : G2 := gIntC (fun _ j => decide (0 < j)) fun i j => i % j
theorem se_mod (ha : SE X cl W a fa) (hb : SE X cl W b fb) : SE X cl W (.BinOp a .Mod b pos) (dBin gMod fa fb) := se_bin op_mod (ops_intC fun i j h => by simpa using h) ha hb
def gDiv : G2 := gIntC (fun _ j => decide (0 < j) && decide (j < 1073741824)) fun i j => i / j
theorem se_div (ha : SE X cl W a fa) (hb : SE X cl W b fb) : SE X cl W (.BinOp a .FloorDiv b pos) (dBin gDiv fa fb) := se_bin op_fdiv (ops_intC fun i j h => by simpa [CDiv] using h) ha hb
def gPow : G2 := gIntC (fun i j => decide (0 ≤ j) && decide (j ≤ 1000000) && decide (i.natAbs < 2 ^ 64)) fun i j => i ^ j.toNat
theorem se_pow (ha : SE X cl W a fa) (hb : SE X cl W b fb) : SE X cl W (.BinOp a .Pow b pos) (dBin gPow fa fb) := se_bin op_pow (ops_intC fun i j h => by
  simp only [Bool.and_eq_true, decide_eq_true_eq] at h
  exact ⟨h.1.1, h.1.2, h.2⟩) ha hb
def gNeg : D → Sto → Option (D × Sto) := fun x M => match x with
  | .int i => some (.int (-i), M)
  | _ => none
theorem se_neg (ha : SE X cl W a fa) : SE X cl W (.UnaryOp .USub a pos) (dUn gNeg fa) := se_un un_neg (fun H ρ M x dx d M' Q S rx e h => by
  cases rx with
  | int i => cases e; exact ⟨i, rfl, h ρ _ H .refl S (.int _)⟩
  | _ => cases e) ha
abbrev gLt : G2 := gIntB fun i j => decide (i < j)
abbrev gLe : G2 := gIntB fun i j => decide (i ≤ j)
abbrev gGt : G2 := gIntB fun i j => decide (j < i)
abbrev gGe : G2 := gIntB fun i j => decide (j ≤ i)
theorem se_lt (ha : SE X cl W a fa) (hb : SE X cl W b fb) : SE X cl W (.Compare a [.Lt] [b] pos) (dBin gLt fa fb) := se_cmp op_lt ops_intB ha hb (nomark _)
theorem se_le (ha : SE X cl W a fa) (hb : SE X cl W b fb) : SE X cl W (.Compare a [.LtE] [b] pos) (dBin gLe fa fb) := se_cmp op_le ops_intB ha hb (nomark _)
theorem se_ge (ha : SE X cl W a fa) (hb : SE X cl W b fb) : SE X cl W (.Compare a [.GtE] [b] pos) (dBin gGe fa fb) := se_cmp op_ge ops_intB ha hb (nomark _)
theorem se_eq {k : Nat} (hr : Room k X.A) (ha : SE X cl W a fa) (hb : SE X cl W b fb) : SE X cl W (.Compare a [.Eq] [b] pos) (dBin (gEq false) fa fb) := se_cmp (op_eqA hr.units) ops_eq ha hb (nomark _)
theorem se_ne {k : Nat} (hr : Room k X.A) (ha : SE X cl W a fa) (hb : SE X cl W b fb) : SE X cl W (.Compare a [.NotEq] [b] pos) (dBin (gEq true) fa fb) := se_cmp (op_neA hr.units) ops_ne ha hb (nomark _)
theorem se_is (ha : SE X cl W a fa) (hb : SE X cl W b fb) : SE X cl W (.Compare a [.Is] [b] pos) (dBin (gIs false) fa fb) := se_cmp op_isN ops_is ha hb (nomark _)
theorem st_lt (ha : SE X cl W a fa) (hb : SE X cl W b fb) : ST X cl W (.Compare a [.Lt] [b] pos) (dB (dBin gLt fa fb)) := st_cmp op_lt ops_intB ha hb (nomark _)
theorem st_le (ha : SE X cl W a fa) (hb : SE X cl W b fb) : ST X cl W (.Compare a [.LtE] [b] pos) (dB (dBin gLe fa fb)) := st_cmp op_le ops_intB ha hb (nomark _)
theorem st_gt (ha : SE X cl W a fa) (hb : SE X cl W b fb) : ST X cl W (.Compare a [.Gt] [b] pos) (dB (dBin gGt fa fb)) := st_cmp op_gt ops_intB ha hb (nomark _)
theorem st_ge (ha : SE X cl W a fa) (hb : SE X cl W b fb) : ST X cl W (.Compare a [.GtE] [b] pos) (dB (dBin gGe fa fb)) := st_cmp op_ge ops_intB ha hb (nomark _)
theorem st_eq {k : Nat} (hr : Room k X.A) (ha : SE X cl W a fa) (hb : SE X cl W b fb) : ST X cl W (.Compare a [.Eq] [b] pos) (dB (dBin (gEq false) fa fb)) := st_cmp (op_eqA hr.units) ops_eq ha hb (nomark _)
theorem st_ne {k : Nat} (hr : Room k X.A) (ha : SE X cl W a fa) (hb : SE X cl W b fb) : ST X cl W (.Compare a [.NotEq] [b] pos) (dB (dBin (gEq true) fa fb)) := st_cmp (op_neA hr.units) ops_ne ha hb (nomark _)
theorem st_is (ha : SE X cl W a fa) (hb : SE X cl W b fb) : ST X cl W (.Compare a [.Is] [b] pos) (dB (dBin (gIs false) fa fb)) := st_cmp op_isN ops_is ha hb (nomark _)
theorem st_isnot (ha : SE X cl W a fa) (hb : SE X cl W b fb) : ST X cl W (.Compare a [.IsNot] [b] pos) (dB (dBin (gIs true) fa fb)) := st_cmp op_notN ops_isnot ha hb (nomark _)
theorem sg_v (i : Nat) {x : Str} (hN : X.N.Nodup) (hi : X.N[i]? = some x := by rfl) (hx : Loc X.env.scope x := by first | exact Or.inl rfl | exact Or.inr rfl) (hf : X.fn x = true ∨ X.env.scope.names.lookup x = some .local := by first | exact .inl rfl | exact .inr rfl | assumption) : SG X cl (.Name x pos) (tgName i) := sg_name hN hi hx hf
theorem ss_let (i : Nat) {x : Str} {pos' : Pos} (hN : X.N.Nodup) (he : SE X cl W e fe) (hi : X.N[i]? = some x := by rfl) (hx : Loc X.env.scope x := by first | exact Or.inl rfl | exact Or.inr rfl) (hs : swapsWith e (some (.Name x pos')) pos.line X.env = pure false := by rfl) (hf : X.fn x = true ∨ X.env.scope.names.lookup x = some .local := by first | exact .inl rfl | exact .inr rfl | assumption) :
    SS X cl W (.Assign [.Name x pos'] e pos) (dSet i fe) := ss_set hN hi hx he hs hf
end
end Ip
end
section
set_option Elab.async false
set_option linter.all false
set_option maxRecDepth 100000
set_option maxHeartbeats 4000000
set_option autoImplicit false
namespace Ip
open PySem PyProof.Rows L2
section
variable {X : Cx} {cl : Str → Option Addr} {W : WX} {G : Gx}
def dLenO (c : Str) (F : DF) (fe : DE) : DE := fun env M => (fe env M).bind fun x M1 => match objOf c x M1 with
  | some _ => (noex (F [x] M1)).bind fun d M2 => match d with
    | .int n => if 0 ≤ n ∧ n < 2 ^ 63 then .ok (.int n) M2 else .bad
    | _ => .bad
  | none => .bad
def dReprO (c : Str) (F : DF) (fe : DE) : DE := fun env M => (fe env M).bind fun x M1 => match objOf c x M1 with
  | some _ => (noex (F [x] M1)).bind fun d M2 => match d with
    | .str m => .ok (.str m) M2
    | _ => .bad
  | none => .bad
def dFmt (fe : DE) : DE := fun env M => (fe env M).bind fun x M1 => match x with
  | .str y => if y.length ≤ 16777216 then .ok (.str y) M1 else .bad
  | .int i => if i.natAbs.log2 < 1920 then .ok (.str (toString i)) M1 else .bad
  | _ => .bad
def dJs : List DE → Str → DE
  | [], acc => fun _ M => .ok (.str acc) M
  | f :: fs, acc => fun env M => (f env M).bind fun x M1 => match x with
    | .str y => if (acc ++ y).length ≤ 16777216 then dJs fs (acc ++ y) env M1 else .bad
    | _ => .bad
end
end Ip
end
section
set_option Elab.async false
set_option linter.all false
set_option maxRecDepth 100000
set_option maxHeartbeats 4000000
set_option autoImplicit false
namespace Ip
open PySem PyProof.Rows L2
open AutoSeq1 (wpAny_loadPart')
abbrev tupIt (t : Addr) : Obj := { cls := .type "tuple_iterator", data := .fields #[.ref t, .int 0 0] }
abbrev enumOb (i : Addr) : Obj := { cls := .type "enumerate", data := .fields #[.none, .bool false, .ref i, rawInt 0, .none, .none] }
theorem enum_newT (t : Addr) (its : Array Value) :
    Meets (Builtin.«enumerate.__new__» ⟨[.type "enumerate", .ref t], []⟩) (fun _ R s => s.heap.IsTuple t its ∧
      R (.ok (.ret (.ref (s.heap.push (tupIt t)).objs.size))) { s with heap := (s.heap.push (tupIt t)).push (enumOb s.heap.objs.size) }) :=
  .of_wp fun prog w A R s hh => by
    obtain ⟨hp, g, dr, tk, os⟩ := s
    obtain ⟨ht, fin⟩ := hh
    have sb := sub_enumerate
    have hT : Heap.IsTuple (Shared.heap ⟨hp, g, dr, tk, os⟩) t its := ht
    obtain ⟨o, ho, hc, hd⟩ := id ht
    wp_walk using wpAny_loadPart' ho
    refine wpAny_stack_any fun stk => wpAny_pure ?_
    split
    · rename_i c _ _ _ _ _
      cases (c == Value.type "enumerate") <;> (wp_walk using wpAny_pyIter_tuple hT; exact ⟨_, rfl, fin⟩)
    · wp_walk using wpAny_pyIter_tuple hT
      exact ⟨_, rfl, fin⟩
theorem call_enumT {prog : Program} {w : World} {A : Around} {E : Value → Shared → Prop} {s : Shared} {t : Addr} {its : Array Value} {Q : Value → Shared → Prop} (ht : s.heap.IsTuple t its)
    (h : ∀ h', IsEnum h' (s.heap.objs.size + 1) s.heap.objs.size 0 .none → h'.IsTupleIter s.heap.objs.size t 0 → (∀ b o, s.heap.get? b = some o → h'.get? b = some o) → Q (.ref (s.heap.objs.size + 1)) { s with heap := h' }) :
    wpAny (model prog w) A (call (.type "enumerate") [.ref t]) Q E s := by
  refine callType_new PySem.F.called_enumerate (by decide) (PySem.F.typeCall_enumerate_1 _) (PySem.F.newCall_enumerate_1 _) (fun ob => PySem.F.args_object_init_2 ob _) PySem.F.entry_enumerate_new (enum_newT t its) ⟨ht, ?_⟩
  have hz : (s.heap.push (tupIt t)).objs.size = s.heap.objs.size + 1 := Heap.size_push ..
  show _ ∧ _
  rw [hz]
  have he : IsEnum ((s.heap.push (tupIt t)).push (enumOb s.heap.objs.size)) (s.heap.objs.size + 1) s.heap.objs.size 0 .none := by
    have q := Heap.get?_push_size (s.heap.push (tupIt t)) (o := enumOb s.heap.objs.size) rfl
    rw [hz] at q
    exact q
  exact ⟨⟨_, he, rfl⟩, h _ he ⟨_, Heap.get?_push_of_some _ (Heap.get?_push_size _ rfl), rfl, rfl⟩ fun b o x => Heap.get?_push_of_some _ (Heap.get?_push_of_some _ x)⟩
/-- the tuple at a, its items in new pairs -/
def IteT (K : PySem.W.Frag) (a : Addr) : It :=
  ⟨fun i H => ∃ (xs : List V) (x : V), SqT K H a xs ∧ xs[i]? = some x, fun i H v H' => ∃ T x, v = .ref T ∧ H T = none ∧ H' = upd H T (.tup [.int (i : Nat), x]) ∧ ∀ xs, SqT K H a xs → xs[i]? = some x, fun i H => ∃ xs : List V, SqT K H a xs ∧ xs.length ≤ i⟩
theorem turn_enumT {P : Program} {w : World} {K : PySem.W.Frag} {elts : List Expr} {kk : Nat} {tpos : Pos} (a e it : Addr) (hai : a ≠ it) (hae : a ≠ e) :
    Turn P w K (.Tuple elts kk tpos) (IteT K a) [e, it] e (fun i h => (∃ old, IsEnum h e it ((i : Nat) : Int) old) ∧ h.IsTupleIter it a i ∧ e ≠ it) where
  mem := by simp
  obj := fun i h st b hb => by
    obtain ⟨⟨old, he⟩, ⟨o, ho, hc, hd⟩, _⟩ := st
    rcases (show b = e ∨ b = it by simpa using hb) with z | z
    · rw [z]; exact ⟨_, he, fun v q => nomatch q⟩
    · rw [z]; exact ⟨o, ho, fun v q => by rw [hd] at q; cases q⟩
  keep := fun i h h' st k => let ⟨⟨old, he⟩, hi, hne⟩ := st; ⟨⟨old, k e (by simp) _ he⟩, hi.at fun o q => k it (by simp) o q, hne⟩
  item := by
    intro X hP hw hK hc i pins s σ H E I hf st hg
    subst hP hw hK
    obtain ⟨⟨old, he⟩, hit, hne⟩ := st
    obtain ⟨xs, x, hq, hx⟩ := hg
    obtain ⟨its, rv, pt, hz⟩ := I.tuple hq
    have ptu : s.heap.IsTuple a its.toArray := pt
    have hel : e < s.heap.objs.size := Heap.lt_size he
    have hil : it < s.heap.objs.size := by obtain ⟨_, q, _⟩ := id hit; exact Heap.lt_size q
    have hal : a < s.heap.objs.size := by obtain ⟨_, q, _⟩ := id ptu; exact Heap.lt_size q
    have hlen : i < its.toArray.size := by
      have q := (List.getElem?_eq_some_iff.mp hx).1
      rw [rv.length] at q
      simpa using q
    have Dr := Draws.tuple (prog := X.prog) (w := X.w) (A := X.A.in1) (I.ok.hd hc) it a hai its.toArray
    refine wpAny_pyNext_enum_itemD Dr he ⟨hit, ptu⟩ hlen hne (by simp; exact ⟨hne, Ne.symm hae⟩) fun u h' tk hu ho hst hT hsz hk => ?_
    obtain ⟨u', hu', ru⟩ := rv.get hx
    have eu : u = u' := by
      have q : its[i]? = some u := by simpa using hu
      rw [hu'] at q
      exact (Option.some.inj q).symm
    subst eu
    refine ⟨_, rfl, wpAny_letOwnedTupleGo_enum (s := { s with heap := h', toks := tk + 1 }) ho fun h'' he' sb => ?_⟩
    have hT2 : h''.get? s.heap.objs.size = some { cls := .type "tuple", data := .seq #[.int i tk, u] } := (sb.2 _ (Nat.ne_of_gt hel)).trans hT
    have new : ObjOk X.prog X.w (upd H s.heap.objs.size (.tup [.int (i : Nat), x])) h'' s.heap.objs.size (.tup [.int (i : Nat), x]) :=
      ⟨by show 2 ≤ sizeLine; decide, [.int i tk, u], .cons ⟨_, rfl⟩ (.cons ru .nil), ⟨_, hT2, rfl, _, rfl⟩⟩
    have I1 : Inv X pins σ (upd H s.heap.objs.size (.tup [.int (i : Nat), x])) { s with heap := h'', toks := tk + 1 } :=
      I.turnedNew (ch := [e, it]) (fun b ob hb q => (sb.2 b (fun z => hb (by simp [z]))).trans (hk b ob (fun z => hb (by simp [z])) (fun z => hb (by simp [z])) q)) hf (Nat.le_refl _) new
    refine ⟨.ref s.heap.objs.size, _, I1, rfl, ⟨_, x, rfl, I.hok.fresh (Nat.le_refl _), rfl, fun ys hy => by rw [I.tuple_inj hy hq]; exact hx⟩, ⟨⟨u, ?_⟩, hst.1.at fun o q => (sb.2 it (Ne.symm hne)).trans q, hne⟩, fun b hb => ?_⟩
    · rw [show ((i + 1 : Nat) : Int) = (i : Int) + 1 by omega]; exact he'
    · have hb' : b < s.heap.objs.size := by
        rcases (show b = e ∨ b = it by simpa using hb) with z | z
        · rw [z]; exact hel
        · rw [z]; exact hil
      rw [upd_ne (Nat.ne_of_lt hb')]
      exact (hf b hb).1
  done := by
    intro X hP hw hK hc i pins s σ H E I hf st hg
    subst hP hw hK
    obtain ⟨⟨old, he⟩, hit, hne⟩ := st
    obtain ⟨xs, hq, hx⟩ := hg
    obtain ⟨its, rv, pt, hz⟩ := I.tuple hq
    have ptu : s.heap.IsTuple a its.toArray := pt
    obtain ⟨f0, f1, f2, f3, f4, f5⟩ := hf it (by simp)
    have hl := rv.length
    have hT : s.TypeIs (.ref e) "enumerate" := ⟨_, he, rfl⟩
    unfold pyNext
    refine wpAny_bind (wpAny_attempt (wpAny_callSpecial?_slot (name := Str.ofString "__next__") hT PySem.F.slot_enumerate_next (wpAny_call_entry PySem.F.slot_enumerate_next hT PySem.F.entry_enumerate_next ?_ (PySem.F.args_enumerate_next_1 _))))
    show wpAny _ _ (field (.ref e) 2 >>= _) _ _ _
    refine wpAny_bind (wpAny_field he rfl (x := .ref it) rfl (wpAny_bind (wpAny_nextOf_tuple_end (I.ok.hd hc) hit ptu (by simp; omega) fun h' x he' hx' => ?_)))
    obtain ⟨o, ho, hcl⟩ := hx'
    refine wpAny_bind (wpAny_isInstance (T := "StopIteration") (b := true) ⟨o, ho, hcl⟩ isSubtype_stop (wpAny_pure ?_))
    exact ⟨rfl, I.turned (t' := s.toks) (fun b o hb q => he' b o hb q) f0 f1 f3 f4 f5⟩
  self := fun A i s Q E st h => let ⟨⟨_, he⟩, _⟩ := st; wpAny_pyIter_enum he h
def iEnumT (K : PySem.W.Frag) (ta : TA) : TI := fun σ H R => ta σ H fun vs H1 => ∃ a xs, vs = [.ref a] ∧ SqT K H1 a xs ∧ R (IteT K a) H1
theorem pi_enumT {X : Cx} {e : Expr} {ta : TA} {p pos tpos : Pos} {elts : List Expr} {kk : Nat} (hg : Gl X "enumerate") (hm : X.mg "enumerate" = none) (ha : PA X [e] ta) (hs : starEach [e] X.env = [(false, eval e X.env)] := by rfl) :
    PI X (.Tuple elts kk tpos) (.Call (.Name "enumerate" p) [e] [] pos) (iEnumT X.K ta) := by
  refine ⟨fun pins s σ H R I h => ?_⟩
  refine Call_ (ld_blt I hg hm boot_enumerate (PyProof.Rows.callWith_type1 (thn (ha.run pos pins s σ H _ I h) fun us s1 ⟨vs, H1, I1, r1, q1⟩ => ?_) hs rfl))
  obtain ⟨a, xs, ex, hq, q⟩ := q1
  subst ex
  cases r1 with
  | cons r rr =>
    cases rr
    cases r
    obtain ⟨its, rv, pt, hz⟩ := I1.tuple hq
    have ptu : s1.heap.IsTuple a its.toArray := pt
    have hal : a < s1.heap.objs.size := by obtain ⟨_, z, _⟩ := id ptu; exact Heap.lt_size z
    refine call_enumT ptu fun h' he hit hk => wpAny_pyIter_enum he ?_
    have I2 : Inv X pins σ H1 { s1 with heap := h' } := I1.kept (t' := s1.toks) hk
    refine ⟨s1.heap.objs.size + 1, [s1.heap.objs.size + 1, s1.heap.objs.size], _, _, H1, rfl, I2, turn_enumT a (s1.heap.objs.size + 1) s1.heap.objs.size (Nat.ne_of_lt hal) (Nat.ne_of_lt (Nat.lt_succ_of_lt hal)), ⟨⟨.none, he⟩, hit, Nat.succ_ne_self _⟩, fun b hb => ?_, q⟩
    have hle : s1.heap.objs.size ≤ b := by
      rcases (show b = s1.heap.objs.size + 1 ∨ b = s1.heap.objs.size by simpa using hb) with z | z
      · rw [z]; exact Nat.le_add_right _ _
      · rw [z]; exact Nat.le_refl _
    exact I1.fpOk hle (I1.hok.fresh hle)
section
variable {X : Cx} {cl : Str → Option Addr} {W : WX} {G : Gx}
theorem good_enumT {H0 : Hp} {ρ0 : Rho} {a : Addr} {vs : List V} {ds : List D} (hs : TpA G H0 a vs) (rs : RVs G H0 ρ0 ds vs) : Good (IteT G.K a) G (enumD 0 ds) ρ0 H0 := by
  intro H ρ mo i
  have hl := (mo.tup _ _ hs).1
  have rs' := rs.mo mo
  refine ⟨fun d hd => ?_, fun hi => ⟨vs, hl, by rw [rs.length]; rw [enumD_len] at hi; exact hi⟩⟩
  rw [enumD_get] at hd
  cases e : ds[i]? with
  | none => rw [e] at hd; cases hd
  | some d0 =>
    rw [e] at hd
    cases hd
    obtain ⟨v, hv, rv⟩ := rs'.get e
    refine ⟨⟨vs, v, hl, hv⟩, fun x H' y ⟨M, S⟩ => ?_⟩
    obtain ⟨T, x', rfl, hT, rfl, y⟩ := y
    have e := y vs hl
    rw [hv] at e; cases e
    refine ⟨Ext.new S hT, fun M' S' => S'.new hT, .tup (TpA.of upd_same) (.cons ?_ (.one (rv.mono (Ext.new S hT))))⟩
    have e0 : ((0 + i : Nat) : Int) = (i : Nat) := by omega
    rw [e0]; exact .int _
/-- enumerate over a list or a tuple -/
def dEnumA (fa : DA) : DA := fun env M => (fa env M).bind fun ds M1 => match ds with
  | [.lst l] => .ok (enumD 0 l) M1
  | [.tup l] => .ok (enumD 0 l) M1
  | _ => .bad
end
end Ip
end
section
set_option Elab.async false
set_option linter.all false
set_option maxRecDepth 100000
set_option maxHeartbeats 4000000
set_option autoImplicit false
namespace Ip
open PySem PyProof.Rows L2
section
variable {X : Cx} {cl : Str → Option Addr} {W : WX} {G : Gx}
theorem se_cval {x f : Str} {C : Addr} {mc : Value} {v : V} {u : Value} {d : D} {p pos : Pos} (hg : Gl X x) (hm : X.mg x = some (.ref C)) (r : ClX.CRead X.K C mc) (c : ClX.CVal X.K C mc f v u) (hr : ∀ H ρ, RV (gx X cl) H ρ d v)
    (hd : (x == ("__debug__" : Str)) = false := by decide) (hb : attributeBase (.Name x p) f X.env (eval (.Name x p) X.env) = eval (.Name x p) X.env := by rfl) : SE X cl W (.Attribute (.Name x p) f pos) (dC d) :=
  PEweak (ClX.pe_cval (pe_glob (v := .ref C) hg hm rfl hd) hb) fun σ H Q ⟨ρ, env, M, hE, hS, q⟩ => ⟨C, mc, v, u, rfl, r, c, q ρ v H .refl hS (hr H ρ)⟩
end
end Ip
end
section
set_option Elab.async false
set_option linter.all false
set_option maxRecDepth 100000
set_option maxHeartbeats 4000000
set_option autoImplicit false
namespace Ip
open PySem PyProof.Rows L2
def celL (o : Option Cell) : Option (List D) := match o with
  | some (.lst l) => some l
  | _ => none
inductive Src where
  | items (l : List D) | cell (n : Nat) | ecell (n : Nat)
def Src.at_ : Src → Nat → Sto → Option (Option D)
  | .items l, i, _ => some l[i]?
  | .cell n, i, M => (celL M[n]?).map fun l => l[i]?
  | .ecell n, i, M => (celL M[n]?).map fun l => (l[i]?).map fun d => .tup [.int (i : Nat), d]
def Good2 (J : It) (G : Gx) (src : Src) (ρ0 : Rho) (H0 : Hp) : Prop := ∀ (H : Hp) (ρ : Rho) (M : Sto), Mo G H0 ρ0 H ρ → RS G H ρ M → ∀ i : Nat,
  (∀ d, src.at_ i M = some (some d) → J.go i H ∧ ∀ x H', J.yld i H x H' → Ext G H ρ H' ρ ∧ RS G H' ρ M ∧ RV G H' ρ d x) ∧ (src.at_ i M = some none → J.stop i H)
abbrev DI := En → Sto → Out Src
def dI2 (G : Gx) (W : WX) (f : DI) : TI := fun σ H R => ∃ ρ env M, RE G H ρ env σ ∧ RS G H ρ M ∧ (f env M).post (fun src M' => ∀ ρ' H' J, Ext G H ρ H' ρ' → RS G H' ρ' M' → Good2 J G src ρ' H' → R J H') (eP G W H ρ)
def SI2 (X : Cx) (cl : Str → Option Addr) (W : WX) (tg iter : Expr) (f : DI) : Prop := PI X tg iter (dI2 (gx X cl) W f)
def forS (t : DG) (fb : DS) (src : Src) : Nat → Nat → DS
  | 0, _, _, _ => .bad
  | f + 1, i, env, M => match src.at_ i M with
    | none => .bad
    | some none => .ok (.nx env) M
    | some (some d) => match t d env with
      | none => .bad
      | some env1 => (fb env1 M).bind fun fl M1 => match fl with
        | .nx e => forS t fb src f (i + 1) e M1
        | .ct e => forS t fb src f (i + 1) e M1
        | .bk e => .ok (.nx e) M1
        | .rt d => .ok (.rt d) M1
def dForS (t : DG) (fi : DI) (fb : DS) : DS := fun env M => (fi env M).bind fun src M1 => forS t fb src 20000000 0 env M1
section
variable {X : Cx} {cl : Str → Option Addr} {W : WX} {G : Gx}
theorem ss_forS {tg iter : Expr} {body : List Stmt} {t : DG} {fi : DI} {fb : DS} {pos : Pos} (hp : PassesOwn (model X.prog X.w) X.A X.env X.xe) (hc : X.calm = true) (hi : SI2 X cl W tg iter fi) (hg : SG X cl tg t) (hb : SSs X cl W body fb)
    (hs : ∀ x, foldedSetIterable iter X.env x = pure x := by intro _; rfl) : SS X cl W (.For tg iter body [] pos) (dForS t fi fb) :=
  PSweak (ps_for hp hc hi hg hb hs) fun D σ H ⟨ρ, env, M, hE, hS, h⟩ => by
    refine ⟨ρ, env, M, hE, hS, (post_bind h).imp (fun src M1 hx ρ1 H1 J e1 S1 good => ?_) (fun _ _ _ z => z)⟩
    refine ⟨fun i m σ H => ∃ ρ env M, Ext (gx X cl) H1 ρ1 H ρ ∧ RE (gx X cl) H ρ env σ ∧ RS (gx X cl) H ρ M ∧ (forS t fb src m i env M).post (sP (gx X cl) H ρ D) (eP (gx X cl) W H ρ),
      ⟨20000000, ρ1, env, M1, .refl, hE.mono e1, S1, Out.post.imp hx (fun _ _ z => sP.sh e1 z) (fun _ _ _ z => eP.sh e1 z)⟩, ?_⟩
    rintro i m σ' H' ⟨ρ', env', M', x1, E', S', q⟩
    obtain ⟨g1, g2⟩ := good H' ρ' M' x1.mo S' i
    cases m with
    | zero => exact q.elim
    | succ m =>
      unfold forS at q
      split at q
      · exact q.elim
      · rename_i hat
        exact .inl ⟨g2 hat, q ρ' σ' H' .refl S' E'⟩
      · rename_i d hat
        obtain ⟨go, yl⟩ := g1 d hat
        refine .inr ⟨go, fun σ H => ∃ ρ env M, Ext (gx X cl) H1 ρ1 H ρ ∧ RE (gx X cl) H ρ env σ ∧ RS (gx X cl) H ρ M ∧ (forS t fb src m (i + 1) env M).post (sP (gx X cl) H ρ D) (eP (gx X cl) W H ρ),
          fun σ2 H2 n2 => ⟨m, Nat.lt_succ_self _, n2⟩, fun x H2 y => ?_⟩
        obtain ⟨x2, rs2, r2⟩ := yl x H2 y
        split at q
        · exact q.elim
        · rename_i env1 he1
          refine ⟨ρ', env', d, env1, E'.mono x2, r2, he1, fun σ3 E3 => ?_⟩
          refine ⟨ρ', env1, M', E3, rs2, (post_bind q).imp (fun fl M4 h4 => ?_) (fun _ _ _ z => eP.sh x2 z)⟩
          cases fl with
          | nx e => exact fun ρ5 σ5 H5 x5 S5 E5 => ⟨ρ5, e, M4, x1.trans (x2.trans x5), E5, S5, Out.post.imp h4 (fun _ _ z => sP.sh (x2.trans x5) z) (fun _ _ _ z => eP.sh (x2.trans x5) z)⟩
          | ct e => exact fun ρ5 σ5 H5 x5 S5 E5 => ⟨ρ5, e, M4, x1.trans (x2.trans x5), E5, S5, Out.post.imp h4 (fun _ _ z => sP.sh (x2.trans x5) z) (fun _ _ _ z => eP.sh (x2.trans x5) z)⟩
          | bk e => exact nP.sh x2 h4
          | rt d => exact oP.sh x2 h4
theorem good2_of {J : It} {l : List D} {ρ0 : Rho} {H0 : Hp} (g : Good J G l ρ0 H0) : Good2 J G (.items l) ρ0 H0 := fun H ρ M mo S i => by
  obtain ⟨g1, g2⟩ := g H ρ mo i
  refine ⟨fun d hd => ?_, fun hn => g2 ?_⟩
  · obtain ⟨go, yl⟩ := g1 d (Option.some.inj hd)
    exact ⟨go, fun x H' y => let ⟨a, b, c⟩ := yl x H' y ⟨M, S⟩; ⟨a, b M S, c⟩⟩
  · exact List.getElem?_eq_none_iff.mp (Option.some.inj hn)
theorem cell_at {H : Hp} {ρ : Rho} {M : Sto} {n : Nat} {a : Addr} {l : List D} (S : RS G H ρ M) (ha : ρ.c[n]? = some a) (h : celL M[n]? = some l) : ∃ vs, H a = some (.lst vs) ∧ RVs G H ρ l vs := by
  cases e : M[n]? with
  | none => rw [e] at h; cases h
  | some c =>
    rw [e] at h
    cases c with
    | lst l' =>
      cases h
      obtain ⟨b, hb, vs, q, r⟩ := S.at_ _ _ e
      rw [ha] at hb; cases hb
      exact ⟨vs, q, r⟩
    | ins _ _ _ => cases h
    | dK _ _ => cases h
    | dT _ _ => cases h
theorem good2_cell {ρ0 : Rho} {H0 : Hp} {n : Nat} {a : Addr} (ha : ρ0.c[n]? = some a) : Good2 (Itl G.K a) G (.cell n) ρ0 H0 := fun H ρ M mo S i => by
  have ha' := mo.pre n a ha
  refine ⟨fun d hd => ?_, fun hn => ?_⟩
  · have hd' : (celL M[n]?).map (fun l => l[i]?) = some (some d) := hd
    cases e : celL M[n]? with
    | none => rw [e] at hd'; cases hd'
    | some l =>
      rw [e] at hd'
      have hi : l[i]? = some d := Option.some.inj hd'
      obtain ⟨vs, hv, rs⟩ := cell_at S ha' e
      obtain ⟨v, hvi, rv⟩ := rs.get hi
      refine ⟨⟨vs, v, SqL.of hv, hvi⟩, fun x H' y => ?_⟩
      obtain ⟨rfl, y⟩ := y
      have q := y vs (SqL.of hv)
      rw [hvi] at q; cases q
      exact ⟨.refl, S, rv⟩
  · have hn' : (celL M[n]?).map (fun l => l[i]?) = some none := hn
    cases e : celL M[n]? with
    | none => rw [e] at hn'; cases hn'
    | some l =>
      rw [e] at hn'
      have hi : l[i]? = none := Option.some.inj hn'
      obtain ⟨vs, hv, rs⟩ := cell_at S ha' e
      exact ⟨vs, SqL.of hv, by rw [rs.length]; exact List.getElem?_eq_none_iff.mp hi⟩
theorem good2_ecell {ρ0 : Rho} {H0 : Hp} {n : Nat} {a : Addr} (ha : ρ0.c[n]? = some a) : Good2 (Ite G.K a) G (.ecell n) ρ0 H0 := fun H ρ M mo S i => by
  have ha' := mo.pre n a ha
  refine ⟨fun d hd => ?_, fun hn => ?_⟩
  · have hd' : (celL M[n]?).map (fun l => (l[i]?).map fun d => D.tup [.int (i : Nat), d]) = some (some d) := hd
    cases e : celL M[n]? with
    | none => rw [e] at hd'; cases hd'
    | some l =>
      rw [e] at hd'
      have hi : (l[i]?).map (fun d => D.tup [.int (i : Nat), d]) = some d := Option.some.inj hd'
      cases e2 : l[i]? with
      | none => rw [e2] at hi; cases hi
      | some d0 =>
        rw [e2] at hi; cases hi
        obtain ⟨vs, hv, rs⟩ := cell_at S ha' e
        obtain ⟨v, hvi, rv⟩ := rs.get e2
        refine ⟨⟨vs, v, SqL.of hv, hvi⟩, fun x H' y => ?_⟩
        obtain ⟨T, x', rfl, hT, rfl, y⟩ := y
        have q := y vs (SqL.of hv)
        rw [hvi] at q; cases q
        exact ⟨Ext.new S hT, S.new hT, .tup (TpA.of upd_same) (.cons (.int _) (.one (rv.mono (Ext.new S hT))))⟩
  · have hn' : (celL M[n]?).map (fun l => (l[i]?).map fun d => D.tup [.int (i : Nat), d]) = some none := hn
    cases e : celL M[n]? with
    | none => rw [e] at hn'; cases hn'
    | some l =>
      rw [e] at hn'
      have hi : (l[i]?).map (fun d => D.tup [.int (i : Nat), d]) = none := Option.some.inj hn'
      have hi' : l[i]? = none := by
        cases e2 : l[i]? with
        | none => rfl
        | some d0 => rw [e2] at hi; cases hi
      obtain ⟨vs, hv, rs⟩ := cell_at S ha' e
      exact ⟨vs, SqL.of hv, by rw [rs.length]; exact List.getElem?_eq_none_iff.mp hi'⟩
def srcD (x : D) (M : Sto) : Option Src := match x with
  | .ref n => (celL M[n]?).map fun _ => .cell n
  | x => (iterD x).map .items
def dIter2 (fe : DE) : DI := fun env M => (fe env M).bind fun x M1 => match srcD x M1 with
  | some s => .ok s M1
  | none => .bad
theorem si2_iter {tg e : Expr} {fe : DE} (he : SE X cl W e fe) : SI2 X cl W tg e (dIter2 fe) :=
  PIweak (PI.or (pi_list he) (pi_tup he)) fun σ H R ⟨ρ, env, M, hE, hS, h⟩ => by
    have h' := post_bind h
    cases hf : fe env M with
    | bad => rw [hf] at h'; exact h'.elim
    | exc e ev M1 => exact .inl ⟨ρ, env, M, hE, hS, by rw [hf] at h' ⊢; exact h'⟩
    | ok d M1 =>
      rw [hf] at h'
      cases d with
      | lst l => exact .inl ⟨ρ, env, M, hE, hS, by
          rw [hf]
          intro ρ1 v H1 e1 S1 r1
          cases r1 with
          | lst hs hn rs => exact ⟨_, rfl, ⟨_, SqL.of hs⟩, h' ρ1 H1 _ e1 S1 (good2_of (good_lst (G := gx X cl) hs hn rs))⟩⟩
      | scr ns => exact .inl ⟨ρ, env, M, hE, hS, by
          rw [hf]
          intro ρ1 v H1 e1 S1 r1
          cases r1 with
          | scr hs =>
            refine ⟨_, rfl, ⟨ns.map V.int, ?_⟩, h' ρ1 H1 _ e1 S1 (good2_of (good_scr (G := gx X cl) hs))⟩
            rcases hs with ⟨h, _⟩ | h
            · exact .inl h
            · exact h H1⟩
      | tup l => exact .inr ⟨ρ, env, M, hE, hS, by
          rw [hf]
          intro ρ1 v H1 e1 S1 r1
          cases r1 with
          | tup hs rs => exact ⟨_, rfl, ⟨_, hs.1⟩, h' ρ1 H1 _ e1 S1 (good2_of (good_tup (G := gx X cl) hs rs))⟩⟩
      | ref n =>
        change (match (celL M1[n]?).map (fun _ => Src.cell n) with
          | some s => Out.ok s M1
          | none => .bad).post _ _ at h'
        cases hc : celL M1[n]? with
        | none => rw [hc] at h'; exact h'.elim
        | some l =>
          rw [hc] at h'
          exact .inl ⟨ρ, env, M, hE, hS, by
            rw [hf]
            intro ρ1 v H1 e1 S1 r1
            cases r1 with
            | ref ha =>
              obtain ⟨vs, hv, _⟩ := cell_at S1 ha hc
              exact ⟨_, rfl, ⟨_, SqL.of hv⟩, h' ρ1 H1 _ e1 S1 (good2_cell (G := gx X cl) ha)⟩⟩
      | _ => exact h'.elim
def esrcD (x : D) (M : Sto) : Option Src := match x with
  | .ref n => (celL M[n]?).map fun _ => .ecell n
  | .lst l => some (.items (enumD 0 l))
  | .tup l => some (.items (enumD 0 l))
  | _ => none
def dEnum2 (fe : DE) : DI := fun env M => (fe env M).bind fun x M1 => match esrcD x M1 with
  | some s => .ok s M1
  | none => .bad
theorem si2_enum {e : Expr} {fe : DE} {p pos tpos : Pos} {elts : List Expr} {kk : Nat} (hg : Gl X "enumerate") (hm : X.mg "enumerate" = none) (he : SE X cl W e fe) (hst : starEach [e] X.env = (false, eval e X.env) :: starEach [] X.env := by rfl) (hs : starEach [e] X.env = [(false, eval e X.env)] := by rfl) :
    SI2 X cl W (.Tuple elts kk tpos) (.Call (.Name "enumerate" p) [e] [] pos) (dEnum2 fe) :=
  PIweak (PI.or (pi_enum hg hm (sa_cons (cl := cl) (W := W) he sa_nil hst) hs) (pi_enumT hg hm (sa_cons (cl := cl) (W := W) he sa_nil hst) hs)) fun σ H R ⟨ρ, env, M, hE, hS, h⟩ => by
    have h' := post_bind h
    cases hf : fe env M with
    | bad => rw [hf] at h'; exact h'.elim
    | exc e ev M1 => exact .inl ⟨ρ, env, M, hE, hS, by unfold dConsA; rw [hf] at h' ⊢; exact h'⟩
    | ok d M1 =>
      rw [hf] at h'
      have fa : dConsA fe dNilA env M = .ok [d] M1 := by unfold dConsA; rw [hf]; rfl
      cases d with
      | lst l => exact .inl ⟨ρ, env, M, hE, hS, by
          rw [fa]
          intro ρ1 vs H1 e1 S1 r1
          cases r1 with
          | cons q1 q2 =>
            cases q2
            cases q1 with
            | lst hs hn rs => exact ⟨_, _, rfl, SqL.of hs, h' ρ1 H1 _ e1 S1 (good2_of (good_enum (G := gx X cl) hs hn rs))⟩⟩
      | tup l => exact .inr ⟨ρ, env, M, hE, hS, by
          rw [fa]
          intro ρ1 vs H1 e1 S1 r1
          cases r1 with
          | cons q1 q2 =>
            cases q2
            cases q1 with
            | tup hs rs => exact ⟨_, _, rfl, hs.1, h' ρ1 H1 _ e1 S1 (good2_of (good_enumT (G := gx X cl) hs rs))⟩⟩
      | ref n =>
        change (match (celL M1[n]?).map (fun _ => Src.ecell n) with
          | some s => Out.ok s M1
          | none => .bad).post _ _ at h'
        cases hc : celL M1[n]? with
        | none => rw [hc] at h'; exact h'.elim
        | some l =>
          rw [hc] at h'
          exact .inl ⟨ρ, env, M, hE, hS, by
            rw [fa]
            intro ρ1 vs H1 e1 S1 r1
            cases r1 with
            | cons q1 q2 =>
              cases q2
              cases q1 with
              | ref ha =>
                obtain ⟨ws, hv, _⟩ := cell_at S1 ha hc
                exact ⟨_, _, rfl, SqL.of hv, h' ρ1 H1 _ e1 S1 (good2_ecell (G := gx X cl) ha)⟩⟩
      | _ => exact h'.elim
end
/-- a loop by its invariant -/
theorem forS_inv {t : DG} {fb : DS} {src : Src} (n : Nat) (P : Nat → En → Sto → Prop) (hend : ∀ env M, P n env M → src.at_ n M = some none)
    (hstep : ∀ i env M, i < n → P i env M → ∃ d env1 env' M', src.at_ i M = some (some d) ∧ t d env = some env1 ∧ fb env1 M = .ok (.nx env') M' ∧ P (i + 1) env' M') :
    ∀ (k i f : Nat) (env : En) (M : Sto), i + k = n → k < f → P i env M → ∃ env' M', forS t fb src f i env M = .ok (.nx env') M' ∧ P n env' M'
  | 0, i, f + 1, env, M, hi, _, hP => by
    have : i = n := by omega
    subst this
    refine ⟨env, M, ?_, hP⟩
    unfold forS
    rw [hend env M hP]
  | k + 1, i, f + 1, env, M, hi, hf, hP => by
    obtain ⟨d, env1, env', M', h1, h2, h3, h4⟩ := hstep i env M (by omega) hP
    obtain ⟨e2, M2, h5, h6⟩ := forS_inv n P hend hstep k (i + 1) f env' M' (by omega) (by omega) h4
    refine ⟨e2, M2, ?_, h6⟩
    unfold forS
    rw [h1]
    simp only [h2, h3, Out.bind]
    exact h5
  | _, _, 0, _, _, _, h, _ => absurd h (by omega)
end Ip
end
section
set_option Elab.async false
set_option linter.all false
set_option maxRecDepth 100000
set_option maxHeartbeats 4000000
set_option autoImplicit false
namespace Ip
open PySem PySem.Spec PyProof.Rows L2
def dProp (c : Str) (F : DF) (fe : DE) : DE := fun env M => (fe env M).bind fun x M1 => match objOf c x M1 with
  | some _ => noex (F [x] M1)
  | none => .bad
section
variable {X : Cx} {cl : Str → Option Addr} {W : WX} {G : Gx}
theorem se_prop {c f : Str} {C p g : Addr} {k : Nat} {fd : FuncData} {ps : List Str} {F : DF} {e : Expr} {fe : DE} {pos : Pos} (hC : cl c = some C) (he : SE X cl W e fe) (kc : Cls X.K C) (hp : PropOf X.K C f p g) (Fk : FnOk X.prog X.w X.K X.mg X.base CX0 k g fd ps (spD (gx X cl) F)) (hr : Room (k + 1) X.A) (hb : Binds X.K fd ps []) (hab : attributeBase e f X.env (eval e X.env) = eval e X.env := by rfl) : SE X cl W (.Attribute e f pos) (dProp c F fe) :=
  PEweak (pe_prop he kc hp Fk hr hb .nil (E := E0) pass0 hab) fun σ H Q ⟨ρ, env, M, hE, hS, h⟩ => by
    refine ⟨ρ, env, M, hE, hS, (post_bind h).imp (fun x M1 hx ρ1 v H1 e1 S1 r1 => ?_) (fun _ _ _ z => z)⟩
    split at hx
    · rename_i p hp
      obtain ⟨ks, ds⟩ := p
      obtain ⟨a, dx, vs, rfl, ha, hl, rs⟩ := objOf_ok (G := gx X cl) hC S1 r1 hp
      exact ⟨a, dx, _, rfl, ha, ρ1, M1, [x], S1, .one r1, (noexF hx).imp (fun _ _ z => oP.sh e1 z) (fun _ _ _ z => z)⟩
    · exact hx.elim
theorem rv_plain {K : PySem.W.Frag} {cl : Str → Option Addr} {a b : Addr} {od oe : Option Addr} {n m : Nat} {sl sm : Array (Option Value)} {t1 t2 : Tok}
    (h1 : K.lookup a = some ⟨.type "tuple", od, .seq #[.ref b] n, sl⟩) (h2 : K.lookup b = some ⟨.type "tuple", oe, .seq #[.str "old" t1, .int 0 t2, .none] m, sm⟩) (H : Hp) (ρ : Rho) :
    RV ⟨K, cl⟩ H ρ (.tup [.tup [.str "old", .int 0, .non]]) (.ref a) :=
  .tup (vs := [.ref b]) (.no (.inr ⟨_, _, _, h1, rfl, rfl, by rw [sizeLine_eq]; exact (by decide : (1 : Nat) ≤ 16777216), .cons rfl .nil⟩) fun z => by obtain ⟨i, e⟩ := z.2 (.ref b) (by simp); cases e)
    (.one (.tup (vs := [.str "old", .int 0, .non]) (.no (.inr ⟨_, _, _, h2, rfl, rfl, by rw [sizeLine_eq]; exact (by decide : (3 : Nat) ≤ 16777216), .cons ⟨t1, rfl⟩ (.cons ⟨t2, rfl⟩ (.cons rfl .nil))⟩) fun z => by obtain ⟨i, e⟩ := z.2 .non (by simp); cases e) (.cons (.str _) (.cons (.int 0) (.cons .non .nil)))))
end
end Ip
end
section
set_option Elab.async false
set_option linter.all false
set_option maxRecDepth 100000
set_option maxHeartbeats 4000000
set_option autoImplicit false
namespace Ip
open PySem PySem.Spec PyProof.Rows L2
/-- what the text must say of a class whose instances have types -/
structure InsT (K : PySem.W.Frag) (C : Addr) : Prop where
  cl : Cls K C
  ha : PySem.W.findIn K (.ref C) "__class__" = some (some (.builtin "object.__class__"))
  hn : PySem.W.specialIn K (.builtin "object.__class__") "__get__" = some (some (.builtin "getset_descriptor.__get__"))
  tk : PySem.W.takesIn K (.builtin "object.__class__") = some true
  hm : PySem.W.mroIn K C (.type "object") = some true
structure EqOwn (K : PySem.W.Frag) (C f : Addr) : Prop where
  it : InsT K C
  eq : PySem.W.findIn K (.ref C) "__eq__" = some (some (.ref f))
  fn : PySem.W.isFn K (.ref f) = true
  ne : PySem.W.findIn K (.ref C) "__ne__" = some (some (.builtin "object.__ne__"))
def mroTys : List String := ["NoneType", "bool", "int", "str", "tuple", "list"]
theorem mro_ok : ∀ t ∈ mroTys, ∃ l : List String, fastBuiltinMro t = some (l.map Value.type) := by
  intro t ht
  simp only [mroTys, List.mem_cons, List.not_mem_nil, or_false] at ht
  rcases ht with rfl | rfl | rfl | rfl | rfl | rfl
  · exact ⟨["NoneType", "object"], by decide +kernel⟩
  · exact ⟨["bool", "int", "object"], by decide +kernel⟩
  · exact ⟨["int", "object"], by decide +kernel⟩
  · exact ⟨["str", "object"], by decide +kernel⟩
  · exact ⟨["tuple", "object"], by decide +kernel⟩
  · exact ⟨["list", "object"], by decide +kernel⟩
theorem sub_own {K : PySem.W.Frag} {C : Addr} {t : String} (ht : t ∈ mroTys) : PySem.W.subIn K (.type t) (.ref C) = some false := by
  obtain ⟨l, e⟩ := mro_ok t ht
  show (fastBuiltinMro t).map (·.contains (.ref C)) = some false
  rw [e, Option.map_some]
  congr 1
  rw [List.contains_eq_any_beq, List.any_eq_false]
  intro v hv
  obtain ⟨n, _, rfl⟩ := List.mem_map.mp hv
  exact fun z => by cases eq_of_beq z
/-- the type of a value beside instances of the class at C -/
theorem tyD_mem {x : D} {M : Sto} {t : String} (h : tyD x M = some t) : t ∈ mroTys := by
  unfold tyD at h
  cases x with
  | ref n =>
    simp only at h
    split at h
    · cases h; decide
    · cases h
  | _ => first | (cases h; decide) | (cases h; done)
section
variable {X : Cx} {cl : Str → Option Addr} {W : WX} {G : Gx}
def rEqO (K : PySem.W.Frag) (C : Addr) (n : Bool) (sp : Sp) : R2 := fun x y H Q => ∃ a dx fs t, x = .ref a ∧ H a = some (.ins C dx fs) ∧ TyX K H y t ∧ PySem.W.notFirst K C t = true ∧ sp [.ref a, y] H (fun v H' => ∃ b, v = .bl b ∧ Q (.bl (if n then !b else b)) H') E0
theorem op_eqO {C f : Addr} {fd : FuncData} {k : Nat} {ps : List Str} {sp : Sp} (F : FnOk X.prog X.w X.K X.mg X.base CX0 k f fd ps sp) (o : EqOwn X.K C f) (hr : Room (k + 1) X.A) (hb : Binds X.K fd ps []) : OpR X (compareOp .Eq) (rEqO X.K C false sp) := by
  intro pins s σ H x y v u Q I rx ry h
  obtain ⟨a, dx, fs, t, rfl, ha, ty, hn, h⟩ := h
  cases rx
  obtain ⟨mA, O, _⟩ := ins_get I.hok ha
  obtain ⟨od, J, _⟩ := O.look
  obtain ⟨m, hF⟩ := I.fr
  obtain ⟨P, Z, p, _⟩ := kit_of I ry ty
  show wpAny (model X.prog X.w) X.A (richCompare .Eq (.ref a) u) (EP X pins σ Q) X.xe s
  refine PySem.W.cmp_K (op := .Eq) (tb := t) hr.units0 hF I.ok.mod.kin J (Z.ty _ _ I.kIn p) hn o.eq o.fn ?_
  refine thn (run_fn (vs := [.ref a, y]) F (hr.mono (Nat.le_succ k)) hb .nil (E := E0) pass0 I (.cons rfl (.cons ry .nil)) h) fun w s1 ⟨z, H1, I1, rz, b, ez, q⟩ => ?_
  subst ez
  cases rz
  exact ⟨.bl b, H1, I1, rfl, q⟩
end
end Ip
end
section
set_option Elab.async false
set_option linter.all false
set_option maxRecDepth 100000
set_option maxHeartbeats 4000000
set_option autoImplicit false
namespace Ip
open PySem PySem.Spec PyProof.Rows L2
/-- what is compared with an instance: another one, or a plain value -/
def hasTy (c : Str) (y : D) (M : Sto) : Bool := (objOf c y M).isSome || (tyD y M).isSome
def dEqO (c : Str) (n : Bool) (F : DF) (fa fb : DE) : DE := fun env M => (fa env M).bind fun x M1 => (fb env M1).bind fun y M2 => match objOf c x M2, hasTy c y M2 with
  | some _, true => (noex (F [x, y] M2)).bind fun d M3 => match d with
    | .bl b => .ok (.bl (if n then !b else b)) M3
    | _ => .bad
  | _, _ => .bad
def gIsiO (c : Str) : D → Sto → Option (D × Sto) := fun x M => match objOf c x M with
  | some _ => some (.bl true, M)
  | none => match tyD x M with
    | some _ => some (.bl false, M)
    | none => none
section
variable {X : Cx} {cl : Str → Option Addr} {W : WX} {G : Gx}
theorem hasTy_ok {c : Str} {C : Addr} (hC : G.cl c = some C) (it : InsT G.K C) {H : Hp} {ρ : Rho} {M : Sto} {y : D} {v : V} (S : RS G H ρ M) (r : RV G H ρ y v) (h : hasTy c y M = true) : ∃ t, TyX G.K H v t ∧ PySem.W.notFirst G.K C t = true := by
  unfold hasTy at h
  cases ho : objOf c y M with
  | some p =>
    obtain ⟨ks, ds⟩ := p
    obtain ⟨a, dx, vs, rfl, ha, _⟩ := objOf_ok hC S r ho
    exact ⟨.ref C, .base (.ins ha it.cl it.ha it.hn it.tk it.hm), by simp [PySem.W.notFirst]⟩
  | none =>
    rw [ho] at h
    cases ht : tyD y M with
    | none => rw [ht] at h; cases h
    | some t =>
      refine ⟨.type t, tyD_ok S r ht, ?_⟩
      unfold PySem.W.notFirst
      rw [sub_own (tyD_mem ht)]
      simp
theorem eqO_ok {c : Str} {C f : Addr} {n : Bool} {F : DF} {fa fb : DE} (hC : cl c = some C) (it : InsT X.K C) {σ : L2.St} {H : Hp} {Q : VK} (h : dE (gx X cl) W (dEqO c n F fa fb) σ H Q) : tOp (rEqO X.K C n (spD (gx X cl) F)) (dE (gx X cl) W fa) (dE (gx X cl) W fb) σ H Q := by
  obtain ⟨ρ, env, M, hE, hS, h⟩ := h
  refine ⟨ρ, env, M, hE, hS, (post_bind h).imp (fun x M1 hx ρ1 v H1 e1 S1 r1 => ?_) (fun _ _ _ z => z)⟩
  refine ⟨ρ1, env, M1, hE.mono e1, S1, (post_bind hx).imp (fun y M2 hy ρ2 w H2 e2 S2 r2 => ?_) (fun _ _ _ z => eP.sh e1 z)⟩
  split at hy
  · rename_i p ho ht
    obtain ⟨ks, ds⟩ := p
    obtain ⟨a, dx, vs, rfl, ha, _⟩ := objOf_ok (G := gx X cl) hC S2 (r1.mono e2) ho
    obtain ⟨t, ty, nf⟩ := hasTy_ok (G := gx X cl) hC it S2 r2 ht
    refine ⟨a, dx, _, t, rfl, ha, ty, nf, ρ2, M2, [x, y], S2, .two (r1.mono e2) r2, (noexF (post_bind hy)).imp (fun d M3 hd ρ3 v3 H3 e3 S3 r3 => ?_) (fun _ _ _ z => z)⟩
    cases r3 with
    | bl b => exact ⟨b, rfl, hd ρ3 _ H3 (e1.trans (e2.trans e3)) S3 (.bl _)⟩
    | _ => exact hd.elim
  · exact hy.elim
theorem se_eqO {c : Str} {C f : Addr} {k : Nat} {fd : FuncData} {ps : List Str} {F : DF} {a b : Expr} {fa fb : DE} {pos : Pos} (hC : cl c = some C) (o : EqOwn X.K C f) (Fk : FnOk X.prog X.w X.K X.mg X.base CX0 k f fd ps (spD (gx X cl) F)) (hr : Room (k + 1) X.A) (hb : Binds X.K fd ps []) (ha : SE X cl W a fa) (hb' : SE X cl W b fb) :
    SE X cl W (.Compare a [.Eq] [b] pos) (dEqO c false F fa fb) :=
  PEweak (pe_cmpR (op_eqO Fk o hr hb) ha hb' (nomark _)) fun σ H Q h => eqO_ok (f := f) hC o.it h
theorem kit_same {K : PySem.W.Frag} {C : Addr} : PySem.W.kitOne K (.ref C) (.ref C) = some true := by
  unfold PySem.W.kitOne
  rw [if_pos (by simp)]
theorem kit_other {K : PySem.W.Frag} {C : Addr} {t : String} (k : Cls K C) (ty : PySem.W.typeIn K (.ref C) = some (.type "type")) (ht : t ∈ mroTys) : PySem.W.kitOne K (.type t) (.ref C) = some false := by
  unfold PySem.W.kitOne
  rw [if_neg (by simp)]
  show (if ((PySem.W.clsIn K C).isSome && PySem.W.typeIn K (.ref C) == some (.type "type")) = true then PySem.W.subIn K (.type t) (.ref C) else none) = some false
  have hc : (PySem.W.clsIn K C).isSome = true := by
    obtain ⟨cd, hc, _⟩ := PySem.W.any_some k.hd
    rw [hc]
    rfl
  rw [hc, ty, sub_own ht]
  simp
theorem se_isiO {c : Str} {C : Addr} {x : Str} {e : Expr} {fe : DE} {p p2 pos : Pos} (hC : cl c = some C) (it : InsT X.K C) (ty : PySem.W.typeIn X.K (.ref C) = some (.type "type")) (hg : Gl X "isinstance") (hm : X.mg "isinstance" = none) (hgT : Gl X x) (hmT : X.mg x = some (.ref C)) (he : SE X cl W e fe)
    (hdT : (x == ("__debug__" : Str)) = false := by decide)
    (h1 : starEach [e, .Name x p2] X.env = (false, eval e X.env) :: starEach [.Name x p2] X.env := by rfl) (h2 : starEach [.Name x p2] X.env = (false, eval (.Name x p2) X.env) :: starEach [] X.env := by rfl) (hpl : (backTo pos (starEach [.Name x p2] X.env)).any (·.1) = false := by rfl) :
    SE X cl W (.Call (.Name "isinstance" p) [e, .Name x p2] [] pos) (dUn (gIsiO c) fe) :=
  PEweak (pe_callB call_isi hg hm (by decide +kernel) (pa_cons he (pa_cons (pe_glob (v := .ref C) hgT hmT rfl hdT) pa_nil h2) h1) (by decide) (by decide) h1 hpl) fun σ H Q ⟨ρ, env, M, hE, hS, h⟩ => by
    refine ⟨ρ, env, M, hE, hS, (post_bind h).imp (fun y M1 hx ρ1 v H1 e1 S1 r1 => ?_) (fun _ _ _ z => z)⟩
    obtain ⟨d, M', eq, q⟩ := lift_some hx
    unfold gIsiO at eq
    split at eq
    · rename_i p hp
      obtain ⟨ks, ds⟩ := p
      cases eq
      obtain ⟨a, dx, vs, rfl, ha, _⟩ := objOf_ok (G := gx X cl) hC S1 r1 hp
      exact ⟨_, .ref C, .ref C, .ref C, true, rfl, .own C, .base (.ins ha it.cl it.ha it.hn it.tk it.hm), kit_same, q ρ1 _ H1 e1 S1 (.bl _)⟩
    · split at eq
      · rename_i t ht
        cases eq
        exact ⟨v, .ref C, .type t, .ref C, false, rfl, .own C, tyD_ok (G := gx X cl) S1 r1 ht, kit_other it.cl ty (tyD_mem ht), q ρ1 _ H1 e1 S1 (.bl _)⟩
      · cases eq
end
end Ip
end
section
set_option Elab.async false
set_option linter.all false
set_option maxRecDepth 100000
set_option maxHeartbeats 4000000
set_option autoImplicit false
namespace Ip
open PySem PySem.Spec PyProof.Rows L2
def zipD : List D → List D → List D
  | x :: xs, y :: ys => .tup [x, y] :: zipD xs ys
  | _, _ => []
theorem zipD_get : ∀ {xs ys : List D} {i : Nat} {d : D}, (zipD xs ys)[i]? = some d → ∃ x y, xs[i]? = some x ∧ ys[i]? = some y ∧ d = .tup [x, y]
  | [], _, _, _, h => by simp [zipD] at h
  | _ :: _, [], _, _, h => by simp [zipD] at h
  | x :: xs, y :: ys, 0, d, h => by
    simp [zipD] at h
    exact ⟨x, y, rfl, rfl, h.symm⟩
  | x :: xs, y :: ys, i + 1, d, h => by
    simp only [zipD, List.getElem?_cons_succ] at h
    obtain ⟨a, b, h1, h2, h3⟩ := zipD_get h
    exact ⟨a, b, by simpa using h1, by simpa using h2, h3⟩
theorem zipD_len : ∀ {xs ys : List D}, (zipD xs ys).length = min xs.length ys.length
  | [], ys => by simp [zipD]
  | x :: xs, [] => by simp [zipD]
  | x :: xs, y :: ys => by simp [zipD, zipD_len]
section
variable {X : Cx} {cl : Str → Option Addr} {W : WX} {G : Gx}
theorem good_zip {H0 : Hp} {ρ0 : Rho} {a b : Addr} {vs ws : List V} {ds es : List D} (hs : H0 a = some (.lst vs)) (hn : a ∉ ρ0) (rs : RVs G H0 ρ0 ds vs) (hs' : H0 b = some (.lst ws)) (hn' : b ∉ ρ0) (rs' : RVs G H0 ρ0 es ws) : Good (Itz G.K a b) G (zipD ds es) ρ0 H0 := by
  intro H ρ mo i
  have hl := (mo.keep _ _ hn (by first | exact .l | exact .f) hs).1
  have hl' := (mo.keep _ _ hn' (by first | exact .l | exact .f) hs').1
  have q := rs.mo mo
  have q' := rs'.mo mo
  refine ⟨fun d hd => ?_, fun hi => ⟨vs, ws, SqL.of hl, SqL.of hl', ?_⟩⟩
  · obtain ⟨x, y, h1, h2, rfl⟩ := zipD_get hd
    obtain ⟨v, hv, rv⟩ := q.get h1
    obtain ⟨w, hw, rw'⟩ := q'.get h2
    refine ⟨⟨vs, ws, v, w, SqL.of hl, SqL.of hl', hv, hw⟩, fun z H' yl ⟨M, S⟩ => ?_⟩
    obtain ⟨T, x', y', rfl, hT, rfl, y1, y2⟩ := yl
    have e1 := y1 vs (SqL.of hl)
    have e2 := y2 ws (SqL.of hl')
    rw [hv] at e1; cases e1
    rw [hw] at e2; cases e2
    exact ⟨Ext.new S hT, fun M' S' => S'.new hT, .tup (TpA.of upd_same) (.two (rv.mono (Ext.new S hT)) (rw'.mono (Ext.new S hT)))⟩
  · rw [zipD_len] at hi
    rw [rs.length, rs'.length]
    omega
def dZip (fa : DA) : DA := fun env M => (fa env M).bind fun ds M1 => match ds with
  | [.lst xs, .lst ys] => .ok (zipD xs ys) M1
  | _ => .bad
theorem si_zip {e e2 : Expr} {fa : DA} {p pos tpos : Pos} {elts : List Expr} {kk : Nat} (hg : Gl X "zip") (hm : X.mg "zip" = none) (ha : SA X cl W [e, e2] fa) (hs : starEach [e, e2] X.env = (false, eval e X.env) :: starEach [e2] X.env := by rfl) (hpl : (backTo pos (starEach [e2] X.env)).any (·.1) = false := by rfl) :
    SI X cl W (.Tuple elts kk tpos) (.Call (.Name "zip" p) [e, e2] [] pos) (dZip fa) :=
  PIweak (pi_zip hg hm ha hs hpl) fun σ H R ⟨ρ, env, M, hE, hS, h⟩ => by
    refine ⟨ρ, env, M, hE, hS, (post_bind h).imp (fun ds M1 hx ρ1 vs H1 e1 S1 r1 => ?_) (fun _ _ _ z => z)⟩
    split at hx
    · cases r1 with
      | cons q1 q2 =>
        cases q2 with
        | cons q2 q3 =>
          cases q3
          cases q1 with
          | lst hs hn rs =>
            cases q2 with
            | lst hs' hn' rs' => exact ⟨_, _, _, _, rfl, SqL.of hs, SqL.of hs', hx ρ1 H1 _ e1 S1 (good_zip (G := gx X cl) hs hn rs hs' hn' rs')⟩
    · exact hx.elim
variable {a b : Expr} {fa fb : DE} {pos : Pos}
end
end Ip
end
section
set_option Elab.async false
set_option linter.all false
set_option maxRecDepth 100000
set_option maxHeartbeats 4000000
set_option autoImplicit false
namespace Ip
open PySem PySem.Spec PyProof.Rows L2
def gExt : GM := fun x as M => match as with
  | [.lst ys] => (setL x M fun l => if l.length + ys.length ≤ 16777216 then some (l ++ ys) else none).map (D.non, ·)
  | _ => none
section
variable {X : Cx} {cl : Str → Option Addr} {W : WX} {G : Gx}
theorem mts_ext : MtS G rExtend gExt := fun H ρ M x dx vs ds d M' Q S rx rs e h => by
  unfold gExt at e
  split at e
  · rename_i ys
    cases rs with
    | cons q1 q2 =>
      cases q2
      cases q1 with
      | lst hs hn rl' =>
        rename_i b zs
        cases e2 : setL dx M fun l => if l.length + ys.length ≤ 16777216 then some (l ++ ys) else none with
        | none => rw [e2] at e; cases e
        | some M2 =>
          rw [e2] at e; cases e
          obtain ⟨a, l, l', ws, rfl, ha, rl, ek, up⟩ := setL_ok S rx e2
          split at ek
          · rename_i hl
            cases ek
            obtain ⟨x1, s1⟩ := up _ (rl.append rl')
            exact ⟨a, b, ws, zs, rfl, rfl, ha, hs, by rw [rl.length, rl'.length, sizeLine_eq]; exact hl, h ρ _ _ x1 s1 .non⟩
          · cases ek
  · cases e
theorem se_extend {o e : Expr} {fo fe : DE} {apos cpos : Pos} (ho : SE X cl W o fo) (ha : SE X cl W e fe) (hst : starEach [e] X.env = (false, eval e X.env) :: starEach [] X.env := by rfl)
    (hbase : attributeBase o "extend" X.env (eval o X.env) = eval o X.env := by rfl)
    (hfew : ((backTo cpos (starEach [e] X.env)).all (fun x => !x.1) && (backToKw cpos (keywordEach [] X.env)).all (fun x => x.1.isSome)
      && decide ([e].length + ([] : List Keyword).length + (if ([] : List Keyword).isEmpty then 0 else 1) < 30)) = true := by rfl)
    (hline : (apos.endLine == cpos.line) = true := by rfl) (hplain : (backTo cpos (starEach [] X.env)).any (·.1) = false := by rfl) : SE X cl W (.Call (.Attribute o "extend" apos) [e] [] cpos) (dLm gExt fo (dConsA fe dNilA)) :=
  se_lm PySem.F.slot_list_extend PySem.F.type_list_extend mt_extend mts_ext ho (sa_cons ha sa_nil hst) hbase hfew hline hst hplain
end
end Ip
end
section
set_option Elab.async false
set_option linter.all false
set_option maxRecDepth 100000
set_option maxHeartbeats 4000000
set_option autoImplicit false
namespace Ip
open PySem PySem.Spec PyProof.Rows L2
def dCallD (m : Nat) (F : DF) (fa : DA) : DE := fun env M => (fa env M).bind fun ds M1 => noex (F (ds ++ List.replicate m .non) M1)
theorem RVs.nons {G : Gx} {H : Hp} {ρ : Rho} : ∀ m : Nat, RVs G H ρ (List.replicate m .non) (List.replicate m .non)
  | 0 => .nil
  | m + 1 => .cons .non (RVs.nons m)
/-- what the call binds -/
abbrev BindsD (K : PySem.W.Frag) (fd : FuncData) (ps : List Str) (m : Nat) : Prop := ∃ ds, Vals (List.replicate m V.non) ds ∧ Binds K fd ps ds
section
variable {X : Cx} {cl : Str → Option Addr} {W : WX} {G : Gx}
theorem se_callD {F : DF} {k m : Nat} {f : Addr} {fd : FuncData} {ps : List Str} {x : Str} {e : Expr} {es : List Expr} {fa : DA} {p pos : Pos} (Fk : FnOk X.prog X.w X.K X.mg X.base CX0 k f fd ps (spD (gx X cl) F)) (hr : Room k X.A) (hg : Gl X x) (hm : X.mg x = some (.ref f)) (hk : PySem.W.keepIn X.K (.ref f) = true) (hb : BindsD X.K fd ps m)
    (ha : SA X cl W (e :: es) fa) (hdb : (x == ("__debug__" : Str)) = false := by decide) (he : starEach (e :: es) X.env = (false, eval e X.env) :: starEach es X.env := by rfl) (hpl : (backTo pos (starEach es X.env)).any (·.1) = false := by rfl) :
    SE X cl W (.Call (.Name x p) (e :: es) [] pos) (dCallD m F fa) := by
  obtain ⟨ds, hv, hb⟩ := hb
  exact PEweak (pe_call Fk hr hg hm hk hb hv (E := E0) pass0 ha hdb he hpl) fun σ H Q ⟨ρ, env, M, hE, hS, h⟩ => by
    refine ⟨ρ, env, M, hE, hS, (post_bind h).imp (fun ds M1 hx ρ1 vs H1 e1 S1 r1 => ?_) (fun _ _ _ z => z)⟩
    exact ⟨ρ1, M1, _, S1, r1.append (RVs.nons m), (noexF hx).imp (fun _ _ z => oP.sh e1 z) (fun _ _ _ z => z)⟩
end
/-- one keyword-only parameter, None by default, as the top has left it -/
theorem binds_kw1 {K : PySem.W.Frag} {x qual y : Str} {st : Stmt} {f D : Addr} {oc : Value} {od an : Option Addr} {osl : Array (Option Value)} {doc pm cdv ct : Value} {ps : List Str} (n : Nat)
    (l : K.lookup f = some ⟨oc, od, .func (PySem.W.fnOf x qual (defArgs st) (defBody st) (defScope st) .none (.ref D) doc pm an cdv ct), osl⟩) (c : PySem.W.codeIn K cdv qual = true) (k : PySem.W.keepIn K (.ref f) = true)
    (hd : PySem.W.nsIn K D y = some (some .none)) (hn : n + 1 = ps.length)
    (h : ∀ (D : Addr) (doc pm : Value) (an : Option Addr) (cdv ct : Value) (us ks : List Value), us.length = n → ks.length = 1 →
      KwChain D ([y].zip ks) (bindArgs (PySem.W.fnOf x qual (defArgs st) (defBody st) (defScope st) .none (.ref D) doc pm an cdv ct) ⟨us, []⟩) (ps.zip (us ++ ks))) :
    BindsD K (PySem.W.fnOf x qual (defArgs st) (defBody st) (defScope st) .none (.ref D) doc pm an cdv ct) ps 1 :=
  FunD.binds0 (x := x) (qual := qual) (params := defArgs st) (body := defBody st) (scope := defScope st) (kws := [(y, .non)]) (f := f)
    ⟨⟨oc, od, .none, .ref D, doc, pm, an, cdv, ct, osl, rfl, l, c, .inl ⟨rfl, rfl⟩, .inr ⟨D, rfl, fun q hq => by
      cases hq with
      | head => exact ⟨.none, hd, rfl⟩
      | tail _ z => cases z⟩⟩, k⟩ n (by simp) hn h
end Ip
end
section
set_option Elab.async false
set_option linter.all false
set_option maxRecDepth 100000
set_option maxHeartbeats 4000000
set_option autoImplicit false
namespace Ip
open PySem PySem.Spec PyProof.Rows L2
end Ip
end
section
set_option Elab.async false
set_option linter.all false
set_option maxRecDepth 100000
set_option maxHeartbeats 4000000
set_option autoImplicit false
namespace Ip
open PySem PySem.Spec PyProof.Rows L2
end Ip
end
section
set_option Elab.async false
set_option linter.all false
set_option maxRecDepth 100000
set_option maxHeartbeats 4000000
set_option autoImplicit false
namespace Ip
open PySem PySem.Spec PyProof.Rows L2
end Ip
end
section
set_option Elab.async false
set_option linter.all false
set_option maxRecDepth 100000
set_option maxHeartbeats 4000000
set_option autoImplicit false
namespace Ip
open PySem PySem.Spec PyProof.Rows L2
end Ip
end
section
set_option Elab.async false
set_option linter.all false
set_option maxRecDepth 100000
set_option maxHeartbeats 4000000
set_option autoImplicit false
namespace Ip
open PySem PySem.Spec PyProof.Rows L2
def Exn.at (e : Exn) (n : Str) : Option D := (e.ks.zip e.vs).lookup n
/-- what stands of an exception in the heap -/
structure ExS (G : Gx) (H : Hp) (ρ : Rho) (M : Sto) (e : Exn) (dd : Addr) (us : List V) : Prop where
  rs : RS G H ρ M
  xd : H dd = some (.xd (e.ks.zip us))
  no : dd ∉ ρ
  len : e.ks.length = us.length
  rv : RVs G H ρ e.vs us
theorem zip_look {G : Gx} {H : Hp} {ρ : Rho} : ∀ {ks : List Str} {ds : List D} {us : List V} {n : Str} {d : D}, RVs G H ρ ds us → (ks.zip ds).lookup n = some d → ∃ v, (ks.zip us).lookup n = some v ∧ RV G H ρ d v
  | [], _, _, _, _, _, h => by simp at h
  | _ :: _, [], _, _, _, .nil, h => by simp at h
  | k :: ks, d0 :: ds, u :: us, n, d, .cons r rs, h => by
    simp only [List.zip_cons_cons, List.lookup] at h ⊢
    split at h
    · cases h; exact ⟨u, rfl, r⟩
    · exact zip_look rs h
theorem ExS.at {G : Gx} {H : Hp} {ρ : Rho} {M : Sto} {e : Exn} {dd : Addr} {us : List V} (x : ExS G H ρ M e dd us) {n : Str} {d : D} (h : e.at n = some d) : ∃ v, (e.ks.zip us).lookup n = some v ∧ RV G H ρ d v := zip_look x.rv h
theorem ExS.new {G : Gx} {H : Hp} {ρ : Rho} {M : Sto} {e : Exn} {dd : Addr} {us : List V} (x : ExS G H ρ M e dd us) {p : Addr} {o : HO} (hp : H p = none) : ExS G (upd H p o) ρ M e dd us :=
  ⟨x.rs.new hp, by rw [upd_ne (ne_of_none x.xd hp)]; exact x.xd, x.no, x.len, x.rv.mono (Ext.new x.rs hp)⟩
end Ip
end
section
set_option Elab.async false
set_option linter.all false
set_option maxRecDepth 100000
set_option maxHeartbeats 4000000
set_option autoImplicit false
namespace Ip
open PySem PySem.Spec PyProof.Rows L2
end Ip
end
section
set_option Elab.async false
set_option linter.all false
set_option maxRecDepth 100000
set_option maxHeartbeats 4000000
set_option autoImplicit false
namespace Ip
open PySem PySem.Spec PyProof.Rows L2
end Ip
end
section
set_option Elab.async false
set_option linter.all false
set_option maxRecDepth 100000
set_option maxHeartbeats 4000000
set_option autoImplicit false
namespace Ip
open PySem PySem.Spec PyProof.Rows L2
abbrev KwB (K : PySem.W.Frag) (fd : FuncData) (ps : List Str) (n : Nat) (ks : List Str) : Prop := KBn K fd ps n ks (fun us ws => us ++ ws) (fun vs zs => vs ++ zs)
theorem kwb_mk {K : PySem.W.Frag} {fd : FuncData} {ps ks : List Str} {n : Nat} (h : ∀ us ws : List Value, us.length = n → ws.length = ks.length → bindArgs fd ⟨us, ks.zip ws⟩ = pure (ps.zip (us ++ ws))) : KwB K fd ps n ks :=
  ⟨fun s us ws _ l1 l2 => .of_eq (h us ws l1 l2), fun r1 r2 => r1.append r2⟩
end Ip
end
section
set_option Elab.async false
set_option linter.all false
set_option maxRecDepth 100000
set_option maxHeartbeats 4000000
set_option autoImplicit false
namespace Ip
open PySem PySem.Spec PyProof.Rows L2
abbrev Nev : Value → Shared → Prop := fun _ _ => False
/-- a turn of one clause, its body told by B -/
def TurnW (P : Program) (w : World) (A : Around) (t : Expr) (ifs : List Expr) (it : Value) (ev : Env) (B : (Shared → Prop) → Shared → Prop) (Z N : Shared → Prop) (s : Shared) : Prop :=
  wpAny (model P w) A (pyNext it) (fun r a => match r with
    | none => Z a
    | some v => wpAny (model P w) A (letOwnedTupleGo t it v) (fun _ b => wpAny (model P w) A (assign t ev v) (fun _ c =>
        wpAny (model P w) A (forIn ifs true fun q r => if r = true then do let z ← isTrue q ev (eval q ev); pure (ForInStep.yield z) else pure (ForInStep.yield r)) (fun z d => if z = true then B N d else N d) Nev c) Nev b) Nev a) Nev s
def BodyO (P : Program) (w : World) (A : Around) (e : Expr) (l : Nat) (i : Expr) (acc : Value) (ev : Env) (N : Shared → Prop) (s : Shared) : Prop :=
  wpAny (model P w) A (eval i ev) (fun x a => wpAny (model P w) A (pyIter x) (fun it b => codeAny (model P w) A (.compStart e l it acc ev) (fun r c => match r with
    | .ok _ => N c
    | .error _ => False) b) Nev a) Nev s
def BodyA (P : Program) (w : World) (A : Around) (elt : Expr) (acc : Value) (ev : Env) (N : Shared → Prop) (s : Shared) : Prop :=
  wpAny (model P w) A (eval elt ev) (fun x a => wpAny (model P w) A (call (.builtin "list.append") [acc, x]) (fun _ b => N b) Nev a) Nev s
def outB (e : Expr) (l : Nat) (t i j : Expr) (ifs : List Expr) (it acc : Value) (ev : Env) : Sem Fin := do
  standAt i.pos
  match ← pyNext it with
  | none => pure (.done .next)
  | some v =>
    letOwnedTupleGo t it v
    assign t ev v
    let mut z := true
    for q in ifs do
      if z then z ← isTrue q ev (eval q ev)
    if z then
      let x ← eval j ev
      standAt j.pos
      let x ← foldedSetIterable j ev x
      let _ ← runOwn (.compStart e (l + 1) (← holding [x] (pyIter x)) acc ev) ev
    again (.compLoop e l it acc ev)
def innB (e : Expr) (l : Nat) (t i elt : Expr) (ifs : List Expr) (it acc : Value) (ev : Env) : Sem Fin := do
  standAt i.pos
  match ← pyNext it with
  | none => pure (.done .next)
  | some v =>
    letOwnedTupleGo t it v
    assign t ev v
    let mut z := true
    for q in ifs do
      if z then z ← isTrue q ev (eval q ev)
    if z then
      (do let _ ← call (.builtin "list.append") [acc, ← eval elt ev])
    again (.compLoop e l it acc ev)
section
variable {P : Program} {w : World} {A : Around} {e t i j elt : Expr} {ifs : List Expr} {l : Nat} {it acc : Value} {ev : Env} {Z N : Shared → Prop} {s : Shared}
def FinP (e : Expr) (l : Nat) (it acc : Value) (ev : Env) (Z N : Shared → Prop) : Fin → Shared → Prop := fun f a => match f with
  | .done g => g = .next ∧ Z a
  | .again c => c = .compLoop e l it acc ev ∧ N a
theorem out_wp (hs : ∀ x, foldedSetIterable j ev x = pure x) (h : TurnW P w A t ifs it ev (BodyO P w A e (l + 1) j acc ev) Z N s) : wpAny (model P w) A (outB e l t i j ifs it acc ev) (FinP e l it acc ev Z N) Nev s := by
  unfold outB
  refine wpAny_bind (wpAny_standAt (wpAny_bind (wpAny_mono h (fun r a ha => ?_) fun _ _ z => z)))
  cases r with
  | none => exact wpAny_pure ⟨rfl, ha⟩
  | some v =>
    refine wpAny_bind (wpAny_mono ha (fun _ b hb => wpAny_bind (wpAny_mono hb (fun _ c hc => wpAny_bind (wpAny_mono hc (fun z d hd => ?_) fun _ _ z => z)) fun _ _ z => z)) fun _ _ z => z)
    cases z with
    | false => exact wpAny_pure ⟨rfl, hd⟩
    | true =>
      refine wpAny_bind (wpAny_mono hd (fun x d1 h1 => wpAny_bind (wpAny_standAt (wpAny_bind (wpAny_of_eq (hs x) (wpAny_bind (wpAny_holding (wpAny_mono h1 (fun q d2 h2 => ?_) fun _ _ z => z))))))) fun _ _ z => z)
      refine wpAny_bind (wpAny_runOwn ?_)
      rw [Around.mark_none]
      refine codeAny_mono h2 fun r d3 h3 => ?_
      cases r with
      | ok f => first | exact wpAny_pure ⟨rfl, h3⟩ | exact wpAny_bind (wpAny_pure (wpAny_pure ⟨rfl, h3⟩))
      | error x => exact h3.elim
theorem inn_wp (h : TurnW P w A t ifs it ev (BodyA P w A elt acc ev) Z N s) : wpAny (model P w) A (innB e l t i elt ifs it acc ev) (FinP e l it acc ev Z N) Nev s := by
  unfold innB
  refine wpAny_bind (wpAny_standAt (wpAny_bind (wpAny_mono h (fun r a ha => ?_) fun _ _ z => z)))
  cases r with
  | none => exact wpAny_pure ⟨rfl, ha⟩
  | some v =>
    refine wpAny_bind (wpAny_mono ha (fun _ b hb => wpAny_bind (wpAny_mono hb (fun _ c hc => wpAny_bind (wpAny_mono hc (fun z d hd => ?_) fun _ _ z => z)) fun _ _ z => z)) fun _ _ z => z)
    cases z with
    | false => exact wpAny_pure ⟨rfl, hd⟩
    | true => exact wpAny_bind (wpAny_bind (wpAny_mono hd (fun x d1 h1 => wpAny_bind (wpAny_mono h1 (fun _ d2 h2 => wpAny_pure (wpAny_pure ⟨rfl, h2⟩)) fun _ _ z => z)) fun _ _ z => z))
theorem loop_wp {T : Sem Fin} {el : Expr} {gs : List Comprehension} {sc : Scope} {po : Pos} (he : e = .ListComp el gs sc po) (hd : compTurn e l it acc ev = T) (J : Nat → Shared → Prop) (turn : ∀ n s, J n s → wpAny (model P w) A T (FinP e l it acc ev Z fun a => ∃ m, m < n ∧ J m a) Nev s) (n : Nat) (h : J n s) :
    codeAny (model P w) A (.compLoop e l it acc ev) (fun r a => match r with
      | .ok _ => Z a
      | .error _ => False) s := by
  subst he
  refine codeAny_loop rfl J (fun n s hJ => ?_) n h
  show wpAny _ A ((compTurn (.ListComp el gs sc po) l it acc ev).onRaise (fun x => do noteFrame x ev; theTreesLotGoes x)) _ _ s
  refine wpAny_noted ?_
  rw [hd]
  refine wpAny_mono (turn n s hJ) (fun f a hf => ?_) fun _ _ z => z.elim
  cases f with
  | done g => exact hf.2
  | again c => exact hf
end
abbrev E3 (elt t0 i0 t1 i1 t2 i2 : Expr) (f0 f1 f2 : List Expr) (scope : Scope) (pos : Pos) : Expr := .ListComp elt [⟨t0, i0, f0, 0⟩, ⟨t1, i1, f1, 0⟩, ⟨t2, i2, f2, 0⟩] scope pos
section
variable {elt t0 i0 t1 i1 t2 i2 : Expr} {f0 f1 f2 : List Expr} {scope : Scope} {pos : Pos} {it acc : Value} {ev : Env}
theorem turn0 : compTurn (E3 elt t0 i0 t1 i1 t2 i2 f0 f1 f2 scope pos) 0 it acc ev = outB (E3 elt t0 i0 t1 i1 t2 i2 f0 f1 f2 scope pos) 0 t0 i0 i1 f0 it acc ev := by rfl
theorem turn1 : compTurn (E3 elt t0 i0 t1 i1 t2 i2 f0 f1 f2 scope pos) 1 it acc ev = outB (E3 elt t0 i0 t1 i1 t2 i2 f0 f1 f2 scope pos) 1 t1 i1 i2 f1 it acc ev := by rfl
theorem turn2 : compTurn (E3 elt t0 i0 t1 i1 t2 i2 f0 f1 f2 scope pos) 2 it acc ev = innB (E3 elt t0 i0 t1 i1 t2 i2 f0 f1 f2 scope pos) 2 t2 i2 elt f2 it acc ev := by rfl
theorem start_l {P : Program} {w : World} {A : Around} {R : Result → Shared → Prop} {s : Shared} {l : Nat} (hl : l = 1 ∨ l = 2) (h0 : codeAny (model P w) A (.compLoop (E3 elt t0 i0 t1 i1 t2 i2 f0 f1 f2 scope pos) l it acc ev) R s)
    (h : wpAny (model P w) A (pyIter it) (fun q a => codeAny (model P w) A (.compLoop (E3 elt t0 i0 t1 i1 t2 i2 f0 f1 f2 scope pos) l q acc ev) R a) (notedBy (model P w) A ev fun x a => R (.error x) a) s) :
    codeAny (model P w) A (.compStart (E3 elt t0 i0 t1 i1 t2 i2 f0 f1 f2 scope pos) l it acc ev) R s := by
  refine codeAny_of_tree ?_
  show wpAny _ _ ((compStart (E3 elt t0 i0 t1 i1 t2 i2 f0 f1 f2 scope pos) l it acc ev).onRaise (fun x => do noteFrame x ev; standAt theWindowsPlace)) _ _ s
  refine wpAny_notedAt ?_
  unfold compStart
  rcases hl with rfl | rfl
  all_goals
    show wpAny _ _ (ask >>= _) _ _ s
    refine wpAny_bind (wpAny_askSetting (wpAny_ite ?_))
    split
    · first
        | exact wpAny_bind (wpAny_pure (wpAny_pure ⟨rfl, h0⟩))
        | exact wpAny_pure ⟨rfl, h0⟩
    · first
        | exact wpAny_bind (wpAny_rule (wpAny_bind (wpAny_standAt (wpAny_bind (wpAny_mono h (fun _ _ z => wpAny_pure ⟨rfl, z⟩) fun _ _ x => x)))))
        | (refine wpAny_bind (wpAny_rule ?_)
           show wpAny _ _ (standAt _ >>= _) _ _ s
           exact wpAny_bind (wpAny_standAt (wpAny_bind (wpAny_mono h (fun _ _ z => wpAny_pure ⟨rfl, z⟩) fun _ _ x => x))))
end
abbrev BT := L2.St → Hp → (Hp → Prop) → Prop
def PB (Y : Cx) (B : (Shared → Prop) → Shared → Prop) (vs : List Nat) (t : BT) : Prop := ∀ (pins : List (Addr × Obj)) (s : Shared) (σ : L2.St) (H : Hp) (Nx : Hp → Prop) (N : Shared → Prop), Inv Y pins σ H s → t σ H Nx → (∀ a H', Inv Y pins (wipe σ vs) H' a → Nx H' → N a) → B N s
def tApp (D : Addr) (te : TE) : BT := fun σ H Nx => te σ H fun y H1 => ∃ acc, H1 D = some (.lst acc) ∧ acc.length < sizeLine ∧ Nx (upd H1 D (.lst (acc ++ [y])))
/-- what a walk asks -/
def Wlk (J : It) (H0 : Hp) (g : TG) (tt : TT) (sub : BT) (vs : List Nat) (σ : L2.St) (Nx : Hp → Prop) : Prop := ∃ V : Nat → Nat → Hp → Prop, (∃ m, V 0 m H0) ∧ ∀ i m H, V i m H →
  (J.stop i H ∧ Nx H) ∨ (J.go i H ∧ ∃ N1 : Hp → Prop, (∀ H', N1 H' → ∃ k, k < m ∧ V (i + 1) k H') ∧ ∀ x H', J.yld i H x H' → g x (wipe σ vs) H' fun σ2 H2 => wipe σ2 vs = wipe σ vs ∧ tt σ2 H2 fun b H3 => if b = true then sub σ2 H3 N1 else N1 H3)
def tCl (wi : TI) (g : TG) (tt : TT) (sub : BT) (vs : List Nat) : BT := fun σ H Nx => wi σ H fun J H1 => Wlk J H1 g tt sub vs σ Nx
section
variable {Y : Cx} {D it : Addr} {elt e tg : Expr} {ifs : List Expr} {te : TE} {g : TG} {tt : TT} {sub : BT} {vs vs' : List Nat} {B : (Shared → Prop) → Shared → Prop}
theorem pb_app (hx : Y.xe = Nev) (pe : PE Y elt te) : PB Y (BodyA Y.prog Y.w Y.A elt (.ref D) Y.env) [] (tApp D te) := fun pins s σ H Nx N I h k => by
  have r := pe.run pins s σ H _ I h
  rw [hx] at r
  exact thnF r fun z a ⟨y, H1, I1, r1, acc, hD, hz, nx⟩ => app_ok I1 hD hz r1 fun b I2 => k b _ I2 nx
theorem loop_cl {el : Expr} {gs : List Comprehension} {sc : Scope} {po : Pos} {l : Nat} {T : Sem Fin} {J : It} {fq : List Addr} {tn : Nat → Heap → Prop} {pins : List (Addr × Obj)} {σ : L2.St} {H : Hp} {s : Shared} {Nx : Hp → Prop} (he : e = .ListComp el gs sc po) (hx : Y.xe = Nev) (hc : Y.calm = true)
    (pg : PG Y tg g) (pt : PTs Y ifs tt) (hsub : PB Y B vs' sub) (hv : ∀ i ∈ vs', i ∈ vs) (hd : compTurn e l (.ref it) (.ref D) Y.env = T)
    (hT : ∀ Z N s, TurnW Y.prog Y.w Y.A tg ifs (.ref it) Y.env B Z N s → wpAny (model Y.prog Y.w) Y.A T (FinP e l (.ref it) (.ref D) Y.env Z N) Nev s)
    (tr : Turn Y.prog Y.w Y.K tg J fq it tn) (I : Inv Y pins σ H s) (st : tn 0 s.heap) (ff : ∀ b ∈ fq, FpOk Y pins H b) (q : Wlk J H g tt sub vs σ Nx) :
    codeAny (model Y.prog Y.w) Y.A (.compLoop e l (.ref it) (.ref D) Y.env) (fun r a => match r with
      | .ok _ => ∃ H', Inv Y pins (wipe σ vs) H' a ∧ Nx H'
      | .error _ => False) s := by
  obtain ⟨V, ⟨m0, v0⟩, turn⟩ := q
  refine loop_wp he hd (fun n a => ∃ i H', Inv Y pins (wipe σ vs) H' a ∧ tn i a.heap ∧ (∀ b ∈ fq, H' b = none) ∧ V i n H') (fun n a hJ => hT _ _ _ ?_) m0 ⟨0, H, I.weak (wipe_length _ _) (fun j v z => (wipe_some z).1), st, fun b hb => (ff b hb).1, v0⟩
  obtain ⟨i, H5, I5, st5, n5, v5⟩ := hJ
  have fo : ∀ {H' : Hp}, (∀ b ∈ fq, H' b = none) → ∀ b ∈ fq, FpOk Y pins H' b := fun hn b hb => ⟨hn b hb, (ff b hb).2⟩
  unfold TurnW
  rcases turn i n H5 v5 with ⟨stop, nx⟩ | ⟨go, N1, hN1, step⟩
  · refine thnF (tr.done Y rfl rfl rfl hc i pins a _ H5 Nev I5 (fo n5) st5 stop) fun r c ⟨hr, I6⟩ => ?_
    subst hr
    exact ⟨H5, I6, nx⟩
  · refine thnF (tr.item Y rfl rfl rfl hc i pins a _ H5 Nev I5 (fo n5) st5 go) fun r c ⟨u, hr, h6⟩ => ?_
    subst hr
    refine thnF h6 fun _ d ⟨x, H7, I7, r7, y7, st7, n7⟩ => ?_
    have J7 := I7.pinned (fo n7) (tr.obj _ _ st7)
    have r1 := pg.run _ d _ H7 x u _ J7 r7 (step x H7 y7)
    rw [hx] at r1
    refine thnF r1 fun _ d1 ⟨σ8, H8, I8, hw8, q8⟩ => ?_
    have r2 := pt.run _ d1 σ8 H8 _ I8 q8
    rw [hx] at r2
    refine thnF r2 fun b d2 ⟨H9, I9, q9⟩ => ?_
    have fin : ∀ {τ : L2.St} {a' : Shared} {H' : Hp}, Inv Y (pins ++ pinsAt fq d.heap) τ H' a' → (wipe σ vs).length = τ.length → (∀ (j : Nat) v, (wipe σ vs)[j]? = some (some v) → τ[j]? = some (some v)) → N1 H' →
        ∃ m, m < n ∧ ∃ i H', Inv Y pins (wipe σ vs) H' a' ∧ tn i a'.heap ∧ (∀ b ∈ fq, H' b = none) ∧ V i m H' := fun {τ a' H'} I' hl hk nx => by
      obtain ⟨k, hk', v'⟩ := hN1 H' nx
      have pn : ∀ b ∈ fq, ∀ o, d.heap.get? b = some o → a'.heap.get? b = some o ∧ H' b = none := fun b hb o z => by
        have w := I'.pin (b, o) (List.mem_append_right _ (List.mem_append_right _ (mem_pinsAt hb z)))
        exact ⟨w.1, w.2.1⟩
      refine ⟨k, hk', i + 1, H', I'.unpinned.weak hl hk, tr.keep _ _ _ st7 fun b hb o z => (pn b hb o z).1, fun b hb => ?_, v'⟩
      obtain ⟨o, z, _⟩ := tr.obj _ _ st7 b hb
      exact (pn b hb o z).2
    have hl8 : (wipe σ vs).length = σ8.length := by rw [← hw8, wipe_length]
    cases b with
    | false =>
      rw [if_neg (by decide)] at q9 ⊢
      exact fin I9 hl8 (fun j v z => by rw [← hw8] at z; exact (wipe_some z).1) q9
    | true =>
      rw [if_pos rfl] at q9 ⊢
      refine hsub _ d2 σ8 H9 N1 _ I9 q9 fun a' H' I' nx => fin I' (by rw [hl8, wipe_length]) (fun j v z => ?_) nx
      rw [← hw8] at z
      obtain ⟨z1, z2⟩ := wipe_some z
      rw [wipe_out fun w => z2 (hv j w)]
      exact z1
end
section
variable {Y : Cx} {D : Addr} {elt t0 i0 t1 i1 t2 i2 : Expr} {f0 f1 f2 : List Expr} {scope : Scope} {pos : Pos} {sub : BT} {wi : TI} {g : TG} {tt : TT} {vs vs' : List Nat}
/-- the last clause -/
theorem pb_2 {te : TE} (hx : Y.xe = Nev) (hc : Y.calm = true) (pi : PI Y t2 i2 wi) (pg : PG Y t2 g) (pt : PTs Y f2 tt) (pe : PE Y elt te) : PB Y (BodyO Y.prog Y.w Y.A (E3 elt t0 i0 t1 i1 t2 i2 f0 f1 f2 scope pos) 2 i2 (.ref D) Y.env) vs (tCl wi g tt (tApp D te) vs) := fun pins s σ H Nx N I h k => by
  have r := pi.run pins s σ H _ I h
  rw [hx] at r
  refine thnF r fun x a hx' => thnF hx' fun itv b ⟨it, fq, tn, J, H1, e1, I1, tr, st1, ff, q⟩ => ?_
  subst e1
  have L := codeAny_mono (loop_cl (e := E3 elt t0 i0 t1 i1 t2 i2 f0 f1 f2 scope pos) rfl hx hc pg pt (pb_app hx pe) (fun _ z => nomatch z) turn2 (fun Z N s h => inn_wp h) tr I1 st1 ff q) (R' := fun r c => match r with
    | .ok _ => N c
    | .error _ => False) fun r c hr => by
      cases r with
      | ok f => obtain ⟨H', I', nx⟩ := hr; exact k c H' I' nx
      | error x => exact hr
  exact start_l (.inr rfl) L (tr.self Y.A 0 _ _ _ st1 L)
/-- the one in the middle -/
theorem pb_1 (hx : Y.xe = Nev) (hc : Y.calm = true) (pi : PI Y t1 i1 wi) (pg : PG Y t1 g) (pt : PTs Y f1 tt) (hs : ∀ x, foldedSetIterable i2 Y.env x = pure x) (hsub : PB Y (BodyO Y.prog Y.w Y.A (E3 elt t0 i0 t1 i1 t2 i2 f0 f1 f2 scope pos) 2 i2 (.ref D) Y.env) vs' sub) (hv : ∀ i ∈ vs', i ∈ vs) :
    PB Y (BodyO Y.prog Y.w Y.A (E3 elt t0 i0 t1 i1 t2 i2 f0 f1 f2 scope pos) 1 i1 (.ref D) Y.env) vs (tCl wi g tt sub vs) := fun pins s σ H Nx N I h k => by
  have r := pi.run pins s σ H _ I h
  rw [hx] at r
  refine thnF r fun x a hx' => thnF hx' fun itv b ⟨it, fq, tn, J, H1, e1, I1, tr, st1, ff, q⟩ => ?_
  subst e1
  have L := codeAny_mono (loop_cl (e := E3 elt t0 i0 t1 i1 t2 i2 f0 f1 f2 scope pos) rfl hx hc pg pt hsub hv turn1 (fun Z N s h => out_wp hs h) tr I1 st1 ff q) (R' := fun r c => match r with
    | .ok _ => N c
    | .error _ => False) fun r c hr => by
      cases r with
      | ok f => obtain ⟨H', I', nx⟩ := hr; exact k c H' I' nx
      | error x => exact hr
  exact start_l (.inl rfl) L (tr.self Y.A 0 _ _ _ st1 L)
end
end Ip
end
section
set_option Elab.async false
set_option linter.all false
set_option maxRecDepth 100000
set_option maxHeartbeats 4000000
set_option autoImplicit false
namespace Ip
open PySem PySem.Spec PyProof.Rows L2
theorem wipe2 (σ : L2.St) (vs : List Nat) : wipe (wipe σ vs) vs = wipe σ vs := wipe_eq (wipe_length _ _) fun _ hj => wipe_out hj
theorem pe_lc3 {X : Cx} {elt tg iter t1 i1 t2 i2 : Expr} {f0 f1 f2 : List Expr} {scope : Scope} {own : List (Str × Nat)} {pos : Pos} {wi : TI} {g : TG} {tt : TT} {sub : Addr → BT} {vs1 : List Nat} (hc : X.calm = true) (hN : X.N.Nodup) (hi : PI X tg iter wi) (ok : BlkOk X.N X.env.scope scope own) (hv : ∀ i ∈ vs1, i ∈ own.map (·.2))
    (hg : ∀ (s : Shared) (H : Hp) (C : Addr) (cc : List (Str × Addr)) (fp : List Addr), PG (X.blk s H scope (compEnvC scope cc C X.env) fp) tg g) (ht : ∀ (s : Shared) (H : Hp) (C : Addr) (cc : List (Str × Addr)) (fp : List Addr), PTs (X.blk s H scope (compEnvC scope cc C X.env) fp) f0 tt)
    (hsub : ∀ (s : Shared) (H : Hp) (C : Addr) (cc : List (Str × Addr)) (fp : List Addr) (D : Addr), PB (X.blk s H scope (compEnvC scope cc C X.env) fp) (BodyO X.prog X.w X.A (E3 elt tg iter t1 i1 t2 i2 f0 f1 f2 scope pos) 1 i1 (.ref D) (compEnvC scope cc C X.env)) vs1 (sub D))
    (hs : ∀ x, foldedSetIterable iter X.env x = pure x := by intro _; rfl) (hs1 : ∀ env x, foldedSetIterable i1 env x = pure x := by intro _ _; rfl) :
    PE X (E3 elt tg iter t1 i1 t2 i2 f0 f1 f2 scope pos) (fun σ H Q => wi σ H fun J H1 => ∀ D, H1 D = none → Wlk J (upd H1 D (.lst [])) g tt (sub D) (own.map (·.2)) σ (Q (.ref D))) := by
  refine ⟨fun pins s σ H Q I h => ?_⟩
  rw [eval_ListComp]
  have fr : ∀ y ∈ scope.names, y.2 = .free → ∃ c, X.env.cells.lookup y.1 = some c := fun y hy z => (ok.free y hy z).elim (fun k => I.ok.has _ (.inl k)) fun k => I.ok.has _ (.inr k)
  refine wpAny_comprehension_free (use := none) rfl hs (closure_ok fr) ok.kind (fun y hy z => by rw [ok.uniq y hy, z]) (thn (hi.run pins s σ H _ I h) fun xv a ha => thn ha fun itv b hb => ?_)
  obtain ⟨it, fq, tn, J, H2, e, I2, tr, st2, ff, q⟩ := hb
  subst e
  refine wpAny_newObj_type (newEnv_comp ?_) (by show 0 ≤ sizeLine; decide)
  generalize hD : b.heap.objs.size = D
  have q := q D (I2.hok.fresh (Nat.le_of_eq hD))
  generalize hc3 : ({ b with heap := b.heap.push { cls := .type "list", data := .seq ([] : List Value).toArray } } : Shared) = c
  have hh : c.heap = b.heap.push { cls := .type "list", data := .seq ([] : List Value).toArray } := by rw [← hc3]
  have I3 : Inv X pins σ (upd H2 D (.lst [])) c := by
    rw [← hc3]
    exact I2.laid (t' := b.toks) (fun _ o z => Heap.get?_push_of_some _ z) (Nat.le_of_eq hD) ⟨Nat.zero_le _, [], 0, .nil, by rw [← hD]; exact Heap.get?_push_size _ rfl⟩
  have f3 : ∀ x ∈ fq, FpOk X pins (upd H2 D (.lst [])) x ∧ x < c.heap.objs.size := fun x hx => by
    obtain ⟨o, z, _⟩ := tr.obj _ _ st2 x hx
    have hlt := Heap.lt_size z
    refine ⟨⟨by rw [upd_ne (by rw [← hD]; exact Nat.ne_of_lt hlt)]; exact (ff x hx).1, (ff x hx).2⟩, ?_⟩
    rw [hh, Heap.size_push]
    exact Nat.lt_succ_of_lt hlt
  have I4 := block_start I3 ok hN f3
  generalize hcc : cellsFrom (c.heap.objs.size + 1) scope.names (cloFrom X.env.cells scope.names []) = cc at I4 ⊢
  generalize hd4 : ({ c with heap := pushCells (c.heap.push { cls := .type "dict", data := .dict #[] }) scope.names } : Shared) = d at I4 ⊢
  generalize hH3 : upd H2 D (.lst []) = H3 at I3 I4 q f3
  have st4 : tn 0 d.heap := tr.keep _ _ _ st2 fun x _ o z => by
    rw [← hd4]
    exact pushCells_keeps _ _ _ _ (Heap.get?_push_of_some _ (by rw [hh]; exact Heap.get?_push_of_some _ z))
  have f4 : ∀ x ∈ fq, FpOk (X.blk c H3 scope (compEnvC scope cc c.heap.objs.size X.env) fq) [] H3 x := fun x hx =>
    ⟨(f3 x hx).1.1, (I4.ok.exf x hx).1, I4.ok.exfs x hx, .inl hx, fun y k z => (I4.ok.exf x hx).2 y k z, fun p hp => absurd (show p ∈ ([] : List (Addr × Obj)) ++ [] from hp) (by simp)⟩
  have q' : Wlk J H3 g tt (sub D) (own.map (·.2)) (wipe σ (own.map (·.2))) (Q (.ref D)) := by
    unfold Wlk at q ⊢
    rw [wipe2]
    exact q
  have L := codeAny_mono (loop_cl (Y := X.blk c H3 scope (compEnvC scope cc c.heap.objs.size X.env) fq) (e := E3 elt tg iter t1 i1 t2 i2 f0 f1 f2 scope pos) (D := D) rfl rfl hc (hg c H3 _ cc fq) (ht c H3 _ cc fq) (hsub c H3 _ cc fq D) hv turn0 (fun Z N s h => out_wp (hs1 _) h) tr I4 st4 f4 q') (R' := compPost (model X.prog X.w) X.A X.xe none (EP X pins σ Q) (.ref D) c.heap.objs.size) fun r k hr => ?_
  · exact codeAny_compStart_list L (tr.self X.A 0 _ _ _ st4 L)
  · cases r with
    | error x => exact hr.elim
    | ok f =>
      obtain ⟨H5, I6, nx⟩ := hr
      have I7 : Inv X pins σ H5 k := I3.call' (ch := fq) I6.os I6.base I6.hok I6.bare fun x hx => ⟨(f3 x hx).1.2.2.2.1, (f3 x hx).1.2.1, (f3 x hx).1.2.2.2.2.1, (f3 x hx).1.2.2.2.2.2⟩
      obtain ⟨m, hn, _⟩ := I6.loc
      obtain ⟨g0, g1, _, g3, g4, g5⟩ := I3.fpOk (Nat.le_refl _) (show H5 c.heap.objs.size = none from I6.free)
      exact ⟨m, hn, fun h2 sb => ⟨.ref D, H5, I7.turned (t' := k.toks) (fun x o hx z => (sb.2 x hx).trans z) g0 g1 g3 g4 g5, rfl, nx⟩⟩
end Ip
end
section
set_option Elab.async false
set_option linter.all false
set_option maxRecDepth 100000
set_option maxHeartbeats 4000000
set_option autoImplicit false
namespace Ip
open PySem PySem.Spec PyProof.Rows L2
abbrev DB := En → List D → Sto → Out (List D)
def lv0 (fe : DE) : DB := fun env acc M => (noex (fe env M)).bind fun y M2 => if acc.length < 16777216 then .ok (acc ++ [y]) M2 else .bad
def lvGo (t : DG) (ft : DT) (sub : DB) : List D → List D → En → Sto → Out (List D)
  | [], acc, _, M => .ok acc M
  | d :: ds, acc, env, M => match t d env with
    | none => .bad
    | some env1 => (noex (ft env1 M)).bind fun b M1 => if b then (sub env1 acc M1).bind fun acc2 M2 => lvGo t ft sub ds acc2 env M2
      else lvGo t ft sub ds acc env M1
def lvS (vs : List Nat) (t : DG) (fi : DA) (ft : DT) (sub : DB) : DB := fun env acc M => (noex (fi env M)).bind fun items M1 => lvGo t ft sub items acc (wipeE env vs) M1
def dLc3 (vs : List Nat) (t : DG) (fi : DA) (ft : DT) (sub : DB) : DE := fun env M => (fi env M).bind fun items M1 => (noex (lvGo t ft sub items [] (wipeE env vs) M1)).bind fun l M2 => .ok (.lst l) M2
theorem Mo.refl {G : Gx} {H : Hp} {ρ : Rho} : Mo G H ρ H ρ := ⟨fun _ _ h => h, fun _ _ h => h, fun _ _ h1 _ h2 => ⟨h2, h1⟩⟩
theorem Mo.trans {G : Gx} {H H1 H2 : Hp} {ρ ρ1 ρ2 : Rho} (a : Mo G H ρ H1 ρ1) (b : Mo G H1 ρ1 H2 ρ2) : Mo G H ρ H2 ρ2 :=
  ⟨fun n c h => b.pre n c (a.pre n c h), fun c xs h => b.tup c xs (a.tup c xs h), fun c o h1 h3 h2 => b.keep c o (a.keep c o h1 h3 h2).2 h3 (a.keep c o h1 h3 h2).1⟩
/-- while the list D is written -/
structure SD (G : Gx) (H1 : Hp) (ρ1 : Rho) (L : Addr) (H : Hp) (ρ : Rho) (M : Sto) (acc : List D) : Prop where
  t : ρ.t = L :: ρ1.t
  x : Ext G H1 ρ1 H ⟨ρ.c, ρ1.t⟩
  a : ∃ av, H L = some (.lst av) ∧ RVs G H ρ acc av
  s : RS G H ρ M
section
variable {G : Gx} {H1 H H' : Hp} {ρ1 ρ ρ' : Rho} {L : Addr} {M M' : Sto} {acc : List D}
theorem SD.inT (h : SD G H1 ρ1 L H ρ M acc) : L ∈ ρ.t := by rw [h.t]; exact List.mem_cons_self
theorem SD.ext (h0 : H1 L = none) (h : SD G H1 ρ1 L H ρ M acc) (x : Ext G H ρ H' ρ') (S' : RS G H' ρ' M') : SD G H1 ρ1 L H' ρ' M' acc := by
  refine ⟨x.res.trans h.t, ⟨fun n a z => x.pre n a (h.x.pre n a z), rfl, fun a z => (x.same a (by rw [h.t]; exact List.mem_cons_of_mem _ z)).trans (h.x.same a z), fun a xs z => x.tup a xs (h.x.tup a xs z), fun a o n nt z => ?_⟩, ?_, S'⟩
  · obtain ⟨k1, k2⟩ := h.x.keep a o n nt z
    have k3 : a ∉ ρ := fun w => by
      rcases w with w | w
      · exact k2 (.inl w)
      · rw [h.t] at w
        rcases List.mem_cons.mp w with w | w
        · rw [w, h0] at z; cases z
        · exact n (.inr w)
    obtain ⟨k4, k5⟩ := x.keep a o k3 nt k1
    exact ⟨k4, fun w => by
      rcases w with w | w
      · exact k5 (.inl w)
      · exact n (.inr w)⟩
  · obtain ⟨av, z, r⟩ := h.a
    exact ⟨av, (x.same L h.inT).trans z, r.mono x⟩
theorem SD.app (h0 : H1 L = none) (h1 : L ∉ ρ1) (h : SD G H1 ρ1 L H ρ M acc) {av : List V} (ha : H L = some (.lst av)) (r : RVs G H ρ acc av) {y : D} {v : V} (ry : RV G H ρ y v) :
    SD G H1 ρ1 L (upd H L (.lst (av ++ [v]))) ρ M (acc ++ [y]) ∧ Mo G H ρ (upd H L (.lst (av ++ [v]))) ρ := by
  have mo : Mo G H ρ (upd H L (.lst (av ++ [v]))) ρ := ⟨fun _ _ z => z, fun a xs z => tpA_upd z (fun u w => by rw [ha] at w; cases w; exact ⟨fun _ z => (by cases z), fun _ _ z => (by cases z)⟩), fun a o n nt z => ⟨by rw [upd_ne (fun w : a = L => n (by rw [w]; exact .inr h.inT))]; exact z, n⟩⟩
  refine ⟨⟨h.t, ⟨h.x.pre, rfl, fun a z => ?_, fun a xs z => mo.tup a xs (h.x.tup a xs z), fun a o n nt z => ?_⟩, ⟨_, upd_same, (r.append (.one ry)).mo mo⟩, ?_⟩, mo⟩
  · rw [upd_ne (fun w : a = L => h1 (by rw [← w]; exact .inr z))]
    exact h.x.same a z
  · obtain ⟨k1, k2⟩ := h.x.keep a o n nt z
    exact ⟨by rw [upd_ne (ne_of_none z h0)]; exact k1, k2⟩
  · refine ⟨h.s.len, h.s.nd, h.s.dis, fun a w => ?_, fun n c w => ?_, h.s.tb.keeps fun b u z nz => by rw [upd_ne (fun w : b = L => nz (by rw [w, ha] at z; cases z; exact .inl ⟨_, rfl⟩))]; exact z⟩
    · by_cases z : a = L
      · exact ⟨_, by rw [z]; exact upd_same, .inl ⟨_, rfl⟩⟩
      · rw [upd_ne z]; exact h.s.trt a w
    · obtain ⟨a, w1, w2⟩ := h.s.at_ n c w
      exact ⟨a, w1, w2.mo mo (upd_ne (fun z : a = L => h.s.dis a (List.mem_of_getElem? w1) (by rw [z]; exact h.inT)))⟩
def BOk (G : Gx) (H1 : Hp) (ρ1 : Rho) (L : Addr) (t : BT) (f : DB) : Prop := ∀ (σ : L2.St) (H : Hp) (ρ : Rho) (env : En) (M : Sto) (acc : List D) (Nx : Hp → Prop), RE G H ρ env σ → SD G H1 ρ1 L H ρ M acc →
  (f env acc M).post (fun acc' M' => ∀ H' ρ', SD G H1 ρ1 L H' ρ' M' acc' → Mo G H ρ H' ρ' → Nx H') (fun _ _ _ => False) → t σ H Nx
theorem bok_app (h0 : H1 L = none) (h1 : L ∉ ρ1) {fe : DE} : BOk G H1 ρ1 L (tApp L (dE G W0 fe)) (lv0 fe) := fun σ H ρ env M acc Nx hE hS h => by
  refine ⟨ρ, env, M, hE, hS.s, (noex_post (post_bind h)).imp (fun y M2 hy ρ2 v H2 x2 S2 r2 => ?_) (fun _ _ _ z => z)⟩
  split at hy
  · rename_i hl
    have s2 := hS.ext h0 x2 S2
    obtain ⟨av, e, r⟩ := s2.a
    obtain ⟨s3, m3⟩ := s2.app h0 h1 e r r2
    exact ⟨av, e, by rw [r.length, sizeLine_eq]; exact hl, hy _ _ s3 (x2.mo.trans m3)⟩
  · exact hy.elim
theorem wlk_ok (h0 : H1 L = none) {g : TG} {t : DG} {ft : DT} {sub : BT} {f : DB} {vs : List Nat} (hg : TgOk G vs g t) (hsub : BOk G H1 ρ1 L sub f) {items : List D} {J : It} {σ : L2.St} {env : En} {Nx : Hp → Prop} (good : Good J G items ρ H) (hS : SD G H1 ρ1 L H ρ M acc) (hE : RE G H ρ env σ)
    (h : (lvGo t ft f items acc (wipeE env vs) M).post (fun acc' M' => ∀ H' ρ', SD G H1 ρ1 L H' ρ' M' acc' → Mo G H ρ H' ρ' → Nx H') (fun _ _ _ => False)) : Wlk J H g (dT G W0 ft) sub vs σ Nx := by
  refine ⟨fun i m Hc => m = items.length - i ∧ i ≤ items.length ∧ ∃ ρc Mc ac, SD G H1 ρ1 L Hc ρc Mc ac ∧ Mo G H ρ Hc ρc ∧ (lvGo t ft f (items.drop i) ac (wipeE env vs) Mc).post (fun acc' M' => ∀ H' ρ', SD G H1 ρ1 L H' ρ' M' acc' → Mo G H ρ H' ρ' → Nx H') (fun _ _ _ => False), ⟨_, rfl, Nat.zero_le _, ρ, M, acc, hS, Mo.refl, by rw [List.drop_zero]; exact h⟩, ?_⟩
  rintro i m Hc ⟨rfl, hi, ρc, Mc, ac, S, mo, q⟩
  obtain ⟨g1, g2⟩ := good Hc ρc mo i
  by_cases hlt : i < items.length
  · obtain ⟨go, yl⟩ := g1 _ (List.getElem?_eq_getElem hlt)
    rw [List.drop_eq_getElem_cons hlt] at q
    refine .inr ⟨go, fun Hn => ∃ ρn Mn an, SD G H1 ρ1 L Hn ρn Mn an ∧ Mo G H ρ Hn ρn ∧ (lvGo t ft f (items.drop (i + 1)) an (wipeE env vs) Mn).post (fun acc' M' => ∀ H' ρ', SD G H1 ρ1 L H' ρ' M' acc' → Mo G H ρ H' ρ' → Nx H') (fun _ _ _ => False), fun Hn n2 => ⟨items.length - (i + 1), by omega, rfl, hlt, n2⟩, fun x H3 y => ?_⟩
    obtain ⟨x3, rs3, r3⟩ := yl x H3 y ⟨Mc, S.s⟩
    unfold lvGo at q
    split at q
    · exact q.elim
    · rename_i env1 he1
      refine hg H3 ρc x _ _ env1 _ _ (((hE.wipe vs).mo mo).mono x3) r3 he1 fun σ4 E4 w4 => ⟨w4.trans (wipe2 σ vs), ?_⟩
      refine ⟨ρc, env1, Mc, E4, rs3 Mc S.s, (noex_post (post_bind q)).imp (fun b M5 hb ρ5 H5 x5 S5 => ?_) (fun _ _ _ z => z)⟩
      have s5 := S.ext h0 (x3.trans x5) S5
      have m5 := mo.trans (x3.trans x5).mo
      cases b with
      | false => exact ⟨ρ5, M5, ac, s5, m5, hb⟩
      | true =>
        show sub σ4 H5 _
        exact hsub σ4 H5 ρ5 env1 M5 ac _ (E4.mono x5) s5 ((post_bind (show (Out.bind (f env1 ac M5) _).post _ _ from hb)).imp (fun acc2 M6 h6 H6 ρ6 s6 m6 => ⟨ρ6, M6, acc2, s6, m5.trans m6, h6⟩) (fun _ _ _ z => z))
  · have e : i = items.length := by omega
    subst e
    rw [List.drop_length] at q
    exact .inl ⟨g2 (Nat.le_refl _), q Hc ρc S mo⟩
theorem bok_cl (h0 : H1 L = none) {g : TG} {t : DG} {fi : DA} {ft : DT} {sub : BT} {f : DB} {vs : List Nat} (hg : TgOk G vs g t) (hsub : BOk G H1 ρ1 L sub f) : BOk G H1 ρ1 L (tCl (dI G W0 fi) g (dT G W0 ft) sub vs) (lvS vs t fi ft f) := fun σ H ρ env M acc Nx hE hS h => by
  refine ⟨ρ, env, M, hE, hS.s, (noex_post (post_bind h)).imp (fun items M1 hx ρa Ha J ea Sa good => ?_) (fun _ _ _ z => z)⟩
  exact wlk_ok h0 hg hsub good (hS.ext h0 ea Sa) (hE.mono ea) (Out.post.imp hx (fun acc' M' z H' ρ' s m => z H' ρ' s (ea.mo.trans m)) (fun _ _ _ z => z))
end
section
variable {X : Cx} {cl : Str → Option Addr} {W : WX}
theorem se_lc3 {elt tg iter t1 i1 t2 i2 : Expr} {f0 f1 f2 : List Expr} {scope : Scope} {own : List (Str × Nat)} {pos : Pos} {g g1 g2 : TG} {t u1 u2 : DG} {fi fi1 fi2 : DA} {ft ft1 ft2 : DT} {fe : DE} {vs1 vs2 : List Nat} (hc : X.calm = true) (hN : X.N.Nodup) (hi : SI X cl W tg iter fi) (ok : BlkOk X.N X.env.scope scope own)
    (hv : ∀ i ∈ vs1, i ∈ own.map (·.2)) (hv2 : ∀ i ∈ vs2, i ∈ vs1)
    (hgp : ∀ (s : Shared) (H : Hp) (C : Addr) (c : List (Str × Addr)) (fp : List Addr), PG (X.blk s H scope (compEnvC scope c C X.env) fp) tg g) (hg : TgOk (gx X cl) (own.map (·.2)) g t)
    (ht : ∀ (s : Shared) (H : Hp) (C : Addr) (c : List (Str × Addr)) (fp : List Addr), PTs (X.blk s H scope (compEnvC scope c C X.env) fp) f0 (dT (gx X cl) W0 ft))
    (hi1 : ∀ (s : Shared) (H : Hp) (C : Addr) (c : List (Str × Addr)) (fp : List Addr), SI (X.blk s H scope (compEnvC scope c C X.env) fp) cl W0 t1 i1 fi1)
    (hgp1 : ∀ (s : Shared) (H : Hp) (C : Addr) (c : List (Str × Addr)) (fp : List Addr), PG (X.blk s H scope (compEnvC scope c C X.env) fp) t1 g1) (hg1 : TgOk (gx X cl) vs1 g1 u1)
    (ht1 : ∀ (s : Shared) (H : Hp) (C : Addr) (c : List (Str × Addr)) (fp : List Addr), PTs (X.blk s H scope (compEnvC scope c C X.env) fp) f1 (dT (gx X cl) W0 ft1))
    (hi2 : ∀ (s : Shared) (H : Hp) (C : Addr) (c : List (Str × Addr)) (fp : List Addr), SI (X.blk s H scope (compEnvC scope c C X.env) fp) cl W0 t2 i2 fi2)
    (hgp2 : ∀ (s : Shared) (H : Hp) (C : Addr) (c : List (Str × Addr)) (fp : List Addr), PG (X.blk s H scope (compEnvC scope c C X.env) fp) t2 g2) (hg2 : TgOk (gx X cl) vs2 g2 u2)
    (ht2 : ∀ (s : Shared) (H : Hp) (C : Addr) (c : List (Str × Addr)) (fp : List Addr), PTs (X.blk s H scope (compEnvC scope c C X.env) fp) f2 (dT (gx X cl) W0 ft2))
    (he : ∀ (s : Shared) (H : Hp) (C : Addr) (c : List (Str × Addr)) (fp : List Addr), PE (X.blk s H scope (compEnvC scope c C X.env) fp) elt (dE (gx X cl) W0 fe))
    (hs : ∀ x, foldedSetIterable iter X.env x = pure x := by intro _; rfl) (hs1 : ∀ env x, foldedSetIterable i1 env x = pure x := by intro _ _; rfl) (hs2 : ∀ env x, foldedSetIterable i2 env x = pure x := by intro _ _; rfl) :
    SE X cl W (.ListComp elt [⟨tg, iter, f0, 0⟩, ⟨t1, i1, f1, 0⟩, ⟨t2, i2, f2, 0⟩] scope pos) (dLc3 (own.map (·.2)) t fi ft (lvS vs1 u1 fi1 ft1 (lvS vs2 u2 fi2 ft2 (lv0 fe)))) :=
  PEweak (pe_lc3 (sub := fun L => tCl (dI (gx X cl) W0 fi1) g1 (dT (gx X cl) W0 ft1) (tCl (dI (gx X cl) W0 fi2) g2 (dT (gx X cl) W0 ft2) (tApp L (dE (gx X cl) W0 fe)) vs2) vs1) hc hN hi ok hv hgp ht
    (fun s H C c fp L => pb_1 (Y := X.blk s H scope (compEnvC scope c C X.env) fp) rfl hc (hi1 s H C c fp) (hgp1 s H C c fp) (ht1 s H C c fp) (hs2 _) (pb_2 (Y := X.blk s H scope (compEnvC scope c C X.env) fp) rfl hc (hi2 s H C c fp) (hgp2 s H C c fp) (ht2 s H C c fp) (he s H C c fp)) hv2) hs hs1) fun σ H Q ⟨ρ, env, M, hE, hS, h⟩ => by
    refine ⟨ρ, env, M, hE, hS, (post_bind h).imp (fun items M1 hx ρ1 H1 J e1 S1 good L hL => ?_) (fun _ _ _ z => z)⟩
    have h1 : L ∉ ρ1 := S1.fresh hL
    have m0 : Mo (gx X cl) H1 ρ1 (upd H1 L (.lst [])) ⟨ρ1.c, L :: ρ1.t⟩ := ⟨fun _ _ z => z, fun a xs z => tpA_upd z (fun u w => by rw [hL] at w; cases w), fun a o n nt z => ⟨by rw [upd_ne (ne_of_none z hL)]; exact z, fun w => by
      rcases w with w | w
      · exact n (.inl w)
      · rcases List.mem_cons.mp w with w | w
        · exact ne_of_none z hL w
        · exact n (.inr w)⟩⟩
    have s0 : SD (gx X cl) H1 ρ1 L (upd H1 L (.lst [])) ⟨ρ1.c, L :: ρ1.t⟩ M1 [] := by
      refine ⟨rfl, Ext.new S1 hL, ⟨[], upd_same, .nil⟩, ⟨S1.len, S1.nd, fun a ha hb => ?_, fun a ha => ?_, fun n c hc => ?_, S1.tb.keeps fun b u z _ => by rw [upd_ne (ne_of_none z hL)]; exact z⟩⟩
      · rcases List.mem_cons.mp hb with z | z
        · exact h1 (.inl (by rw [← z]; exact ha))
        · exact S1.dis a ha z
      · rcases List.mem_cons.mp ha with z | z
        · exact ⟨_, by rw [z]; exact upd_same, .inl ⟨_, rfl⟩⟩
        · rw [upd_ne (S1.ne_new hL (.inr z))]; exact S1.trt a z
      · obtain ⟨a, w1, w2⟩ := S1.at_ n c hc
        exact ⟨a, w1, w2.mo m0 (upd_ne (S1.ne_new hL (.inl (List.mem_of_getElem? w1))))⟩
    refine wlk_ok hL hg (bok_cl hL hg1 (bok_cl hL hg2 (bok_app hL h1))) (fun Hc ρc mo => good Hc ρc (m0.trans mo)) s0 ((hE.mono e1).mo m0) ((noex_post (post_bind hx)).imp (fun l M2 q H' ρ' s m => ?_) (fun _ _ _ z => z))
    obtain ⟨av, ea, ra⟩ := s.a
    have mo : Mo (gx X cl) H' ρ' H' ⟨ρ'.c, ρ1.t⟩ := ⟨fun _ _ z => z, fun _ _ z => z, fun a o n nt z => ⟨z, fun w => by
      rcases w with w | w
      · exact n (.inl w)
      · exact n (.inr (by rw [s.t]; exact List.mem_cons_of_mem _ w))⟩⟩
    refine q ⟨ρ'.c, ρ1.t⟩ (.ref L) H' (e1.trans s.x) ⟨s.s.len, s.s.nd, fun a ha hb => s.s.dis a ha (by rw [s.t]; exact List.mem_cons_of_mem _ hb), fun a ha => s.s.trt a (by rw [s.t]; exact List.mem_cons_of_mem _ ha), fun n c hc => ?_, s.s.tb⟩ (.lst ea (fun w => ?_) (ra.mo mo))
    · obtain ⟨a, w1, w2⟩ := s.s.at_ n c hc
      exact ⟨a, w1, w2.mo mo rfl⟩
    · rcases w with w | w
      · exact s.s.dis L w s.inT
      · exact h1 (.inr w)
end
end Ip
end
section
set_option Elab.async false
set_option linter.all false
set_option maxRecDepth 100000
set_option maxHeartbeats 4000000
set_option autoImplicit false
namespace Ip
open PySem PySem.Spec PyProof.Rows L2
abbrev setO0 (w : World) : Obj := { cls := .type "set", dict := none, data := .set #[] 0 (.fresh 0 0 (!w.params.followText "set-order")) }
section
variable {P : Program} {w : World} {A : Around} {E : Value → Shared → Prop} {s : Shared}
set_option maxHeartbeats 3200000 in
theorem set_of_lst {p : Addr} {arr : Array Value} (zs : List Int) {Q : Value → Shared → Prop} (h0 : A.handled = none) (hp : s.heap.IsList p arr) (hz : IntsAre arr.toList zs) (room : zs.length + 1 < scanBound)
    (fin : ∀ (h1 : Heap) (t c : Nat), SetR w h1 s.heap.objs.size (fun j => decide (j ∈ zs)) c → (∀ b o, s.heap.get? b = some o → h1.get? b = some o) → Q (.ref s.heap.objs.size) { s with heap := h1, toks := t }) :
    wpAny (model P w) A (call (.type "set") [.ref p]) Q E s := by
  have sz : arr.size = zs.length := by
    have z := IntsAre.length hz
    rwa [Array.length_toList] at z
  obtain ⟨m1, m2, mro_⟩ := F.called_set.mro
  have made_ := F.called_set.made
  have subs_ := F.called_set.sub
  refine wpAny_call (codeAny_of_tree ?_)
  show wpAny _ _ (callAny (.type "set") _) _ _ _
  refine wpAny_pure ⟨Code.quiet_builtin _ (by decide +kernel), codeAny_builtin F.entry_type_call ?_⟩
  rw [Around.under_plain (weight_type_call_type "set" [.ref p] []) rfl]
  have nt_ := F.called_set.notType
  have cc_ := F.called_set.canCreate
  have tc_ := F.typeCall_set_1 (.ref p)
  repeat (any_goals (first | assumption | wp_step))
  refine codeAny_mono (code_set_led1 (.ref p) (E := E) (Q₁ := fun v a => v = .ref s.heap.objs.size ∧ a = { s with heap := s.heap.push (setO0 w) }) ⟨rfl, rfl⟩) fun r a ha => ?_
  cases r with
  | error x => exact ha
  | ok fl =>
    cases fl with
    | ret v =>
      obtain ⟨rfl, rfl⟩ := ha
      have g0 : (s.heap.push (setO0 w)).get? s.heap.objs.size = some (setO0 w) := Heap.get?_push_size _ rfl
      have ti_ : Shared.TypeIs { s with heap := s.heap.push (setO0 w) } (.ref s.heap.objs.size) "set" := ⟨_, g0, rfl⟩
      have li_ := F.called_set.init.lookup
      have bi_ := F.called_set.init.bind (.ref s.heap.objs.size)
      repeat (any_goals (first | assumption | wp_step))
      refine codeAny_mono (codeAny_call_builtin (R := wants (fun r b => r = .none ∧ ∃ h1 t c, b = { s with heap := h1, toks := t } ∧ SetR w h1 s.heap.objs.size (fun j => decide (j ∈ zs)) c ∧ (∀ b o, s.heap.get? b = some o → h1.get? b = some o)) E) F.called_set.init.plain F.entry_set_init (check_set_init_1 ti_ ?_)) fun r2 b hb => ?_
      · obtain ⟨ob, gp, cp, np, dp⟩ := hp
        obtain ⟨oc, od, oa, os⟩ := ob
        simp only at cp dp
        subst cp; subst dp
        have gp1 : (s.heap.push (setO0 w)).get? p = some { cls := .type "list", dict := od, data := .seq arr np, slots := os } := Heap.get?_push_of_some _ gp
        have s1_ := F.sub_list_set
        have s2_ := F.sub_list_frozenset
        have nd_ : (Value.type "list" == Value.type "dict") = false := by decide
        have lp1 : (s.heap.push (setO0 w)).IsList p arr := ⟨_, gp1, rfl, np, rfl⟩
        unfold Builtin.«set.__init__» noKeywords Builtin.Frozenset.updateFrom
        generalize hq : pyIter = PIt
        wp_walk
        subst hq
        refine wpAny_pyIter_list lp1 (wpAny_bind (wpAny_runValue ?_))
        have lt0 : p < s.heap.objs.size := Heap.lt_size gp
        have hd3 : A.in1.in1.in1.handled = none := by simp [h0]
        have ne1 : p ≠ (s.heap.push (setO0 w)).objs.size := by
          rw [Heap.size_push]
          exact Nat.ne_of_lt (Nat.lt_succ_of_lt lt0)
        have nin : s.heap.objs.size ∉ [(s.heap.push (setO0 w)).objs.size, p] := by
          rw [Heap.size_push]
          intro z
          rcases List.mem_cons.mp z with z | z
          · exact absurd z (Nat.ne_of_lt (Nat.lt_succ_self _))
          · exact absurd (List.mem_singleton.mp z) (Nat.ne_of_gt lt0)
        have vals_ : ∀ (i : Nat) (v : Value), arr[i]? = some v → ∃ k t, zs[i]? = some k ∧ v = .int k t := fun i v hv => by
          have hi : i < zs.length := by rw [← sz]; exact (Array.getElem?_eq_some_iff.mp hv).1
          obtain ⟨t, z⟩ := PyProof.Rows.IntsAre.int_at hz i v (by rw [Array.getElem?_toList]; exact hv)
          exact ⟨zs[i], t, List.getElem?_eq_getElem hi, by rw [z, List.getD_eq_getElem?_getD, List.getElem?_eq_getElem hi] <;> rfl⟩
        refine set_update_ints ((Walks.list hd3 _ p ne1 arr).toS) s.heap.objs.size nin zs sz room vals_ (arr.size - 0) 0 _ (by omega) (Nat.zero_le _) ⟨⟨_, Heap.get?_push_size _ rfl, rfl, rfl⟩, (lp1.push _)⟩ ?_ ?_
        · refine ⟨0, Nat.le_refl 0, setR_new_at ?_⟩
          exact Heap.get?_push_of_some _ g0
        · intro k c mv _ sr
          obtain ⟨h1, g1, d1, t1, o1⟩ := k
          have e1 : g1 = s.gens := mv.gens
          have e2 : d1 = s.drawn := mv.drawn
          have e3 : o1 = s.os := mv.os
          subst e1; subst e2; subst e3
          show wpAny _ _ _ _ _ _
          refine wpAny_pure ?_
          show wpAny _ _ (ret Value.none) _ _ _
          refine wpAny_pure ⟨rfl, h1, t1, c, rfl, sr, fun b o z => ?_⟩
          have lb : b < s.heap.objs.size := Heap.lt_size z
          refine mv.heap b o (fun q => ?_) (Heap.get?_push_of_some _ (Heap.get?_push_of_some _ z))
          rcases List.mem_cons.mp q with q | q
          · exact absurd q (Nat.ne_of_lt lb)
          · have q := List.mem_singleton.mp q
            rw [Heap.size_push] at q
            exact absurd q (Nat.ne_of_lt (Nat.lt_succ_of_lt lb))
      · cases r2 with
        | error x => exact hb
        | ok f2 =>
          cases f2 with
          | ret v =>
            obtain ⟨rfl, h1, t, c, rfl, sr, kp⟩ := hb
            repeat (any_goals (first | assumption | wp_step))
            exact fin _ _ _ sr kp
          | _ => exact hb.elim
    | _ => exact ha.elim
end
end Ip
end
section
set_option Elab.async false
set_option linter.all false
set_option maxRecDepth 100000
set_option maxHeartbeats 4000000
set_option autoImplicit false
namespace Ip
open PySem PySem.Spec PyProof.Rows L2
theorem nodup_le {α : Type} [BEq α] [LawfulBEq α] : ∀ {l u : List α}, l.Nodup → (∀ x ∈ l, x ∈ u) → l.length ≤ u.length
  | [], _, _, _ => Nat.zero_le _
  | x :: l, u, nd, h => by
    have hx := h x List.mem_cons_self
    obtain ⟨n1, n2⟩ := List.nodup_cons.mp nd
    have := nodup_le (l := l) (u := u.erase x) n2 fun y hy => (List.mem_erase_of_ne fun (e : y = x) => n1 (by rw [← e]; exact hy)).mpr (h y (List.mem_cons_of_mem _ hy))
    rw [List.length_erase_of_mem hx] at this
    have := List.length_pos_of_mem hx
    simp only [List.length_cons]
    omega
/-- in order, each once -/
def insU (k : Int) : List Int → List Int
  | [] => [k]
  | x :: l => if k < x then k :: x :: l else if k = x then x :: l else x :: insU k l
def srt (ns : List Int) : List Int := ns.foldr insU []
theorem insU_mem {k j : Int} : ∀ {l : List Int}, j ∈ insU k l ↔ j = k ∨ j ∈ l
  | [] => by simp [insU]
  | x :: l => by
    unfold insU
    split
    · simp
    · split
      · rename_i e; subst e; simp
      · rw [List.mem_cons, insU_mem (l := l), List.mem_cons]
        constructor
        · rintro (h | h | h)
          · exact .inr (.inl h)
          · exact .inl h
          · exact .inr (.inr h)
        · rintro (h | h | h)
          · exact .inr (.inl h)
          · exact .inl h
          · exact .inr (.inr h)
theorem insU_up {k : Int} : ∀ {l : List Int}, l.Pairwise (· < ·) → (insU k l).Pairwise (· < ·)
  | [], _ => by simp [insU]
  | x :: l, h => by
    obtain ⟨h1, h2⟩ := List.pairwise_cons.mp h
    unfold insU
    split
    · rename_i hk
      refine List.pairwise_cons.mpr ⟨fun y hy => ?_, h⟩
      rcases List.mem_cons.mp hy with rfl | hy
      · exact hk
      · exact Int.lt_trans hk (h1 y hy)
    · split
      · exact h
      · refine List.pairwise_cons.mpr ⟨fun y hy => ?_, insU_up h2⟩
        rcases insU_mem.mp hy with rfl | hy
        · omega
        · exact h1 y hy
theorem srt_mem {ns : List Int} {j : Int} : j ∈ srt ns ↔ j ∈ ns := by
  unfold srt
  induction ns with
  | nil => rfl
  | cons x l ih => rw [List.foldr_cons, insU_mem, ih, List.mem_cons]
theorem srt_up (ns : List Int) : (srt ns).Pairwise (· < ·) := by
  unfold srt
  induction ns with
  | nil => exact .nil
  | cons x l ih => exact insU_up ih
theorem up_uniq : ∀ {a b : List Int}, a.Pairwise (· < ·) → b.Pairwise (· < ·) → (∀ j, j ∈ a ↔ j ∈ b) → a = b
  | [], [], _, _, _ => rfl
  | [], y :: b, _, _, h => absurd ((h y).mpr List.mem_cons_self) List.not_mem_nil
  | x :: a, [], _, _, h => absurd ((h x).mp List.mem_cons_self) List.not_mem_nil
  | x :: a, y :: b, ha, hb, h => by
    obtain ⟨a1, a2⟩ := List.pairwise_cons.mp ha
    obtain ⟨b1, b2⟩ := List.pairwise_cons.mp hb
    have e : x = y := by
      rcases List.mem_cons.mp ((h x).mp List.mem_cons_self) with z | z
      · exact z
      · rcases List.mem_cons.mp ((h y).mpr List.mem_cons_self) with w | w
        · exact w.symm
        · have := b1 x z
          have := a1 y w
          omega
    subst e
    rw [up_uniq a2 b2 fun j => ?_]
    constructor
    · intro hj
      rcases List.mem_cons.mp ((h j).mp (List.mem_cons_of_mem _ hj)) with z | z
      · subst z; exact absurd (a1 _ hj) (Int.lt_irrefl _)
      · exact z
    · intro hj
      rcases List.mem_cons.mp ((h j).mpr (List.mem_cons_of_mem _ hj)) with z | z
      · subst z; exact absurd (b1 _ hj) (Int.lt_irrefl _)
      · exact z
section
variable {X : Cx} {cl : Str → Option Addr} {W : WX} {G : Gx}
def rSetL (K : PySem.W.Frag) (w : World) : List V → Hp → VK → Prop := fun xs H Q => ∃ (l : Addr) (ns : List Int), xs = [.ref l] ∧ SqL K H l (ns.map V.int) ∧ ns.length < 4000 ∧
  ∀ p c, H p = none → c ≤ (srt ns).length → Q (.ref p) (upd H p (SetO w p (fun j => decide (j ∈ ns)) c))
theorem setR_card {w : World} {h : Heap} {a : Addr} {ns : List Int} {c : Nat} (R : SetR w h a (fun j => decide (j ∈ ns)) c) : c ≤ (srt ns).length := by
  obtain ⟨o, es, ep, t, _, _, _, _, nd, hm, _, _, hn, _⟩ := R
  rw [← hn, ← Array.length_toList, ← List.length_map (f := keyOf) (as := es.toList)]
  exact nodup_le nd fun x hx => srt_mem.mpr (of_decide_eq_true ((hm x).mpr hx))
theorem cr_setL (hc : X.calm = true) : CallR X (.type "set") (rSetL X.K X.w) := by
  intro pins s σ H xs us Q I r h
  obtain ⟨l, ns, rfl, hq, hl, q⟩ := h
  rw [Vals.ref1 r]
  obtain ⟨its, rv, pl, hz⟩ := I.list hq
  refine set_of_lst (arr := its.toArray) ns (I.ok.hd hc) pl.isList (intsAre_of rv) (by unfold scanBound; omega) fun h1 t c sr kp => ?_
  have hn : H s.heap.objs.size = none := I.hok.fresh (Nat.le_refl _)
  exact ⟨.ref _, upd H s.heap.objs.size (SetO X.w s.heap.objs.size (fun j => decide (j ∈ ns)) c), I.laid (t' := t) (fun b o e => kp b o e) (Nat.le_refl _) (setO_new sr), rfl, q _ c hn (setR_card sr)⟩
def intsD : List D → Option (List Int)
  | [] => some []
  | .int i :: l => (intsD l).map (i :: ·)
  | _ => none
theorem intsD_map : ∀ ns : List Int, intsD (ns.map D.int) = some ns
  | [] => rfl
  | n :: ns => by simp [intsD, intsD_map ns]
theorem intsD_ok {H : Hp} {ρ : Rho} : ∀ {l : List D} {vs : List V} {ns : List Int}, RVs G H ρ l vs → intsD l = some ns → vs = ns.map V.int
  | [], _, _, .nil, h => by cases h; rfl
  | d :: l, _, ns, .cons r rs, h => by
    cases r with
    | int i =>
      have h : (intsD l).map (i :: ·) = some ns := h
      obtain ⟨ms, e1, e2⟩ := Option.map_eq_some_iff.mp h
      rw [← e2, intsD_ok rs e1]
      rfl
    | _ => cases h
def gSortSet : List D → Sto → Option (D × Sto)
  | [.lst l], M => match intsD l with
    | some ns => if ns.length < 4000 ∧ (srt ns).length < 64 then some (.lst ((srt ns).map .int), M) else none
    | none => none
  | _, _ => none
theorem se_sortSet {e : Expr} {fe : DE} {p p2 pos pos2 : Pos} (hc : X.calm = true) (hgs : Gl X "sorted") (hms : X.mg "sorted" = none) (hgt : Gl X "set") (hmt : X.mg "set" = none) (he : SE X cl W e fe)
    (h1 : starEach [e] X.env = (false, eval e X.env) :: starEach [] X.env := by rfl) (h2 : (backTo pos2 (starEach [] X.env)).any (·.1) = false := by rfl)
    (h3 : starEach [Expr.Call (.Name "set" p2) [e] [] pos2] X.env = (false, eval (Expr.Call (.Name "set" p2) [e] [] pos2) X.env) :: starEach [] X.env := by rfl) (h4 : (backTo pos (starEach [] X.env)).any (·.1) = false := by rfl) :
    SE X cl W (.Call (.Name "sorted" p) [.Call (.Name "set" p2) [e] [] pos2] [] pos) (dCallB gSortSet (dConsA fe dNilA)) :=
  PEweak (pe_callB (cr_sortedSet hc) hgs hms (by decide +kernel) (pa_cons (pe_callTy (cr_setL hc) hgt hmt (by decide +kernel) (pa_cons he pa_nil h1) (by decide) (by decide) h1 h2) pa_nil h3) (by decide) (by decide) h3 h4) fun σ H Q ⟨ρ, env, M, hE, hS, h⟩ => by
    refine ⟨ρ, env, M, hE, hS, (post_bind (post_bind h)).imp (fun x M1 hx ρ1 v H1 e1 S1 r1 => ?_) (fun _ _ _ z => z)⟩
    obtain ⟨d, M', eg, q⟩ := lift_some hx
    cases r1 with
    | lst hs hn rs =>
      rename_i a vs ds
      have eg : (match intsD ds with
        | some ns => if ns.length < 4000 ∧ (srt ns).length < 64 then some (D.lst ((srt ns).map .int), M1) else none
        | none => none) = some (d, M') := eg
      cases hi : intsD ds with
      | none => rw [hi] at eg; cases eg
      | some ns =>
        rw [hi] at eg
        simp only at eg
        split at eg
        · rename_i hl
          cases eg
          have ev := intsD_ok rs hi
          subst ev
          refine ⟨_, ns, rfl, SqL.of hs, hl.1, fun a c ha hcard => ⟨a, _, c, rfl, upd_same, by omega, fun ns' b up mem len hb => ?_⟩⟩
          have e2 : ns' = srt ns := up_uniq up (srt_up ns) fun j => by rw [mem j, srt_mem, decide_eq_true_eq]
          subst e2
          have S2 := S1.new (o := SetO X.w a (fun j => decide (j ∈ ns)) c) ha
          exact (oP.sh e1 q) ρ1 (.ref b) _ ((Ext.new S1 ha).trans (Ext.new S2 hb)) (S2.new hb) (.lst upd_same (S2.fresh hb) (RVs.ints _))
        · cases eg
    | _ => cases eg
end
end Ip
end
section
set_option Elab.async false
set_option linter.all false
set_option maxRecDepth 100000
set_option maxHeartbeats 4000000
set_option autoImplicit false
namespace Ip
open PySem PyProof.Rows L2
section
variable {X : Cx} {cl : Str → Option Addr} {W : WX} {G : Gx}
def anyD (ds : List PyData) (d : PyData) : Bool := ds.any fun z => PyData.eqv z d
def rInT (K : PySem.W.Frag) (n : Bool) : R2 := fun x y H Q => ∃ d ds, Dp K H x d ∧ ((Dp K H y (.list ds) ∧ SeqAt.shaped (.list ds) = true) ∨ (Dp K H y (.tuple ds) ∧ SeqAt.shaped (.tuple ds) = true)) ∧ SeqAt.shaped d = true ∧ Q (.bl (if n then !anyD ds d else anyD ds d)) H
theorem op_notInT (hu : X.A.units + 65 < cLine) : OpR X (compareOp .NotIn) (rInT X.K true) := by
  intro pins s σ H x y v u Q I rx ry h
  obtain ⟨d, ds, hd, he, sd, q⟩ := h
  obtain ⟨as, r1⟩ := Dp.reads I d x v hd rx
  rcases he with ⟨he, se⟩ | ⟨he, se⟩
  · obtain ⟨bs, r2⟩ := Dp.reads I (.list ds) y u he ry
    exact SeqAt.notIn_list_reads r2 r1 (SeqAt.canLay_of_shaped se) (SeqAt.canLay_of_shaped sd) (room_in_shaped sd hu) ⟨.bl _, H, I, rfl, q⟩
  · obtain ⟨bs, r2⟩ := Dp.reads I (.tuple ds) y u he ry
    exact SeqAt.notIn_tuple_reads r2 r1 (SeqAt.canLay_of_shaped se) (SeqAt.canLay_of_shaped sd) (room_in_shaped sd hu) ⟨.bl _, H, I, rfl, q⟩
def inD (x y : D) (M : Sto) : Option Bool := match pyM x M, pyM y M with
  | some p, some (.list qs) => if SeqAt.shaped p && SeqAt.shaped (.list qs) then some (anyD qs p) else none
  | some p, some (.tuple qs) => if SeqAt.shaped p && SeqAt.shaped (.tuple qs) then some (anyD qs p) else none
  | _, _ => none
def gIn (n : Bool) : G2 := fun x y M => (inD x y M).map fun b => (.bl (if n then !b else b), M)
theorem inD_some {x y : D} {M : Sto} {b : Bool} (h : inD x y M = some b) : ∃ p qs, pyM x M = some p ∧ SeqAt.shaped p = true ∧ ((pyM y M = some (.list qs) ∧ SeqAt.shaped (.list qs) = true) ∨ (pyM y M = some (.tuple qs) ∧ SeqAt.shaped (.tuple qs) = true)) ∧ b = anyD qs p := by
  unfold inD at h
  split at h
  · rename_i p qs h1 h2
    split at h
    · rename_i hs
      rw [Bool.and_eq_true] at hs
      cases h
      exact ⟨p, qs, h1, hs.1, .inl ⟨h2, hs.2⟩, rfl⟩
    · cases h
  · rename_i p qs h1 h2
    split at h
    · rename_i hs
      rw [Bool.and_eq_true] at hs
      cases h
      exact ⟨p, qs, h1, hs.1, .inr ⟨h2, hs.2⟩, rfl⟩
    · cases h
  · cases h
theorem ops_in (n : Bool) : OpS G (rInT G.K n) (gIn n) := fun H ρ M x y dx dy d M' Q S rx ry e z => by
  unfold gIn at e
  cases hb : inD dx dy M with
  | none => rw [hb] at e; cases e
  | some b =>
    rw [hb] at e; cases e
    have hq := z ρ _ H .refl S (.bl _)
    obtain ⟨p, qs, h1, h2, h3, rfl⟩ := inD_some hb
    refine ⟨p, qs, pyM_ok S rx h1, ?_, h2, hq⟩
    rcases h3 with ⟨h3, h4⟩ | ⟨h3, h4⟩
    · exact .inl ⟨pyM_ok S ry h3, h4⟩
    · exact .inr ⟨pyM_ok S ry h3, h4⟩
theorem room_65 {k : Nat} (hr : Room k X.A) : X.A.units + 65 < cLine := by
  have := hr.un
  omega
variable {a b : Expr} {fa fb : DE} {pos : Pos}
theorem st_notin {k : Nat} (hr : Room k X.A) (ha : SE X cl W a fa) (hb : SE X cl W b fb) (hm : behindInMarks .NotIn b = false := by rfl) : ST X cl W (.Compare a [.NotIn] [b] pos) (dB (dBin (gIn true) fa fb)) := st_cmp (op_notInT (room_65 hr)) (ops_in true) ha hb hm
end
end Ip
end
section
set_option Elab.async false
set_option linter.all false
set_option maxRecDepth 100000
set_option maxHeartbeats 4000000
set_option autoImplicit false
namespace Ip
open PySem PySem.Spec PyProof.Rows L2
end Ip
end
section
set_option Elab.async false
set_option linter.all false
set_option maxRecDepth 100000
set_option maxHeartbeats 4000000
set_option autoImplicit false
namespace Ip
open PySem PySem.Spec PyProof.Rows L2
section
variable {G : Gx} {H : Hp} {ρ : Rho} {κ : Type} [DecidableEq κ]
abbrev KD := List (List Key) × List D
structure SDd (G : Gx) (H1 : Hp) (ρ1 : Rho) (L : Addr) (H : Hp) (ρ : Rho) (M : Sto) (acc : KD) : Prop where
  t : ρ.t = L :: ρ1.t
  x : Ext G H1 ρ1 H ⟨ρ.c, ρ1.t⟩
  a : ∃ av, H L = some (.dT (acc.1.zip av)) ∧ acc.1.length = av.length ∧ RVs G H ρ acc.2 av
  s : RS G H ρ M
variable {H1 H' : Hp} {ρ1 ρ' : Rho} {L : Addr} {M M' : Sto} {acc : KD}
theorem SDd.inT (h : SDd G H1 ρ1 L H ρ M acc) : L ∈ ρ.t := by rw [h.t]; exact List.mem_cons_self
theorem SDd.ext (h0 : H1 L = none) (h : SDd G H1 ρ1 L H ρ M acc) (x : Ext G H ρ H' ρ') (S' : RS G H' ρ' M') : SDd G H1 ρ1 L H' ρ' M' acc := by
  refine ⟨x.res.trans h.t, ⟨fun n a z => x.pre n a (h.x.pre n a z), rfl, fun a z => (x.same a (by rw [h.t]; exact List.mem_cons_of_mem _ z)).trans (h.x.same a z), fun a xs z => x.tup a xs (h.x.tup a xs z), fun a o n nt z => ?_⟩, ?_, S'⟩
  · obtain ⟨k1, k2⟩ := h.x.keep a o n nt z
    have k3 : a ∉ ρ := fun w => by
      rcases w with w | w
      · exact k2 (.inl w)
      · rw [h.t] at w
        rcases List.mem_cons.mp w with w | w
        · rw [w, h0] at z; cases z
        · exact n (.inr w)
    obtain ⟨k4, k5⟩ := x.keep a o k3 nt k1
    exact ⟨k4, fun w => by
      rcases w with w | w
      · exact k5 (.inl w)
      · exact n (.inr w)⟩
  · obtain ⟨av, z, l, r⟩ := h.a
    exact ⟨av, (x.same L h.inT).trans z, l, r.mono x⟩
end
end Ip
end
section
set_option Elab.async false
set_option linter.all false
set_option maxRecDepth 100000
set_option maxHeartbeats 4000000
set_option autoImplicit false
namespace Ip
open PySem PySem.Spec PyProof.Rows L2
abbrev II := Int × Int
def pK (p : II) : List Key := [.inl p.1, .inl p.2]
end Ip
end
section
set_option Elab.async false
set_option linter.all false
set_option maxRecDepth 100000
set_option maxHeartbeats 4000000
set_option autoImplicit false
namespace Ip
open PySem PySem.Spec PyProof.Rows L2
end Ip
end
section
set_option Elab.async false
set_option linter.all false
set_option maxRecDepth 100000
set_option maxHeartbeats 4000000
set_option autoImplicit false
namespace Ip
open PySem PySem.Spec PyProof.Rows L2
end Ip
end
section
set_option Elab.async false
set_option linter.all false
set_option maxRecDepth 100000
set_option maxHeartbeats 1000000
namespace Ip
open PySem PySem.Spec PyProof.Rows L2
abbrev Ks := List (Addr × List Int)
def FewD (ks : Ks) : Prop := ∀ L : Ks, (∀ q ∈ L, q ∈ ks) → (L.map (·.2)).Nodup → L.length < 63
theorem FewD.lt {ks L : Ks} {P : Program} {w : World} {h : Heap} {S : Addr} {es : Array (Int × Value)} {ep i : Nat} {t : SetTable} (few : FewD ks) (T : SetTR P w h S L es ep t) (g : Got ks i L) : L.length < 63 :=
  few L (fun q hq => List.mem_of_mem_take (g.sub q hq)) T.nd
end Ip
end
section
set_option Elab.async false
set_option linter.all false
set_option maxRecDepth 100000
set_option maxHeartbeats 4000000
set_option autoImplicit false
namespace Ip
open PySem PySem.Spec PyProof.Rows L2
end Ip
end
section
set_option Elab.async false
set_option linter.all false
set_option maxRecDepth 100000
set_option maxHeartbeats 1000000
namespace Ip
open PySem PySem.Spec PyProof.Rows L2
end Ip
end
section
set_option Elab.async false
set_option linter.all false
set_option maxRecDepth 100000
set_option maxHeartbeats 4000000
set_option autoImplicit false
namespace Ip
open PySem PySem.Spec PyProof.Rows L2
end Ip
end
section
set_option Elab.async false
set_option linter.all false
set_option maxRecDepth 100000
set_option maxHeartbeats 1000000
set_option autoImplicit false
namespace Ip
open PySem PySem.Spec PyProof.Rows L2
/-- two heaps that differ by the lock of one dict -/
structure Lk (H H2 : Hp) (d : Addr) (kvs : List (List Key × V)) : Prop where
  off : ∀ a, a ≠ d → H2 a = H a
  h1 : Rd H d (.dT kvs)
  h2 : Rd H2 d (.dT kvs)
section
variable {G : Gx} {H H2 : Hp} {ρ : Rho} {d : Addr} {kvs : List (List Key × V)} {M : Sto}
theorem Lk.at (L : Lk H H2 d kvs) {a : Addr} {o : HO} (h : H a = some o) (n1 : ∀ kv, o ≠ .dT kv) (n2 : ∀ q kv, o ≠ .frz q (.dT kv)) : H2 a = some o := by
  have : a ≠ d := by
    rintro rfl
    rcases L.h1 with e | ⟨q, e⟩
    · rw [h] at e; exact n1 _ (Option.some.inj e)
    · rw [h] at e; exact n2 _ _ (Option.some.inj e)
  rw [L.off a this, h]
end
end Ip
end
section
set_option Elab.async false
set_option linter.all false
set_option maxRecDepth 100000
set_option maxHeartbeats 4000000
set_option autoImplicit false
namespace Ip
open PySem PySem.Spec PyProof.Rows L2
/-- .. no name of its own that the maker's slots have -/
structure LamSD (N : List Str) (sc scope : Scope) : Prop where
  kind : scope.kind = .function
  co : scope.isCoroutine = false
  gen : scope.isGenerator = false
  cel : ∀ y ∈ scope.names, y.2 ≠ .cell
  own : ∀ y ∈ scope.names, y.2 = .local → y.1 ∉ N
  free : ∀ y ∈ scope.names, y.2 = .free → sc.names.lookup y.1 = some .cell ∨ sc.names.lookup y.1 = some .free
theorem LamSD.has {N : List Str} {X : Cx} {scope : Scope} (L : LamSD N X.env.scope scope) (ok : X.Ok) : ∀ y ∈ scope.names, y.2 = .free → ∃ c, X.env.cells.lookup y.1 = some c := fun y hy e => by
  rcases L.free y hy e with k | k
  · exact ok.has _ (.inl k)
  · exact ok.has _ (.inr k)
end Ip
end
section
set_option Elab.async false
set_option linter.all false
set_option maxRecDepth 100000
set_option maxHeartbeats 4000000
set_option autoImplicit false
namespace Ip
open PySem PySem.Spec PyProof.Rows L2
theorem rv_words {K : PySem.W.Frag} {cl : Str → Option Addr} {a : Addr} {od : Option Addr} {n : Nat} {sl : Array (Option Value)} {t1 t2 t3 t4 : Tok}
    (h : K.lookup a = some ⟨.type "tuple", od, .seq #[.str "insert_rows" t1, .str "delete_rows" t2, .str "insert_columns" t3, .str "delete_columns" t4] n, sl⟩) (H : Hp) (ρ : Rho) :
    RV ⟨K, cl⟩ H ρ (.tup [.str "insert_rows", .str "delete_rows", .str "insert_columns", .str "delete_columns"]) (.ref a) :=
  .tup (vs := [.str "insert_rows", .str "delete_rows", .str "insert_columns", .str "delete_columns"]) (.no (.inr ⟨_, _, _, h, rfl, rfl, by rw [sizeLine_eq]; exact (by decide : (4 : Nat) ≤ 16777216), .cons ⟨t1, rfl⟩ (.cons ⟨t2, rfl⟩ (.cons ⟨t3, rfl⟩ (.cons ⟨t4, rfl⟩ .nil)))⟩) fun z => by obtain ⟨i, e⟩ := z.2 (.str "insert_rows") (by simp); cases e)
    (.cons (.str _) (.cons (.str _) (.cons (.str _) (.cons (.str _) .nil))))
theorem rv_all {K : PySem.W.Frag} {cl : Str → Option Addr} {a : Addr} {od : Option Addr} {n : Nat} {sl : Array (Option Value)} {t1 : Tok}
    (h : K.lookup a = some ⟨.type "tuple", od, .seq #[.int 0 t1, .none] n, sl⟩) (H : Hp) (ρ : Rho) : RV ⟨K, cl⟩ H ρ (.tup [.int 0, .non]) (.ref a) :=
  .tup (vs := [.int 0, .non]) (.no (.inr ⟨_, _, _, h, rfl, rfl, by rw [sizeLine_eq]; exact (by decide : (2 : Nat) ≤ 16777216), .cons ⟨t1, rfl⟩ (.cons rfl .nil)⟩) fun z => by obtain ⟨i, e⟩ := z.2 .non (by simp); cases e) (.cons (.int 0) (.cons .non .nil))
def dM1 (g : Str → Str → Option D) (fo fe : DE) : DE := fun env M => (fo env M).bind fun x M1 => match x with
  | .str a => (fe env M1).bind fun y M2 => match y with
    | .str b => match g a b with
      | some d => .ok d M2
      | none => .bad
    | _ => .bad
  | _ => .bad
def gEnds (a b : Str) : Option D := some (.bl (Txt.endswith a b))
def gPart (a b : Str) : Option D := if (b.length == 0) = false ∧ a.length ≤ 16777216 then some (.tup [.str (Txt.partition a b).1, .str (Txt.partition a b).2.1, .str (Txt.partition a b).2.2]) else none
section
variable {X : Cx} {cl : Str → Option Addr} {W : WX} {G : Gx}
theorem m1_ok {g : Str → Str → Option D} {r : V → List V → Hp → VK → Prop} {fo fe : DE} (hg : ∀ (H : Hp) (ρ : Rho) (M : Sto) (a b : Str) (d : D) (Q : VK), RS G H ρ M → g a b = some d → oP G H ρ Q d M → r (.str a) [.str b] H Q) {σ : L2.St} {H : Hp} {Q : VK} (h : dE G W (dM1 g fo fe) σ H Q) :
    tM1 r (dE G W fo) (dE G W fe) σ H Q := by
  obtain ⟨ρ, env, M, hE, hS, h⟩ := h
  refine ⟨ρ, env, M, hE, hS, (post_bind h).imp (fun x M1 hx ρ1 v H1 e1 S1 r1 => ?_) (fun _ _ _ z => z)⟩
  split at hx
  · rename_i a
    cases r1
    refine ⟨⟨a, rfl⟩, ρ1, env, M1, hE.mono e1, S1, (post_bind hx).imp (fun y M2 hy ρ2 w H2 e2 S2 r2 => ?_) (fun _ _ _ z => eP.sh e1 z)⟩
    split at hy
    · rename_i b
      cases r2
      split at hy
      · rename_i d hd
        exact hg H2 ρ2 M2 a b d Q S2 hd (oP.sh (e1.trans e2) hy)
      · exact hy.elim
    · exact hy.elim
  · exact hx.elim
theorem se_ends {o e : Expr} {fo fe : DE} {apos pos : Pos} (ho : SE X cl W o fo) (he : SE X cl W e fe) (hs : starEach [e] X.env = [(false, eval e X.env)] := by rfl) (hbase : attributeBase o "endswith" X.env (eval o X.env) = eval o X.env := by rfl) (hline : (apos.endLine == pos.line) = true := by rfl) :
    SE X cl W (.Call (.Attribute o "endswith" apos) [e] [] pos) (dM1 gEnds fo fe) :=
  PEweak (pe_m1 F.slot_str_endswith F.type_str_endswith mt_endswith ho he hs hbase hline) fun σ H Q h => m1_ok (G := gx X cl) (fun H ρ M a b d Q S e z => by
    cases e
    exact ⟨a, b, rfl, rfl, z ρ _ H .refl S (.bl _)⟩) h
theorem se_partition {o e : Expr} {fo fe : DE} {apos pos : Pos} (ho : SE X cl W o fo) (he : SE X cl W e fe) (hs : starEach [e] X.env = [(false, eval e X.env)] := by rfl) (hbase : attributeBase o "partition" X.env (eval o X.env) = eval o X.env := by rfl) (hline : (apos.endLine == pos.line) = true := by rfl) :
    SE X cl W (.Call (.Attribute o "partition" apos) [e] [] pos) (dM1 gPart fo fe) :=
  PEweak (pe_partition ho he hs hbase hline) fun σ H Q h => m1_ok (G := gx X cl) (fun H ρ M a b d Q S e z => by
    unfold gPart at e
    split at e
    · rename_i c
      cases e
      refine ⟨a, b, rfl, rfl, c.1, by rw [sizeLine_eq]; exact c.2, fun p hp => ?_⟩
      have en := Ext.new (o := .tup [.str (Txt.partition a b).1, .str (Txt.partition a b).2.1, .str (Txt.partition a b).2.2]) S hp
      exact z ρ (.ref p) _ en (S.new hp) (.tup (TpA.of upd_same) (.cons (.str _) (.cons (.str _) (.cons (.str _) .nil))))
    · cases e) h
end
end Ip
end
section
set_option Elab.async false
set_option linter.all false
set_option maxRecDepth 100000
set_option maxHeartbeats 4000000
set_option autoImplicit false
namespace Ip
open PySem PyProof.Rows L2
section
variable {α β : Type} (env : En) (M : Sto)
theorem bind_ok (a : α) (k : α → Sto → Out β) : (Out.ok a M).bind k = k a M := rfl
theorem bind_bad (k : α → Sto → Out β) : (Out.bad : Out α).bind k = .bad := rfl
theorem liftM_some (d : D) : Ip.liftM (some (d, M)) = .ok d M := rfl
theorem liftM_none : Ip.liftM none = .bad := rfl
theorem noex_ok (a : α) : noex (.ok a M) = .ok a M := rfl
theorem noex_bad : noex (.bad : Out α) = .bad := rfl
def varO (o : Option (Option D)) (M : Sto) : Out D := match o with
  | some (some d) => .ok d M
  | _ => .bad
theorem ev_var (i : Nat) : dVar i env M = varO env[i]? M := rfl
theorem ev_varO (d : D) : varO (some (some d)) M = .ok d M := rfl
theorem celL_l (l : List D) : celL (some (.lst l)) = some l := rfl
theorem asL_ref (n : Nat) : asL (.ref n) M = celL M[n]? := rfl
theorem asL_lst (l : List D) : asL (.lst l) M = some l := rfl
theorem ev_c (d : D) : dC d env M = .ok d M := rfl
def kBin2 (g : G2) (x : D) : D → Sto → Out D := fun y M2 => Ip.liftM (g x y M2)
def kBin (g : G2) (fb : DE) (env : En) : D → Sto → Out D := fun x M1 => (fb env M1).bind (kBin2 g x)
theorem ev_bin (g : G2) (fa fb : DE) : dBin g fa fb env M = (fa env M).bind (kBin g fb env) := rfl
theorem ev_kBin (g : G2) (fb : DE) (x : D) : kBin g fb env x M = (fb env M).bind (kBin2 g x) := rfl
theorem ev_kBin2 (g : G2) (x y : D) : kBin2 g x y M = Ip.liftM (g x y M) := rfl
def kUn (g : D → Sto → Option (D × Sto)) : D → Sto → Out D := fun x M1 => Ip.liftM (g x M1)
theorem ev_un (g : D → Sto → Option (D × Sto)) (fa : DE) : dUn g fa env M = (fa env M).bind (kUn g) := rfl
theorem ev_kUn (g : D → Sto → Option (D × Sto)) (x : D) : kUn g x M = Ip.liftM (g x M) := rfl
theorem ev_nilA : dNilA env M = .ok [] M := rfl
def kCons2 (x : D) : List D → Sto → Out (List D) := fun xs M2 => .ok (x :: xs) M2
def kCons (fr : DA) (env : En) : D → Sto → Out (List D) := fun x M1 => (fr env M1).bind (kCons2 x)
theorem ev_consA (fa : DE) (fr : DA) : dConsA fa fr env M = (fa env M).bind (kCons fr env) := rfl
theorem ev_kCons (fr : DA) (x : D) : kCons fr env x M = (fr env M).bind (kCons2 x) := rfl
theorem ev_kCons2 (x : D) (xs : List D) : kCons2 x xs M = .ok (x :: xs) M := rfl
def kTup : List D → Sto → Out D := fun xs M1 => if xs.length ≤ 16777216 then .ok (.tup xs) M1 else .bad
def kLst : List D → Sto → Out D := fun xs M1 => if xs.length ≤ 16777216 then .ok (.lst xs) M1 else .bad
def kLstC : List D → Sto → Out D := fun xs M1 => if xs.length ≤ 16777216 then .ok (.ref M1.length) (M1 ++ [.lst xs]) else .bad
theorem ev_tup (fa : DA) : dTup fa env M = (fa env M).bind kTup := rfl
theorem ev_lst (fa : DA) : dLst fa env M = (fa env M).bind kLst := rfl
theorem ev_lstC (fa : DA) : dLstC fa env M = (fa env M).bind kLstC := rfl
theorem ev_kTup (xs : List D) (h : xs.length ≤ 16777216) : kTup xs M = .ok (.tup xs) M := if_pos h
theorem ev_kLst (xs : List D) (h : xs.length ≤ 16777216) : kLst xs M = .ok (.lst xs) M := if_pos h
theorem ev_kLstC (xs : List D) (h : xs.length ≤ 16777216) : kLstC xs M = .ok (.ref M.length) (M ++ [.lst xs]) := if_pos h
def kCallB (g : List D → Sto → Option (D × Sto)) : List D → Sto → Out D := fun xs M1 => Ip.liftM (g xs M1)
theorem ev_callB (g : List D → Sto → Option (D × Sto)) (fa : DA) : dCallB g fa env M = (fa env M).bind (kCallB g) := rfl
theorem ev_kCallB (g : List D → Sto → Option (D × Sto)) (xs : List D) : kCallB g xs M = Ip.liftM (g xs M) := rfl
def kCall (F : DF) : List D → Sto → Out D := fun xs M1 => noex (F xs M1)
theorem ev_call (F : DF) (fa : DA) : dCall F fa env M = (fa env M).bind (kCall F) := rfl
theorem ev_kCall (F : DF) (xs : List D) : kCall F xs M = noex (F xs M) := rfl
def kIfE (fa fb : DE) (env : En) : Bool → Sto → Out D := fun c M1 => if c then fa env M1 else fb env M1
theorem ev_ifE (ft : DT) (fa fb : DE) : dIfE ft fa fb env M = (ft env M).bind (kIfE fa fb env) := rfl
theorem ev_kIfE_t (fa fb : DE) : kIfE fa fb env true M = fa env M := rfl
theorem ev_kIfE_f (fa fb : DE) : kIfE fa fb env false M = fb env M := rfl
def kAndV (fb : DE) (env : En) : D → Sto → Out D := fun x M1 => match x with
  | .bl true => fb env M1
  | .bl false => .ok (.bl false) M1
  | _ => .bad
def kOrV (fb : DE) (env : En) : D → Sto → Out D := fun x M1 => match x with
  | .bl true => .ok (.bl true) M1
  | .bl false => fb env M1
  | _ => .bad
def kNotV : D → Sto → Out D := fun x M1 => match x with
  | .bl b => .ok (.bl (!b)) M1
  | _ => .bad
theorem ev_andV (fa fb : DE) : dAndV fa fb env M = (fa env M).bind (kAndV fb env) := rfl
theorem ev_orV (fa fb : DE) : dOrV fa fb env M = (fa env M).bind (kOrV fb env) := rfl
theorem ev_notV (fa : DE) : dNotV fa env M = (fa env M).bind kNotV := rfl
theorem ev_kAndV_t (fb : DE) : kAndV fb env (.bl true) M = fb env M := rfl
theorem ev_kAndV_f (fb : DE) : kAndV fb env (.bl false) M = .ok (.bl false) M := rfl
theorem ev_kOrV_t (fb : DE) : kOrV fb env (.bl true) M = .ok (.bl true) M := rfl
theorem ev_kOrV_f (fb : DE) : kOrV fb env (.bl false) M = fb env M := rfl
theorem ev_kNotV (b : Bool) : kNotV (.bl b) M = .ok (.bl (!b)) M := rfl
def kAnd (fb : DT) (env : En) : Bool → Sto → Out Bool := fun c M1 => if c then fb env M1 else .ok false M1
def kOr (fb : DT) (env : En) : Bool → Sto → Out Bool := fun c M1 => if c then .ok true M1 else fb env M1
def kNot : Bool → Sto → Out Bool := fun c M1 => .ok (!c) M1
theorem ev_and (fa fb : DT) : dAnd fa fb env M = (fa env M).bind (kAnd fb env) := rfl
theorem ev_or (fa fb : DT) : dOr fa fb env M = (fa env M).bind (kOr fb env) := rfl
theorem ev_not (fa : DT) : dNot fa env M = (fa env M).bind kNot := rfl
theorem ev_kAnd_t (fb : DT) : kAnd fb env true M = fb env M := rfl
theorem ev_kAnd_f (fb : DT) : kAnd fb env false M = .ok false M := rfl
theorem ev_kOr_t (fb : DT) : kOr fb env true M = .ok true M := rfl
theorem ev_kOr_f (fb : DT) : kOr fb env false M = fb env M := rfl
theorem ev_kNot (b : Bool) : kNot b M = .ok (!b) M := rfl
def kTru : D → Sto → Out Bool := fun x M1 => match truD x M1 with
  | some b => .ok b M1
  | none => .bad
def kB : D → Sto → Out Bool := fun x M1 => match x with
  | .bl b => .ok b M1
  | _ => .bad
theorem ev_tru (fa : DE) : dTru fa env M = (fa env M).bind kTru := rfl
theorem ev_b (fa : DE) : dB fa env M = (fa env M).bind kB := rfl
theorem ev_kTru_bl (b : Bool) : kTru (.bl b) M = .ok b M := rfl
theorem ev_kTru_lst (l : List D) : kTru (.lst l) M = .ok (!l.isEmpty) M := rfl
theorem ev_kTru_tup (l : List D) : kTru (.tup l) M = .ok (!l.isEmpty) M := rfl
def truO (o : Option (List D)) (M : Sto) : Out Bool := match o with
  | some l => .ok (!l.isEmpty) M
  | none => .bad
theorem ev_kTru_ref (n : Nat) : kTru (.ref n) M = truO (celL M[n]?) M := by
  unfold kTru truD truO celL
  simp only
  cases h : M[n]? with
  | none => rfl
  | some c => cases c <;> rfl
theorem ev_truO (l : List D) : truO (some l) M = .ok (!l.isEmpty) M := rfl
theorem ev_kB (b : Bool) : kB (.bl b) M = .ok b M := rfl
theorem ev_yes : dYes env M = .ok true M := rfl
def kCh3 (g' : G2) (y : D) : D → Sto → Out D := fun w M4 => Ip.liftM (g' y w M4)
def kCh2 (g' : G2) (fc : DE) (env : En) (y : D) : D → Sto → Out D := fun z M3 => match z with
  | .bl true => (fc env M3).bind (kCh3 g' y)
  | .bl false => .ok (.bl false) M3
  | _ => .bad
def kCh1 (g g' : G2) (fc : DE) (env : En) (x : D) : D → Sto → Out D := fun y M2 => (Ip.liftM (g x y M2)).bind (kCh2 g' fc env y)
def kCh0 (g g' : G2) (fb fc : DE) (env : En) : D → Sto → Out D := fun x M1 => (fb env M1).bind (kCh1 g g' fc env x)
theorem ev_chain (g g' : G2) (fa fb fc : DE) : dChain g g' fa fb fc env M = (fa env M).bind (kCh0 g g' fb fc env) := rfl
theorem ev_kCh0 (g g' : G2) (fb fc : DE) (x : D) : kCh0 g g' fb fc env x M = (fb env M).bind (kCh1 g g' fc env x) := rfl
theorem ev_kCh1 (g g' : G2) (fc : DE) (x y : D) : kCh1 g g' fc env x y M = (Ip.liftM (g x y M)).bind (kCh2 g' fc env y) := rfl
theorem ev_kCh2_t (g' : G2) (fc : DE) (y : D) : kCh2 g' fc env y (.bl true) M = (fc env M).bind (kCh3 g' y) := rfl
theorem ev_kCh2_f (g' : G2) (fc : DE) (y : D) : kCh2 g' fc env y (.bl false) M = .ok (.bl false) M := rfl
theorem ev_kCh3 (g' : G2) (y w : D) : kCh3 g' y w M = Ip.liftM (g' y w M) := rfl
def kSl3 (x : D) (lo : Option Int) : Option Int → Sto → Out D := fun hi M3 => Ip.liftM (gSl x lo hi M3)
def kSl2 (fh : DO) (env : En) (x : D) : Option Int → Sto → Out D := fun lo M2 => (fh env M2).bind (kSl3 x lo)
def kSl1 (fl fh : DO) (env : En) : D → Sto → Out D := fun x M1 => (fl env M1).bind (kSl2 fh env x)
theorem ev_sl (fe : DE) (fl fh : DO) : dSl fe fl fh env M = (fe env M).bind (kSl1 fl fh env) := rfl
theorem ev_kSl1 (fl fh : DO) (x : D) : kSl1 fl fh env x M = (fl env M).bind (kSl2 fh env x) := rfl
theorem ev_kSl2 (fh : DO) (x : D) (lo : Option Int) : kSl2 fh env x lo M = (fh env M).bind (kSl3 x lo) := rfl
theorem ev_kSl3 (x : D) (lo hi : Option Int) : kSl3 x lo hi M = Ip.liftM (gSl x lo hi M) := rfl
def kPart : D → Sto → Out (Option Int) := fun x M1 => match x with
  | .int i => .ok (some i) M1
  | _ => .bad
theorem ev_part (fe : DE) : dPart fe env M = (fe env M).bind kPart := rfl
theorem ev_kPart (i : Int) : kPart (.int i) M = .ok (some i) M := rfl
theorem ev_noPart : dNoPart env M = .ok none M := rfl
def kSeq (g : DS) : Fl → Sto → Out Fl := fun fl M1 => match fl with
  | .nx env1 => g env1 M1
  | o => .ok o M1
theorem ev_seq (f g : DS) : dSeq f g env M = (f env M).bind (kSeq g) := rfl
theorem ev_kSeq_nx (g : DS) : kSeq g (.nx env) M = g env M := rfl
theorem ev_kSeq_rt (g : DS) (d : D) : kSeq g (.rt d) M = .ok (.rt d) M := rfl
theorem ev_kSeq_bk (g : DS) : kSeq g (.bk env) M = .ok (.bk env) M := rfl
theorem ev_kSeq_ct (g : DS) : kSeq g (.ct env) M = .ok (.ct env) M := rfl
theorem ev_skip : dSkip env M = .ok (.nx env) M := rfl
def kSet (i : Nat) (env : En) : D → Sto → Out Fl := fun d M1 => .ok (.nx (env.set i (some d))) M1
theorem ev_set (i : Nat) (fe : DE) : dSet i fe env M = (fe env M).bind (kSet i env) := rfl
theorem ev_kSet (i : Nat) (d : D) : kSet i env d M = .ok (.nx (env.set i (some d))) M := rfl
def kDrop (env : En) : D → Sto → Out Fl := fun _ M1 => .ok (.nx env) M1
theorem ev_drop (fe : DE) : dDrop fe env M = (fe env M).bind (kDrop env) := rfl
theorem ev_kDrop (d : D) : kDrop env d M = .ok (.nx env) M := rfl
def kRet : D → Sto → Out Fl := fun d M1 => .ok (.rt d) M1
theorem ev_ret (fe : DE) : dRet fe env M = (fe env M).bind kRet := rfl
theorem ev_kRet (d : D) : kRet d M = .ok (.rt d) M := rfl
theorem ev_retN : dRetN env M = .ok (.rt .non) M := rfl
def kIf (fa fb : DS) (env : En) : Bool → Sto → Out Fl := fun c M1 => if c then fa env M1 else fb env M1
theorem ev_if (ft : DT) (fa fb : DS) : dIf ft fa fb env M = (ft env M).bind (kIf fa fb env) := rfl
theorem ev_kIf_t (fa fb : DS) : kIf fa fb env true M = fa env M := rfl
theorem ev_kIf_f (fa fb : DS) : kIf fa fb env false M = fb env M := rfl
theorem ev_bad : dBad env M = .bad := rfl
def kAsg (t : DG) (env : En) : D → Sto → Out Fl := fun d M1 => match t d env with
  | some env' => .ok (.nx env') M1
  | none => .bad
theorem ev_asg (t : DG) (fe : DE) : dAsg t fe env M = (fe env M).bind (kAsg t env) := rfl
def asgO (o : Option En) (M : Sto) : Out Fl := match o with
  | some env' => .ok (.nx env') M
  | none => .bad
theorem ev_kAsg (t : DG) (d : D) : kAsg t env d M = asgO (t d env) M := by
  unfold kAsg asgO
  cases t d env <;> rfl
theorem ev_asgO (env' : En) : asgO (some env') M = .ok (.nx env') M := rfl
def kPar (i j : Nat) (env : En) : List D → Sto → Out Fl := fun ds M1 => match ds with
  | [x, y] => .ok (.nx ((env.set i (some x)).set j (some y))) M1
  | _ => .bad
theorem ev_par (i j : Nat) (fa : DA) : dPar i j fa env M = (fa env M).bind (kPar i j env) := rfl
theorem ev_kPar (i j : Nat) (x y : D) : kPar i j env [x, y] M = .ok (.nx ((env.set i (some x)).set j (some y))) M := rfl
def kFor (t : DG) (fb : DS) (env : En) : List D → Sto → Out Fl := fun items M1 => forGo t fb items env M1
theorem ev_for (t : DG) (fi : DA) (fb : DS) : dFor t fi fb env M = (fi env M).bind (kFor t fb env) := rfl
theorem ev_kFor (t : DG) (fb : DS) (l : List D) : kFor t fb env l M = forGo t fb l env M := rfl
def kGo (t : DG) (fb : DS) (ds : List D) : Fl → Sto → Out Fl := fun fl M1 => match fl with
  | .nx e => forGo t fb ds e M1
  | .ct e => forGo t fb ds e M1
  | .bk e => .ok (.nx e) M1
  | .rt d => .ok (.rt d) M1
theorem ev_go_nil (t : DG) (fb : DS) : forGo t fb [] env M = .ok (.nx env) M := rfl
def goO (t : DG) (fb : DS) (ds : List D) (o : Option En) (M : Sto) : Out Fl := match o with
  | some env1 => (fb env1 M).bind (kGo t fb ds)
  | none => .bad
theorem ev_go_cons (t : DG) (fb : DS) (d : D) (ds : List D) : forGo t fb (d :: ds) env M = goO t fb ds (t d env) M := by
  unfold forGo goO; cases t d env <;> rfl
theorem ev_goO (t : DG) (fb : DS) (ds : List D) (env1 : En) : goO t fb ds (some env1) M = (fb env1 M).bind (kGo t fb ds) := rfl
theorem ev_kGo_nx (t : DG) (fb : DS) (ds : List D) : kGo t fb ds (.nx env) M = forGo t fb ds env M := rfl
theorem ev_kGo_ct (t : DG) (fb : DS) (ds : List D) : kGo t fb ds (.ct env) M = forGo t fb ds env M := rfl
theorem ev_kGo_rt (t : DG) (fb : DS) (ds : List D) (d : D) : kGo t fb ds (.rt d) M = .ok (.rt d) M := rfl
def kIter : D → Sto → Out (List D) := fun x M1 => match iterD x with
  | some l => .ok l M1
  | none => .bad
theorem ev_iter (fe : DE) : dIter fe env M = (fe env M).bind kIter := rfl
theorem ev_kIter_l (l : List D) : kIter (.lst l) M = .ok l M := rfl
theorem ev_kIter_t (l : List D) : kIter (.tup l) M = .ok l M := rfl
theorem ev_kIter_s (ns : List Int) : kIter (.scr ns) M = .ok (ns.map D.int) M := rfl
def kRng1 : List D → Sto → Out (List D) := fun ds M1 => match ds with
  | [.int j] => if in62 j then .ok (rngD 0 j.toNat) M1 else .bad
  | _ => .bad
def kRng2 : List D → Sto → Out (List D) := fun ds M1 => match ds with
  | [.int i, .int j] => if in62 i && in62 j then .ok (rngD i (j - i).toNat) M1 else .bad
  | _ => .bad
theorem ev_rng1 (fa : DA) : dRng1 fa env M = (fa env M).bind kRng1 := rfl
theorem ev_rng2 (fa : DA) : dRng2 fa env M = (fa env M).bind kRng2 := rfl
def kEnum : List D → Sto → Out (List D) := fun ds M1 => match ds with
  | [.lst l] => .ok (enumD 0 l) M1
  | [.tup l] => .ok (enumD 0 l) M1
  | _ => .bad
theorem ev_enum (fa : DA) : dEnumA fa env M = (fa env M).bind kEnum := rfl
theorem ev_kEnum_l (l : List D) : kEnum [.lst l] M = .ok (enumD 0 l) M := rfl
theorem ev_kEnum_t (l : List D) : kEnum [.tup l] M = .ok (enumD 0 l) M := rfl
def kFld (c f : Str) : D → Sto → Out D := fun x M1 => match objOf c x M1 with
  | some (ks, ds) => match (ks.zip ds).lookup f with
    | some d => .ok d M1
    | none => .bad
  | none => .bad
theorem ev_fld (c f : Str) (fe : DE) : dFld c f fe env M = (fe env M).bind (kFld c f) := rfl
def fldO (o : Option D) (M : Sto) : Out D := match o with
  | some d => .ok d M
  | none => .bad
theorem ev_kFld (c f : Str) (ks : List Str) (ds : List D) : kFld c f (.obj c ks ds) M = fldO ((ks.zip ds).lookup f) M := by
  unfold kFld objOf fldO
  simp only [if_true]
theorem ev_fldO (d : D) : fldO (some d) M = .ok d M := rfl
def kRun : Fl → Sto → Out D := fun fl M1 => match fl with
  | .nx _ => .ok .non M1
  | .rt d => .ok d M1
  | _ => .bad
theorem ev_runF (n m : Nat) (fb : DS) (ds : List D) (h : ds.length = m) : runF n m fb ds M = (fb (ds.map some ++ List.replicate (n - m) none) M).bind kRun := if_pos h
theorem ev_kRun_rt (d : D) : kRun (.rt d) M = .ok d M := rfl
theorem ev_kRun_nx : kRun (.nx env) M = .ok .non M := rfl
def kLm2 (g : GM) (x : D) : List D → Sto → Out D := fun as M2 => Ip.liftM (g x as M2)
def kLm (g : GM) (fa : DA) (env : En) : D → Sto → Out D := fun x M1 => match asL x M1 with
  | some _ => (fa env M1).bind (kLm2 g x)
  | none => .bad
theorem ev_lm (g : GM) (fo : DE) (fa : DA) : dLm g fo fa env M = (fo env M).bind (kLm g fa env) := rfl
def lmO (g : GM) (fa : DA) (env : En) (n : Nat) (o : Option (List D)) (M : Sto) : Out D := match o with
  | some _ => (fa env M).bind (kLm2 g (.ref n))
  | none => .bad
theorem ev_kLm (g : GM) (fa : DA) (n : Nat) : kLm g fa env (.ref n) M = lmO g fa env n (celL M[n]?) M := by
  unfold kLm lmO; rw [asL_ref]
theorem ev_lmO (g : GM) (fa : DA) (n : Nat) (l : List D) : lmO g fa env n (some l) M = (fa env M).bind (kLm2 g (.ref n)) := rfl
theorem ev_kLm2 (g : GM) (x : D) (as : List D) : kLm2 g x as M = Ip.liftM (g x as M) := rfl
theorem setL_ref (n : Nat) (k : List D → Option (List D)) : setL (.ref n) M k = (celL M[n]?).bind fun l => (k l).map fun l' => M.set n (.lst l') := by
  unfold setL celL
  simp only
  cases h : M[n]? with
  | none => rfl
  | some c => cases c <;> rfl
def appL (y : D) (l : List D) : Option (List D) := if l.length < 16777216 then some (l ++ [y]) else none
theorem g_app (n : Nat) (y : D) : gApp (.ref n) [y] M = ((celL M[n]?).bind fun l => (appL y l).map fun l' => M.set n (.lst l')).map (D.non, ·) := by
  show Option.map _ (setL (.ref n) M (appL y)) = _
  rw [setL_ref]
theorem g_clear (n : Nat) : gClear (.ref n) [] M = ((celL M[n]?).map fun _ => M.set n (.lst [])).map (D.non, ·) := by
  unfold gClear
  simp only
  rw [setL_ref]
  cases celL M[n]? <;> rfl
def kSetIx3 (x y : D) (env : En) : D → Sto → Out Fl := fun i M3 => match i with
  | .int k => match setL x M3 fun l => (ixN l.length k).map fun j => l.set j y with
    | some M4 => .ok (.nx env) M4
    | none => .bad
  | _ => .bad
def kSetIx2 (fi : DE) (env : En) (y : D) : D → Sto → Out Fl := fun x M2 => (fi env M2).bind (kSetIx3 x y env)
def kSetIx1 (fo fi : DE) (env : En) : D → Sto → Out Fl := fun y M1 => (fo env M1).bind (kSetIx2 fi env y)
theorem ev_setIx (fo fi fe : DE) : dSetIx fo fi fe env M = (fe env M).bind (kSetIx1 fo fi env) := rfl
theorem ev_kSetIx1 (fo fi : DE) (y : D) : kSetIx1 fo fi env y M = (fo env M).bind (kSetIx2 fi env y) := rfl
theorem ev_kSetIx2 (fi : DE) (y x : D) : kSetIx2 fi env y x M = (fi env M).bind (kSetIx3 x y env) := rfl
def setO (env : En) (o : Option Sto) : Out Fl := match o with
  | some M4 => .ok (.nx env) M4
  | none => .bad
def putL (k : Int) (y : D) (l : List D) : Option (List D) := (ixN l.length k).map fun j => l.set j y
theorem ev_kSetIx3 (n : Nat) (y : D) (k : Int) : kSetIx3 (.ref n) y env (.int k) M = setO env ((celL M[n]?).bind fun l => (putL k y l).map fun l' => M.set n (.lst l')) := by
  show (match setL (.ref n) M (putL k y) with
    | some M4 => Out.ok (Fl.nx env) M4
    | none => .bad) = _
  rw [setL_ref]
  unfold setO
  first | rfl | skip
theorem ev_setO : setO env (some M) = .ok (.nx env) M := rfl
theorem g_ixT (l : List D) (i : Int) : gIx (.tup l) (.int i) M = (atI l i).map (·, M) := rfl
theorem g_ixL (l : List D) (i : Int) : gIx (.lst l) (.int i) M = (atI l i).map (·, M) := rfl
theorem g_ixR (n : Nat) (i : Int) : gIx (.ref n) (.int i) M = (celL M[n]?).bind fun l => (atI l i).map (·, M) := by
  unfold gIx
  simp only [asL_ref]
  cases celL M[n]? <;> rfl
theorem g_add_i (i j : Int) : gAdd (.int i) (.int j) M = some (.int (i + j), M) := rfl
theorem g_sub (i j : Int) : Ip.gSub (.int i) (.int j) M = some (.int (i - j), M) := rfl
theorem g_lt (i j : Int) : gLt (.int i) (.int j) M = some (.bl (decide (i < j)), M) := rfl
theorem g_le (i j : Int) : gLe (.int i) (.int j) M = some (.bl (decide (i ≤ j)), M) := rfl
theorem g_gt (i j : Int) : gGt (.int i) (.int j) M = some (.bl (decide (j < i)), M) := rfl
theorem g_ge (i j : Int) : gGe (.int i) (.int j) M = some (.bl (decide (j ≤ i)), M) := rfl
theorem g_mod (i j : Int) (h : 0 < j) : gMod (.int i) (.int j) M = some (.int (i % j), M) := by simp [gMod, gIntC, h]
theorem g_div (i j : Int) (h : 0 < j) (h' : j < 1073741824) : gDiv (.int i) (.int j) M = some (.int (i / j), M) := by simp [gDiv, gIntC, h, h']
theorem g_mul (i j : Int) (h : in64 i = true ∨ in64 j = true) : gMul (.int i) (.int j) M = some (.int (i * j), M) := by
  have : (in64 i || in64 j) = true := by rw [Bool.or_eq_true]; exact h
  simp [gMul, orG, gIntC, this]
theorem g_is_n : gIs false .non .non M = some (.bl true, M) := rfl
theorem g_isnot_n : gIs true .non .non M = some (.bl false, M) := rfl
theorem g_is_i (i : Int) : gIs false (.int i) .non M = some (.bl false, M) := rfl
theorem g_isnot_i (i : Int) : gIs true (.int i) .non M = some (.bl true, M) := rfl
theorem g_is_t (l : List D) : gIs false (.tup l) .non M = some (.bl false, M) := rfl
theorem g_isnot_t (l : List D) : gIs true (.tup l) .non M = some (.bl true, M) := rfl
theorem g_eq (x y : D) : gEq false x y M = (eqD x y M).map fun b => (.bl b, M) := rfl
theorem g_ne (x y : D) : gEq true x y M = (eqD x y M).map fun b => (.bl (!b), M) := rfl
theorem eq_int (i j : Int) : eqD (.int i) (.int j) M = some (decide (i = j)) := by simp [eqD, toV, scal]
theorem eq_str (s t : Str) : eqD (.str s) (.str t) M = some (decide (s = t)) := by simp [eqD, toV, scal]
theorem eq_bl (s t : Bool) : eqD (.bl s) (.bl t) M = some (decide (s = t)) := by simp [eqD, toV, scal]
theorem eq_nn : eqD .non .non M = some true := by simp [eqD, toV, scal]
theorem eq_ni (i : Int) : eqD .non (.int i) M = some false := by simp [eqD, toV, scal]
theorem eq_in (i : Int) : eqD (.int i) .non M = some false := by simp [eqD, toV, scal]
theorem eq_t2 (a b c d : Int) : eqD (.tup [.int a, .int b]) (.tup [.int c, .int d]) M = some (decide (a = c ∧ b = d)) := by
  simp [eqD, toV, pyM, toPy, toPys, SeqAt.shaped, PyData.canLay0, PyData.canLayAll0, PyData.depth, PyData.depthAll, PyData.eqv, PyData.eqvAll, Bool.and_true]
  by_cases h1 : a = c <;> by_cases h2 : b = d <;> simp [h1, h2]
theorem g_lenT (l : List D) : gLen [.tup l] M = some (.int (l.length : Nat), M) := rfl
theorem g_lenL (l : List D) : gLen [.lst l] M = some (.int (l.length : Nat), M) := rfl
theorem g_lenR (n : Nat) : gLen [.ref n] M = (celL M[n]?).map fun l => (.int (l.length : Nat), M) := by
  unfold gLen
  simp only [asL_ref]
  cases celL M[n]? <;> rfl
theorem g_slT (l : List D) (lo hi : Option Int) : gSl (.tup l) lo hi M = some (.tup (Ip.cutD l lo hi), M) := rfl
theorem g_slL (l : List D) (lo hi : Option Int) : gSl (.lst l) lo hi M = some (.lst (Ip.cutD l lo hi), M) := rfl
theorem g_slS (ns : List Int) (lo hi : Option Int) : gSl (.scr ns) lo hi M = some (.lst (Ip.cutD (ns.map D.int) lo hi), M) := rfl
theorem at0 (a : α) (l : List α) : atI (a :: l) 0 = some a := atI_nat (j := 0) rfl
theorem at1 (a b : α) (l : List α) : atI (a :: b :: l) 1 = some b := atI_nat (j := 1) rfl
theorem at2 (a b c : α) (l : List α) : atI (a :: b :: c :: l) 2 = some c := atI_nat (j := 2) rfl
theorem at3 (a b c d : α) (l : List α) : atI (a :: b :: c :: d :: l) 3 = some d := atI_nat (j := 3) rfl
theorem at4 (a b c d e : α) (l : List α) : atI (a :: b :: c :: d :: e :: l) 4 = some e := atI_nat (j := 4) rfl
theorem atm1 (l : List α) (a : α) : atI (l ++ [a]) (-1) = some a := atI_last l a
def kLcEnd : List D → Sto → Out D := fun l M2 => .ok (.lst l) M2
def kLc (vs : List Nat) (t : DG) (ft : DT) (fe : DE) (env : En) : List D → Sto → Out D := fun items M1 => (lcGo t ft fe items [] (wipeE env vs) M1).bind kLcEnd
theorem ev_lc (vs : List Nat) (t : DG) (fi : DA) (ft : DT) (fe : DE) : dLc vs t fi ft fe env M = (fi env M).bind (kLc vs t ft fe env) := rfl
theorem ev_kLc (vs : List Nat) (t : DG) (ft : DT) (fe : DE) (l : List D) : kLc vs t ft fe env l M = (lcGo t ft fe l [] (wipeE env vs) M).bind kLcEnd := rfl
theorem ev_kLcEnd (l : List D) : kLcEnd l M = .ok (.lst l) M := rfl
def kLcE (t : DG) (ft : DT) (fe : DE) (ds acc : List D) (env : En) : D → Sto → Out (List D) := fun y M2 => if acc.length < 16777216 then lcGo t ft fe ds (acc ++ [y]) env M2 else .bad
def kLcT (t : DG) (ft : DT) (fe : DE) (ds acc : List D) (env env1 : En) : Bool → Sto → Out (List D) := fun b M1 => if b then (noex (fe env1 M1)).bind (kLcE t ft fe ds acc env) else lcGo t ft fe ds acc env M1
def lcO (t : DG) (ft : DT) (fe : DE) (ds acc : List D) (env : En) (o : Option En) (M : Sto) : Out (List D) := match o with
  | some env1 => (noex (ft env1 M)).bind (kLcT t ft fe ds acc env env1)
  | none => .bad
theorem ev_lc_nil (t : DG) (ft : DT) (fe : DE) (acc : List D) : lcGo t ft fe [] acc env M = .ok acc M := rfl
theorem ev_lc_cons (t : DG) (ft : DT) (fe : DE) (d : D) (ds acc : List D) : lcGo t ft fe (d :: ds) acc env M = lcO t ft fe ds acc env (t d env) M := by
  unfold lcGo lcO; cases t d env <;> rfl
theorem ev_lcO (t : DG) (ft : DT) (fe : DE) (ds acc : List D) (env1 : En) : lcO t ft fe ds acc env (some env1) M = (noex (ft env1 M)).bind (kLcT t ft fe ds acc env env1) := rfl
theorem ev_kLcT_t (t : DG) (ft : DT) (fe : DE) (ds acc : List D) (env1 : En) : kLcT t ft fe ds acc env env1 true M = (noex (fe env1 M)).bind (kLcE t ft fe ds acc env) := rfl
theorem ev_kLcT_f (t : DG) (ft : DT) (fe : DE) (ds acc : List D) (env1 : En) : kLcT t ft fe ds acc env env1 false M = lcGo t ft fe ds acc env M := rfl
theorem ev_kLcE (t : DG) (ft : DT) (fe : DE) (ds acc : List D) (y : D) (h : acc.length < 16777216) : kLcE t ft fe ds acc env y M = lcGo t ft fe ds (acc ++ [y]) env M := if_pos h
theorem g_isi_n (T : String) : gIsi T .non M = (isA "NoneType" T).map fun b => (.bl b, M) := rfl
theorem g_isi_b (T : String) (b : Bool) : gIsi T (.bl b) M = (isA "bool" T).map fun b => (.bl b, M) := rfl
theorem g_isi_i (T : String) (i : Int) : gIsi T (.int i) M = (isA "int" T).map fun b => (.bl b, M) := rfl
theorem g_isi_s (T : String) (s : Str) : gIsi T (.str s) M = (isA "str" T).map fun b => (.bl b, M) := rfl
theorem g_isi_t (T : String) (l : List D) : gIsi T (.tup l) M = (isA "tuple" T).map fun b => (.bl b, M) := rfl
theorem g_isi_l (T : String) (l : List D) : gIsi T (.lst l) M = (isA "list" T).map fun b => (.bl b, M) := rfl
theorem isA_ii : isA "int" "int" = some true := by decide +kernel
theorem isA_ib : isA "int" "bool" = some false := by decide +kernel
theorem isA_it : isA "int" "tuple" = some false := by decide +kernel
theorem isA_il : isA "int" "list" = some false := by decide +kernel
theorem isA_bi : isA "bool" "int" = some true := by decide +kernel
theorem isA_bb : isA "bool" "bool" = some true := by decide +kernel
theorem isA_bt : isA "bool" "tuple" = some false := by decide +kernel
theorem isA_bll : isA "bool" "list" = some false := by decide +kernel
theorem isA_ni : isA "NoneType" "int" = some false := by decide +kernel
theorem isA_nb : isA "NoneType" "bool" = some false := by decide +kernel
theorem isA_nt : isA "NoneType" "tuple" = some false := by decide +kernel
theorem isA_nl : isA "NoneType" "list" = some false := by decide +kernel
theorem isA_si : isA "str" "int" = some false := by decide +kernel
theorem isA_sb : isA "str" "bool" = some false := by decide +kernel
theorem isA_st : isA "str" "tuple" = some false := by decide +kernel
theorem isA_sl : isA "str" "list" = some false := by decide +kernel
theorem isA_tt : isA "tuple" "tuple" = some true := by decide +kernel
theorem isA_tl : isA "tuple" "list" = some false := by decide +kernel
theorem isA_ti : isA "tuple" "int" = some false := by decide +kernel
theorem isA_tb : isA "tuple" "bool" = some false := by decide +kernel
theorem isA_lt : isA "list" "tuple" = some false := by decide +kernel
theorem isA_ll : isA "list" "list" = some true := by decide +kernel
theorem isA_li : isA "list" "int" = some false := by decide +kernel
theorem isA_lb : isA "list" "bool" = some false := by decide +kernel
theorem g_neg (i : Int) : gNeg (.int i) M = some (.int (-i), M) := rfl
theorem g_all (l : List D) : gAll [.lst l] M = (bls l).map fun bs => (.bl (bs.all id), M) := rfl
theorem bls_nil : bls [] = some [] := rfl
theorem bls_cons (b : Bool) (l : List D) : bls (.bl b :: l) = (bls l).map (b :: ·) := rfl
def kSetFld2 (c f : Str) (y : D) (env : En) : D → Sto → Out Fl := fun x M2 => match x with
  | .ref n => match M2[n]? with
    | some (.ins c' ks ds) => if c' = c ∧ ks.length < 1000 then .ok (.nx env) (M2.set n (.ins c' (putKs f ks) (putVs f y ks ds))) else .bad
    | _ => .bad
  | _ => .bad
def kSetFld1 (c f : Str) (fo : DE) (env : En) : D → Sto → Out Fl := fun y M1 => (fo env M1).bind (kSetFld2 c f y env)
theorem ev_setFld (c f : Str) (fo fe : DE) : dSetFld c f fo fe env M = (fe env M).bind (kSetFld1 c f fo env) := rfl
theorem ev_kSetFld1 (c f : Str) (fo : DE) (y : D) : kSetFld1 c f fo env y M = (fo env M).bind (kSetFld2 c f y env) := rfl
theorem ev_kSetFld2 (c f : Str) (y : D) (n : Nat) (ks : List Str) (ds : List D) (h : M[n]? = some (.ins c ks ds)) (hk : ks.length < 1000) : kSetFld2 c f y env (.ref n) M = .ok (.nx env) (M.set n (.ins c (putKs f ks) (putVs f y ks ds))) := by
  show (match M[n]? with
    | some (.ins c' ks ds) => if c' = c ∧ ks.length < 1000 then Out.ok (Fl.nx env) (M.set n (.ins c' (putKs f ks) (putVs f y ks ds))) else .bad
    | _ => .bad) = _
  rw [h]
  exact if_pos ⟨rfl, hk⟩
def kMake2 (k : Nat) : D → Sto → Out D := fun d M2 => match d with
  | .non => frzO k (.ref k) M2
  | _ => .bad
def kMake (c : Str) (F : DF) : List D → Sto → Out D := fun ds M1 => (noex (F (.ref M1.length :: ds) (M1 ++ [.ins c [] []]))).bind (kMake2 M1.length)
theorem ev_make (c : Str) (F : DF) (fa : DA) : dMake c F fa env M = (fa env M).bind (kMake c F) := rfl
theorem ev_kMake (c : Str) (F : DF) (ds : List D) : kMake c F ds M = (noex (F (.ref M.length :: ds) (M ++ [.ins c [] []]))).bind (kMake2 M.length) := rfl
theorem ev_kMake2 (k : Nat) : kMake2 k .non M = frzO k (.ref k) M := rfl
def kMeth2 (F : DF) (x : D) : List D → Sto → Out D := fun as M2 => noex (F (x :: as) M2)
def kMeth (c m : Str) (F : DF) (fa : DA) (env : En) : D → Sto → Out D := fun x M1 => match objOf c x M1 with
  | some (ks, ds) => match (ks.zip ds).lookup m with
    | none => (fa env M1).bind (kMeth2 F x)
    | some _ => .bad
  | none => .bad
theorem ev_meth (c m : Str) (F : DF) (fo : DE) (fa : DA) : dMeth c m F fo fa env M = (fo env M).bind (kMeth c m F fa env) := rfl
theorem ev_kMeth2 (F : DF) (x : D) (as : List D) : kMeth2 F x as M = noex (F (x :: as) M) := rfl
def kLenO2 : D → Sto → Out D := fun d M2 => match d with
  | .int n => if 0 ≤ n ∧ n < 2 ^ 63 then .ok (.int n) M2 else .bad
  | _ => .bad
def kLenO (c : Str) (F : DF) : D → Sto → Out D := fun x M1 => match objOf c x M1 with
  | some _ => (noex (F [x] M1)).bind kLenO2
  | none => .bad
theorem ev_lenO (c : Str) (F : DF) (fe : DE) : dLenO c F fe env M = (fe env M).bind (kLenO c F) := rfl
theorem ev_kLenO (c : Str) (F : DF) (ks : List Str) (ds : List D) : kLenO c F (.obj c ks ds) M = (noex (F [.obj c ks ds] M)).bind kLenO2 := by
  unfold kLenO objOf
  simp only [if_true]
def kReprO2 : D → Sto → Out D := fun d M2 => match d with
  | .str m => .ok (.str m) M2
  | _ => .bad
def kReprO (c : Str) (F : DF) : D → Sto → Out D := fun x M1 => match objOf c x M1 with
  | some _ => (noex (F [x] M1)).bind kReprO2
  | none => .bad
theorem ev_reprO (c : Str) (F : DF) (fe : DE) : dReprO c F fe env M = (fe env M).bind (kReprO c F) := rfl
theorem ev_kReprO (c : Str) (F : DF) (ks : List Str) (ds : List D) : kReprO c F (.obj c ks ds) M = (noex (F [.obj c ks ds] M)).bind kReprO2 := by
  unfold kReprO objOf
  simp only [if_true]
theorem ev_kReprO2 (m : Str) : kReprO2 (.str m) M = .ok (.str m) M := rfl
def kFmt : D → Sto → Out D := fun x M1 => match x with
  | .str y => if y.length ≤ 16777216 then .ok (.str y) M1 else .bad
  | .int i => if i.natAbs.log2 < 1920 then .ok (.str (toString i)) M1 else .bad
  | _ => .bad
theorem ev_fmt (fe : DE) : dFmt fe env M = (fe env M).bind kFmt := rfl
def kJs (fs : List DE) (acc : Str) (env : En) : D → Sto → Out D := fun x M1 => match x with
  | .str y => if (acc ++ y).length ≤ 16777216 then dJs fs (acc ++ y) env M1 else .bad
  | _ => .bad
theorem ev_js_nil (acc : Str) : dJs [] acc env M = .ok (.str acc) M := rfl
theorem ev_js_cons (f : DE) (fs : List DE) (acc : Str) : dJs (f :: fs) acc env M = (f env M).bind (kJs fs acc env) := rfl
theorem g_listC (l : List D) : gListC [.lst l] M = some (.ref M.length, M ++ [.lst l]) := rfl
theorem g_tupleR (n : Nat) : gTuple [.ref n] M = (celL M[n]?).map fun l => (.tup l, M) := by
  show (asL (.ref n) M).map _ = _
  rw [asL_ref]
def kForS (t : DG) (fb : DS) (env : En) : Src → Sto → Out Fl := fun src M1 => forS t fb src 20000000 0 env M1
theorem ev_forS (t : DG) (fi : DI) (fb : DS) : dForS t fi fb env M = (fi env M).bind (kForS t fb env) := rfl
theorem ev_kForS (t : DG) (fb : DS) (src : Src) : kForS t fb env src M = forS t fb src 20000000 0 env M := rfl
def srcO (o : Option Src) (M : Sto) : Out Src := match o with
  | some s => .ok s M
  | none => .bad
def kIter2 : D → Sto → Out Src := fun x M1 => srcO (srcD x M1) M1
def kEnum2 : D → Sto → Out Src := fun x M1 => srcO (esrcD x M1) M1
theorem ev_iter2 (fe : DE) : dIter2 fe env M = (fe env M).bind kIter2 := rfl
theorem ev_enum2 (fe : DE) : dEnum2 fe env M = (fe env M).bind kEnum2 := rfl
theorem ev_kIter2_l (l : List D) : kIter2 (.lst l) M = .ok (.items l) M := rfl
theorem ev_kIter2_t (l : List D) : kIter2 (.tup l) M = .ok (.items l) M := rfl
theorem ev_kIter2_s (ns : List Int) : kIter2 (.scr ns) M = .ok (.items (ns.map D.int)) M := rfl
theorem ev_kIter2_r (n : Nat) (l : List D) (h : M[n]? = some (.lst l)) : kIter2 (.ref n) M = .ok (.cell n) M := by
  show srcO ((celL M[n]?).map fun _ => Src.cell n) M = _
  rw [h]; rfl
theorem ev_kEnum2_l (l : List D) : kEnum2 (.lst l) M = .ok (.items (enumD 0 l)) M := rfl
theorem ev_kEnum2_t (l : List D) : kEnum2 (.tup l) M = .ok (.items (enumD 0 l)) M := rfl
theorem ev_kEnum2_r (n : Nat) (l : List D) (h : M[n]? = some (.lst l)) : kEnum2 (.ref n) M = .ok (.ecell n) M := by
  show srcO ((celL M[n]?).map fun _ => Src.ecell n) M = _
  rw [h]; rfl
end
end Ip
end
section
set_option Elab.async false
set_option linter.all false
set_option maxRecDepth 100000
set_option maxHeartbeats 4000000
set_option autoImplicit false
namespace Ip
open PySem PyProof.Rows L2
end Ip
end
section
set_option Elab.async false
set_option linter.all false
set_option maxRecDepth 100000
set_option maxHeartbeats 1000000
set_option autoImplicit false
namespace Ip
open PySem L2
def Pr (α : Type) : Type := (α → Prop) → (Exn → Prop) → Prop
namespace Pr
variable {α β γ : Type}
def ok (a : α) : Pr α := fun Q _ => Q a
def bad : Pr α := fun _ _ => False
def exc (e : Exn) : Pr α := fun _ E => E e
def bind (p : Pr α) (k : α → Pr β) : Pr β := fun Q E => p (fun a => k a Q E) E
def need (c : Prop) (p : Pr α) : Pr α := fun Q E => c ∧ p Q E
theorem ok_bind (a : α) (k : α → Pr β) : (ok a).bind k = k a := rfl
/-- one of the numbers below n -/
def pull (n : Int) : Pr Int := fun Q _ => 0 < n ∧ n < 1073741824 ∧ ∀ v, 0 ≤ v → v < n → Q v
/-- one of these -/
def of (l : List α) : Pr α := fun Q _ => l ≠ [] ∧ l.length < 1073741824 ∧ ∀ x ∈ l, Q x
end Pr
class Enc (α : Type) where
  enc : α → D
  cls : ∀ a k, closed k (enc a) = true
  inj : ∀ a b, enc a = enc b → a = b
abbrev en {α : Type} [Enc α] (a : α) : D := Enc.enc a
instance : Enc Int := ⟨D.int, fun _ _ => rfl, fun _ _ h => by cases h; rfl⟩
instance : Enc Bool := ⟨D.bl, fun _ _ => rfl, fun _ _ h => by cases h; rfl⟩
instance : Enc Str := ⟨D.str, fun _ _ => rfl, fun _ _ h => by cases h; rfl⟩
instance : Enc Unit := ⟨fun _ => D.non, fun _ _ => rfl, fun _ _ _ => rfl⟩
theorem closedAll_map {α : Type} [Enc α] (k : Nat) : ∀ l : List α, closedAll k (l.map en) = true
  | [] => rfl
  | x :: l => by simp [closedAll, Enc.cls x k, closedAll_map k l]
theorem map_inj {α : Type} [Enc α] : ∀ l l' : List α, l.map en = l'.map en → l = l'
  | [], [], _ => rfl
  | [], _ :: _, h => by simp at h
  | _ :: _, [], h => by simp at h
  | x :: l, y :: l', h => by
    simp only [List.map_cons, List.cons.injEq] at h
    rw [Enc.inj x y h.1, map_inj l l' h.2]
instance {α : Type} [Enc α] : Enc (List α) := ⟨fun l => .lst (l.map en), fun l k => by simp [closed, closedAll_map], fun a b h => map_inj a b (D.lst.inj h)⟩
instance {α β : Type} [Enc α] [Enc β] : Enc (α × β) := ⟨fun p => .tup [en p.1, en p.2], fun p k => by simp [closed, closedAll, Enc.cls], fun a b h => by
  have h' : [en a.1, en a.2] = [en b.1, en b.2] := D.tup.inj h
  simp only [List.cons.injEq, and_true] at h'
  exact Prod.ext (Enc.inj _ _ h'.1) (Enc.inj _ _ h'.2)⟩
/-- never None -/
class NoN (α : Type) [Enc α] : Prop where
  non : ∀ a : α, en a ≠ D.non
instance : NoN Int := ⟨fun _ h => by cases h⟩
instance : NoN Bool := ⟨fun _ h => by cases h⟩
instance : NoN Str := ⟨fun _ h => by cases h⟩
instance {α : Type} [Enc α] : NoN (List α) := ⟨fun _ h => by cases h⟩
instance {α β : Type} [Enc α] [Enc β] : NoN (α × β) := ⟨fun _ h => by cases h⟩
def enO {α : Type} [Enc α] : Option α → D
  | none => .non
  | some a => en a
instance {α : Type} [Enc α] [NoN α] : Enc (Option α) := ⟨enO, fun p k => by
    cases p with
    | none => rfl
    | some a => exact Enc.cls a k, fun a b h => by
    cases a with
    | none => cases b with
      | none => rfl
      | some b => exact absurd h.symm (NoN.non b)
    | some a => cases b with
      | none => exact absurd h (NoN.non a)
      | some b => rw [Enc.inj a b h]⟩
structure T3 (α β γ : Type) where
  p1 : α
  p2 : β
  p3 : γ
structure T4 (α β γ δ : Type) where
  p1 : α
  p2 : β
  p3 : γ
  p4 : δ
instance {α β γ : Type} [Enc α] [Enc β] [Enc γ] : Enc (T3 α β γ) := ⟨fun p => .tup [en p.p1, en p.p2, en p.p3], fun p k => by simp [closed, closedAll, Enc.cls], fun a b h => by
  have h' := D.tup.inj h
  simp only [List.cons.injEq, and_true] at h'
  cases a; cases b
  simp only [T3.mk.injEq]
  exact ⟨Enc.inj _ _ h'.1, Enc.inj _ _ h'.2.1, Enc.inj _ _ h'.2.2⟩⟩
instance {α β γ δ : Type} [Enc α] [Enc β] [Enc γ] [Enc δ] : Enc (T4 α β γ δ) := ⟨fun p => .tup [en p.p1, en p.p2, en p.p3, en p.p4], fun p k => by simp [closed, closedAll, Enc.cls], fun a b h => by
  have h' := D.tup.inj h
  simp only [List.cons.injEq, and_true] at h'
  cases a; cases b
  simp only [T4.mk.injEq]
  exact ⟨Enc.inj _ _ h'.1, Enc.inj _ _ h'.2.1, Enc.inj _ _ h'.2.2.1, Enc.inj _ _ h'.2.2.2⟩⟩
instance {α β γ : Type} [Enc α] [Enc β] [Enc γ] : NoN (T3 α β γ) := ⟨fun _ h => by cases h⟩
instance {α β γ δ : Type} [Enc α] [Enc β] [Enc γ] [Enc δ] : NoN (T4 α β γ δ) := ⟨fun _ h => by cases h⟩
/-- a tree without cells, of any kind -/
structure Da where
  d : D
  c : ∀ k, closed k d = true
instance : Enc Da := ⟨Da.d, fun a k => a.c k, fun a b h => by cases a; cases b; cases h; rfl⟩
/-- no cell speaks of another one -/
def PureS (M : Sto) : Prop := ∀ k, M.all (cellClosed k) = true
def bagD (ns : List Int) (i j m c : Int) : List D := [.lst (ns.map D.int), .int i, .int j, .int m, .int c]
def BagOk (l : List D) : Prop := ∃ ns i j m c, l = bagD ns i j m c ∧ 0 ≤ i ∧ 0 ≤ j ∧ 0 ≤ m ∧ m < 2147483563 ∧ 0 ≤ c
theorem PureS.app {M N : Sto} (h : PureS M) (h' : PureS N) : PureS (M ++ N) := fun k => by rw [List.all_append, h k, h' k]; rfl
theorem PureS.of_app {M N : Sto} (h : PureS (M ++ N)) : PureS M ∧ PureS N := ⟨fun k => by have := h k; rw [List.all_append, Bool.and_eq_true] at this; exact this.1, fun k => by have := h k; rw [List.all_append, Bool.and_eq_true] at this; exact this.2⟩
theorem PureS.one {c : Cell} (h : ∀ k, cellClosed k c = true) : PureS [c] := fun k => by simp [h k]
theorem PureS.set {M : Sto} (h : PureS M) (n : Nat) {c : Cell} (hc : ∀ k, cellClosed k c = true) : PureS (M.set n c) := fun k => by
  rw [List.all_eq_true]
  intro x hx
  rcases List.mem_or_eq_of_mem_set hx with z | z
  · exact List.all_eq_true.mp (h k) x z
  · rw [z]; exact hc k
theorem PureS.nil : PureS [] := fun _ => rfl
theorem closed_bagD (ns : List Int) (i j m c : Int) (k : Nat) : closedAll k (bagD ns i j m c) = true := by
  have := closedAll_map (α := Int) k ns
  simp only [bagD, closedAll, closed, Bool.and_true]
  exact this
theorem bag_closed {b : List D} (h : BagOk b) (k : Nat) : cellClosed k (.lst b) = true := by
  obtain ⟨ns, i, j, m, c, rfl, _⟩ := h
  exact closed_bagD ns i j m c k
/-- the store: what stood before, as P says, and the cells cs -/
structure St (N : Nat) (P : Sto → Prop) (cs : List (Nat × Cell)) (M : Sto) : Prop where
  base : ∃ A J, P A ∧ A.length = N ∧ M = A ++ J
  pure : PureS M
  nd : (cs.map Prod.fst).Nodup
  cell : ∀ p ∈ cs, N ≤ p.1 ∧ M[p.1]? = some p.2
section
variable {N : Nat} {P : Sto → Prop} {cs : List (Nat × Cell)} {M : Sto}
theorem St.get (h : St N P cs M) (i : Nat) {n : Nat} {c : Cell} (hi : cs[i]? = some (n, c)) : M[n]? = some c := (h.cell _ (List.mem_of_getElem? hi)).2
theorem St.new (h : St N P cs M) {c : Cell} (hc : ∀ k, cellClosed k c = true) : St N P (cs ++ [(M.length, c)]) (M ++ [c]) := by
  obtain ⟨A, J, hP, e, rfl⟩ := h.base
  refine ⟨⟨A, J ++ [c], hP, e, by simp⟩, h.pure.app (.one hc), ?_, ?_⟩
  · rw [List.map_append, List.nodup_append]
    refine ⟨h.nd, by simp, ?_⟩
    intro a ha b hb
    obtain ⟨p, hp, rfl⟩ := List.mem_map.mp ha
    have := (List.getElem?_eq_some_iff.mp (h.cell p hp).2).1
    simp only [List.map_cons, List.map_nil, List.mem_singleton] at hb
    omega
  · intro p hp
    rcases List.mem_append.mp hp with z | z
    · have := h.cell p z
      refine ⟨this.1, ?_⟩
      rw [List.getElem?_append_left (List.getElem?_eq_some_iff.mp this.2).1]
      exact this.2
    · have : p = ((A ++ J).length, c) := by simpa using z
      subst this
      exact ⟨by simp; omega, by simp⟩
theorem nodup_set_fst : ∀ (cs : List (Nat × Cell)) (i : Nat) (n : Nat) (c c' : Cell), cs[i]? = some (n, c) → (cs.set i (n, c')).map Prod.fst = cs.map Prod.fst
  | [], _, _, _, _, h => by simp at h
  | p :: cs, 0, n, c, c', h => by
    have : p = (n, c) := by simpa using h
    subst this; rfl
  | p :: cs, i + 1, n, c, c', h => by
    simp only [List.set_cons_succ, List.map_cons]
    rw [nodup_set_fst cs i n c c' (by simpa using h)]
theorem St.set (h : St N P cs M) (i : Nat) {n : Nat} {c c' : Cell} (hi : cs[i]? = some (n, c)) (hc : ∀ k, cellClosed k c' = true) : St N P (cs.set i (n, c')) (M.set n c') := by
  obtain ⟨A, J, hP, e, rfl⟩ := h.base
  have hn := h.cell _ (List.mem_of_getElem? hi)
  have hlt := (List.getElem?_eq_some_iff.mp hn.2).1
  simp only at hn hlt
  refine ⟨⟨A, J.set (n - N) c', hP, e, ?_⟩, h.pure.set n hc, ?_, ?_⟩
  · rw [List.set_append_right _ _ (by omega), e]
  · rw [nodup_set_fst cs i n c c' hi]; exact h.nd
  · intro p hp
    rcases List.getElem_of_mem hp with ⟨j, hj, ej⟩
    have hj' : (cs.set i (n, c'))[j]? = some p := by rw [List.getElem?_eq_getElem hj, ej]
    by_cases hji : j = i
    · subst hji
      rw [List.getElem?_set_self (by simpa using hj)] at hj'
      cases hj'
      exact ⟨hn.1, by simp only; rw [List.getElem?_set_self hlt]⟩
    · rw [List.getElem?_set_ne (Ne.symm hji)] at hj'
      have hp' := h.cell p (List.mem_of_getElem? hj')
      refine ⟨hp'.1, ?_⟩
      rw [List.getElem?_set_ne]
      · exact hp'.2
      · intro z
        have h1 : (cs.map Prod.fst)[j]? = some p.1 := by rw [List.getElem?_map, hj']; rfl
        have h2 : (cs.map Prod.fst)[i]? = some n := by rw [List.getElem?_map, hi]; rfl
        rw [← z] at h1
        exact hji ((List.getElem?_inj (List.getElem?_eq_some_iff.mp h1).1 h.nd).mp (h1.trans h2.symm))
theorem St.pre {cs' : List (Nat × Cell)} (h : St N P (cs ++ cs') M) : St N P cs M :=
  ⟨h.base, h.pure, by have := h.nd; rw [List.map_append, List.nodup_append] at this; exact this.1, fun p hp => h.cell p (List.mem_append_left _ hp)⟩
theorem St.nil_of (h : St N P cs M) : St N P [] M := ⟨h.base, h.pure, List.nodup_nil, fun _ z => by cases z⟩
theorem St.start (hP : P M) (hl : M.length = N) (hp : PureS M) : St N P [] M := ⟨⟨M, [], hP, hl, by simp⟩, hp, List.nodup_nil, fun _ z => by cases z⟩
end
def BagP (G : Sto) : Sto → Prop := fun A => ∃ b, BagOk b ∧ A = .lst b :: G
/-- the bag of such a store -/
theorem St.bag {G : Sto} {cs : List (Nat × Cell)} {M : Sto} (h : St (G.length + 1) (BagP G) cs M) : ∃ b K, BagOk b ∧ M = .lst b :: K ∧ PureS K ∧ ∀ b', BagOk b' → St (G.length + 1) (BagP G) cs (.lst b' :: K) := by
  obtain ⟨A, J, ⟨b, hb, rfl⟩, e, rfl⟩ := h.base
  have hp := h.pure
  refine ⟨b, G ++ J, hb, rfl, (PureS.of_app (M := [.lst b]) (N := G ++ J) hp).2, fun b' hb' => ⟨⟨.lst b' :: G, J, ⟨b', hb', rfl⟩, by simp, rfl⟩, PureS.app (M := [.lst b']) (.one (bag_closed hb')) (PureS.of_app (M := [.lst b]) (N := G ++ J) hp).2, h.nd, fun p hq => ?_⟩⟩
  have := h.cell p hq
  refine ⟨this.1, ?_⟩
  have h1 := this.1
  obtain ⟨n, c⟩ := p
  simp only at h1 this ⊢
  cases n with
  | zero => omega
  | succ n => simpa using this.2
end Ip
end
section
set_option Elab.async false
set_option linter.all false
set_option maxRecDepth 100000
set_option maxHeartbeats 1000000
set_option autoImplicit false
namespace Ip
open PySem L2
structure Sat {α δ : Type} (o : Out δ) (p : Pr α) (rel : α → δ → Sto → Prop) (X : Sto → Prop) : Prop where
  run : ∀ (Q : α → Prop) (E : Exn → Prop), p Q E → o.post (fun d M => ∃ a, Q a ∧ rel a d M) (fun e _ M => E e ∧ X M)
abbrev NX : Sto → Prop := fun _ => False
theorem post_mk_bind {α β : Type} {o : Out α} {k : α → Sto → Out β} {Q : β → Sto → Prop} {E : Exn → En → Sto → Prop} (h : o.post (fun a M => (k a M).post Q E) E) : (o.bind k).post Q E := by
  cases o <;> exact h
section
variable {α β γ δ ε σ ρ : Type} {X : Sto → Prop} {rel : α → δ → Sto → Prop} {rel' : β → ε → Sto → Prop}
theorem Sat.bind {o : Out δ} {p : Pr α} {c : δ → Sto → Out ε} {k : α → Pr β} (h : Sat o p rel X) (hk : ∀ a d M, rel a d M → Sat (c d M) (k a) rel' X) : Sat (o.bind c) (p.bind k) rel' X :=
  ⟨fun Q E z => post_mk_bind ((h.run _ E z).imp (fun d M ⟨a, q, r⟩ => (hk a d M r).run Q E q) (fun _ _ _ z => z))⟩
theorem Sat.ok {d : δ} {M : Sto} {a : α} (h : rel a d M) : Sat (.ok d M) (Pr.ok a) rel X := ⟨fun Q E z => ⟨a, z, h⟩⟩
theorem Sat.bad {o : Out δ} : Sat o (Pr.bad : Pr α) rel X := ⟨fun Q E z => z.elim⟩
theorem Sat.imp {o : Out δ} {p : Pr α} {rel2 : α → δ → Sto → Prop} (h : Sat o p rel X) (w : ∀ a d M, rel a d M → rel2 a d M) : Sat o p rel2 X :=
  ⟨fun Q E z => (h.run Q E z).imp (fun d M ⟨a, q, r⟩ => ⟨a, q, w a d M r⟩) (fun _ _ _ z => z)⟩
theorem Sat.ref {o : Out δ} {p p' : Pr α} (h : Sat o p rel X) (w : ∀ Q E, p' Q E → p Q E) : Sat o p' rel X := ⟨fun Q E z => h.run Q E (w Q E z)⟩
theorem Sat.map {o : Out δ} {p : Pr α} {w : α → β} {r2 : β → δ → Sto → Prop} (h : Sat o p rel X) (hw : ∀ a d M, rel a d M → r2 (w a) d M) : Sat o (p.bind fun a => Pr.ok (w a)) r2 X :=
  ⟨fun Q E z => (h.run _ E z).imp (fun d M ⟨a, q, r⟩ => ⟨w a, q, hw a d M r⟩) (fun _ _ _ z => z)⟩
theorem Sat.need {c : Prop} {o : Out δ} {p : Pr α} (h : c → Sat o p rel X) : Sat o (Pr.need c p) rel X := ⟨fun Q E z => (h z.1).run Q E z.2⟩
theorem Sat.noex {o : Out δ} {p : Pr α} (h : Sat o p rel NX) : Sat (Ip.noex o) p rel X := by
  refine ⟨fun Q E z => ?_⟩
  have := h.run Q E z
  cases o with
  | ok d M => exact this
  | exc e env M => exact this.2.elim
  | bad => exact this
theorem bind_assoc (o : Out δ) (c : δ → Sto → Out ε) (c' : ε → Sto → Out γ) : (o.bind c).bind c' = o.bind fun d M => (c d M).bind c' := by cases o <;> rfl
def PV (f : DE) (env : En) (S : Sto → Prop) (x : D) : Prop := ∀ M, S M → f env M = .ok x M
def relE [Enc α] (S : Sto → Prop) : α → D → Sto → Prop := fun a d M => d = en a ∧ S M
def PX [Enc α] (f : DE) (env : En) (S X : Sto → Prop) (p : Pr α) : Prop := ∀ M, S M → Sat (f env M) p (relE S) X
def TV (f : DT) (env : En) (S : Sto → Prop) (b : Bool) : Prop := ∀ M, S M → f env M = .ok b M
def relT (S : Sto → Prop) : Bool → Bool → Sto → Prop := fun a d M => d = a ∧ S M
def TX (f : DT) (env : En) (S X : Sto → Prop) (p : Pr Bool) : Prop := ∀ M, S M → Sat (f env M) p (relT S) X
variable {env : En} {S : Sto → Prop} {M : Sto}
theorem PV.px [Enc α] {f : DE} {a : α} (h : PV f env S (en a)) : PX f env S X (Pr.ok a) := fun M hM => by rw [h M hM]; exact .ok ⟨rfl, hM⟩
theorem TV.tx {f : DT} {b : Bool} (h : TV f env S b) : TX f env S X (Pr.ok b) := fun M hM => by rw [h M hM]; exact .ok ⟨rfl, hM⟩
theorem pv {i : Nat} {d : D} (h : env[i]? = some (some d)) : PV (dVar i) env S d := fun M _ => by unfold dVar; rw [h]
theorem pv_c {d : D} : PV (dC d) env S d := fun _ _ => rfl
/-- the value of a tree of another kind -/
def cast [Enc α] [Enc β] (a : α) : Pr β := fun Q _ => ∃ b : β, en a = en b ∧ Q b
theorem PV.cast [Enc α] [Enc β] {f : DE} {a : α} (h : PV f env S (en a)) : PX f env S X (Ip.cast a : Pr β) := fun M hM => by
  refine ⟨fun Q E ⟨b, e, q⟩ => ?_⟩
  rw [h M hM]
  exact ⟨b, q, e, hM⟩
theorem PX.cast [Enc α] [Enc β] {f : DE} {p : Pr α} (h : PX f env S X p) : PX f env S X (p.bind fun a => (Ip.cast a : Pr β)) := fun M hM => ⟨fun Q E z =>
  ((h M hM).run _ E z).imp (fun d M' ⟨a, ⟨b, e, q⟩, r1, r2⟩ => ⟨b, q, r1.trans e, r2⟩) (fun _ _ _ z => z)⟩
theorem bd_p {f : DE} {x : D} {c : D → Sto → Out ε} {P : Pr β} (h : PV f env S x) (hM : S M) (hk : Sat (c x M) P rel' X) : Sat ((f env M).bind c) P rel' X := by
  rw [h M hM]; exact hk
theorem bd_e [Enc α] {f : DE} {p : Pr α} {c : D → Sto → Out ε} {k : α → Pr β} (h : PX f env S X p) (hM : S M) (hk : ∀ a M1, S M1 → Sat (c (en a) M1) (k a) rel' X) : Sat ((f env M).bind c) (p.bind k) rel' X :=
  (h M hM).bind fun a d M1 ⟨e, s⟩ => by rw [e]; exact hk a M1 s
theorem td_p {f : DT} {b : Bool} {c : Bool → Sto → Out ε} {P : Pr β} (h : TV f env S b) (hM : S M) (hk : Sat (c b M) P rel' X) : Sat ((f env M).bind c) P rel' X := by
  rw [h M hM]; exact hk
theorem td_e {f : DT} {p : Pr Bool} {c : Bool → Sto → Out ε} {k : Bool → Pr β} (h : TX f env S X p) (hM : S M) (hk : ∀ a M1, S M1 → Sat (c a M1) (k a) rel' X) : Sat ((f env M).bind c) (p.bind k) rel' X :=
  (h M hM).bind fun a d M1 ⟨e, s⟩ => by rw [e]; exact hk a M1 s
/-- what the operator g gives, as a value of a known kind -/
def op2 [Enc α] [Enc β] [Enc γ] (g : G2) (a : α) (b : β) : Pr γ := fun Q _ => ∃ c : γ, (∀ M, g (en a) (en b) M = some (en c, M)) ∧ Q c
def op1 [Enc α] [Enc γ] (g : D → Sto → Option (D × Sto)) (a : α) : Pr γ := fun Q _ => ∃ c : γ, (∀ M, g (en a) M = some (en c, M)) ∧ Q c
theorem op1_ok [Enc α] [Enc γ] {g : D → Sto → Option (D × Sto)} {a : α} {c : γ} (h : ∀ M, g (en a) M = some (en c, M)) : (op1 g a : Pr γ) = Pr.ok c := by
  funext Q E
  refine propext ⟨fun ⟨c', h', q⟩ => ?_, fun q => ⟨c, h, q⟩⟩
  have e := (h' []).symm.trans (h [])
  simp only [Option.some.injEq, Prod.mk.injEq, and_true] at e
  rw [Enc.inj c' c e] at q
  exact q
def GS [Enc γ] (S X : Sto → Prop) (g : G2) (x y : D) (p : Pr γ) : Prop := ∀ M, S M → Sat (liftM (g x y M)) p (relE S) X
theorem gs_op2 [Enc α] [Enc β] [Enc γ] {g : G2} {a : α} {b : β} : GS S X g (en a) (en b) (op2 g a b : Pr γ) := fun M hM => by
  refine ⟨fun Q E ⟨c, h, q⟩ => ?_⟩
  rw [h M]
  exact ⟨c, q, rfl, hM⟩
theorem gs_ok [Enc γ] {g : G2} {x y : D} {c : γ} (h : ∀ M, S M → g x y M = some (en c, M)) : GS S X g x y (Pr.ok c) := fun M hM => by
  rw [h M hM]
  exact .ok ⟨rfl, hM⟩
theorem bin_v {g : G2} {fa fb : DE} {x y z : D} (ha : PV fa env S x) (hb : PV fb env S y) (hg : ∀ M, S M → g x y M = some (z, M)) : PV (dBin g fa fb) env S z := fun M hM => by
  unfold dBin
  rw [ha M hM]
  show (fb env M).bind _ = _
  rw [hb M hM]
  show liftM (g x y M) = _
  rw [hg M hM]; rfl
theorem bin_pp [Enc γ] {g : G2} {fa fb : DE} {x y : D} {P : Pr γ} (ha : PV fa env S x) (hb : PV fb env S y) (hg : GS S X g x y P) : PX (dBin g fa fb) env S X P := fun M hM =>
  bd_p ha hM (bd_p hb hM (hg M hM))
theorem bin_pe [Enc β] [Enc γ] {g : G2} {fa fb : DE} {x : D} {q : Pr β} {R : β → Pr γ} (ha : PV fa env S x) (hb : PX fb env S X q) (hg : ∀ b, GS S X g x (en b) (R b)) : PX (dBin g fa fb) env S X (q.bind R) := fun M hM =>
  bd_p ha hM (bd_e hb hM fun b M1 h1 => hg b M1 h1)
theorem bin_ep [Enc α] [Enc γ] {g : G2} {fa fb : DE} {y : D} {p : Pr α} {R : α → Pr γ} (ha : PX fa env S X p) (hb : PV fb env S y) (hg : ∀ a, GS S X g (en a) y (R a)) : PX (dBin g fa fb) env S X (p.bind R) := fun M hM =>
  bd_e ha hM fun a M1 h1 => bd_p hb h1 (hg a M1 h1)
theorem bin_ee [Enc α] [Enc β] [Enc γ] {g : G2} {fa fb : DE} {p : Pr α} {q : Pr β} {R : α → β → Pr γ} (ha : PX fa env S X p) (hb : PX fb env S X q) (hg : ∀ a b, GS S X g (en a) (en b) (R a b)) : PX (dBin g fa fb) env S X (p.bind fun a => q.bind (R a)) := fun M hM =>
  bd_e ha hM fun a M1 h1 => bd_e hb h1 fun b M2 h2 => hg a b M2 h2
def GU [Enc γ] (S X : Sto → Prop) (g : D → Sto → Option (D × Sto)) (x : D) (p : Pr γ) : Prop := ∀ M, S M → Sat (liftM (g x M)) p (relE S) X
theorem gu_op1 [Enc α] [Enc γ] {g : D → Sto → Option (D × Sto)} {a : α} : GU S X g (en a) (op1 g a : Pr γ) := fun M hM => by
  refine ⟨fun Q E ⟨c, h, q⟩ => ?_⟩
  rw [h M]
  exact ⟨c, q, rfl, hM⟩
theorem un_v {g : D → Sto → Option (D × Sto)} {fa : DE} {x z : D} (ha : PV fa env S x) (hg : ∀ M, S M → g x M = some (z, M)) : PV (dUn g fa) env S z := fun M hM => by
  unfold dUn
  rw [ha M hM]
  show liftM (g x M) = _
  rw [hg M hM]; rfl
theorem un_p [Enc γ] {g : D → Sto → Option (D × Sto)} {fa : DE} {x : D} {P : Pr γ} (ha : PV fa env S x) (hg : GU S X g x P) : PX (dUn g fa) env S X P := fun M hM => bd_p ha hM (hg M hM)
theorem arg_p {f : DE} {fr : DA} {x : D} {c : List D → Sto → Out ε} {P : Pr β} (h : PV f env S x) (hM : S M) (hk : Sat ((fr env M).bind fun xs M2 => c (x :: xs) M2) P rel' X) : Sat ((dConsA f fr env M).bind c) P rel' X := by
  unfold dConsA
  rw [h M hM]
  show Sat ((Out.bind (fr env M) fun xs M2 => Out.ok (x :: xs) M2).bind c) P rel' X
  rw [bind_assoc]
  exact hk
theorem arg_e [Enc α] {f : DE} {fr : DA} {p : Pr α} {k : α → Pr β} {c : List D → Sto → Out ε} (h : PX f env S X p) (hM : S M) (hk : ∀ a M1, S M1 → Sat ((fr env M1).bind fun xs M2 => c (en a :: xs) M2) (k a) rel' X) : Sat ((dConsA f fr env M).bind c) (p.bind k) rel' X := by
  unfold dConsA
  rw [bind_assoc]
  refine (h M hM).bind fun a d M1 ⟨e, s⟩ => ?_
  rw [e]
  show Sat ((Out.bind (fr env M1) fun xs M2 => Out.ok (en a :: xs) M2).bind c) (k a) rel' X
  rw [bind_assoc]
  exact hk a M1 s
theorem arg_nil {c : List D → Sto → Out ε} {P : Pr β} (h : Sat (c [] M) P rel' X) : Sat ((dNilA env M).bind c) P rel' X := h
def AV (fa : DA) (env : En) (S : Sto → Prop) (xs : List D) : Prop := ∀ M, S M → fa env M = .ok xs M
theorem av_nil : AV dNilA env S [] := fun _ _ => rfl
theorem av_cons {f : DE} {fr : DA} {x : D} {xs : List D} (h : PV f env S x) (hr : AV fr env S xs) : AV (dConsA f fr) env S (x :: xs) := fun M hM => by
  unfold dConsA
  rw [h M hM]
  show (fr env M).bind _ = _
  rw [hr M hM]; rfl
/-- tuples and lists written out -/
theorem tup_v {fa : DA} {xs : List D} (h : AV fa env S xs) (hl : xs.length ≤ 16777216 := by exact Nat.le_of_ble_eq_true rfl) : PV (dTup fa) env S (.tup xs) := fun M hM => by
  unfold dTup
  rw [h M hM]
  exact if_pos hl
theorem lst_v {fa : DA} {xs : List D} (h : AV fa env S xs) (hl : xs.length ≤ 16777216 := by exact Nat.le_of_ble_eq_true rfl) : PV (dLst fa) env S (.lst xs) := fun M hM => by
  unfold dLst
  rw [h M hM]
  exact if_pos hl
theorem seq_end [Enc α] {xs : List D} {mk : List D → D} {a : α} (e : mk xs = en a) (hM : S M) (hl : xs.length ≤ 16777216 := by exact Nat.le_of_ble_eq_true rfl) : Sat (if xs.length ≤ 16777216 then Out.ok (mk xs) M else .bad) (Pr.ok a) (relE S) X := by
  rw [if_pos hl]
  exact .ok ⟨e, hM⟩
def FP [Enc α] (F : DF) (ds : List D) (p : Pr α) : Prop := ∀ M, PureS M → Sat (F ds M) p (fun a d M' => d = en a ∧ M' = M) NX
def FB [Enc α] (F : DF) (ds : List D) (p : Pr α) : Prop := ∀ b G, BagOk b → PureS G → Sat (F (.ref 0 :: ds) (.lst b :: G)) p (fun a d M' => d = en a ∧ ∃ b', BagOk b' ∧ M' = .lst b' :: G) NX
variable {N : Nat} {P : Sto → Prop} {cs : List (Nat × Cell)} {G : Sto}
end
end Ip
end
section
set_option Elab.async false
set_option linter.all false
set_option maxRecDepth 100000
set_option maxHeartbeats 1000000
set_option autoImplicit false
namespace Ip
open PySem L2
section
variable {α β γ δ ε σ ρ : Type} {X : Sto → Prop} {env : En} {S : Sto → Prop} {M : Sto}
theorem b_v {f : DE} {b : Bool} (h : PV f env S (.bl b)) : TV (dB f) env S b := fun M hM => by
  rw [ev_b, h M hM]
  rfl
theorem b_x {f : DE} {p : Pr Bool} (h : PX f env S X p) : TX (dB f) env S X p := fun M hM => by
  refine ⟨fun Q E z => ?_⟩
  have := (h M hM).run Q E z
  rw [ev_b]
  cases ho : f env M with
  | bad => rw [ho] at this; exact this
  | exc e v M1 => rw [ho] at this; exact this
  | ok d M1 =>
    rw [ho] at this
    obtain ⟨b, q, e, s⟩ := this
    subst e
    exact ⟨b, q, rfl, s⟩
theorem tru_v {f : DE} {d : D} {b : Bool} (h : PV f env S d) (ht : ∀ M, S M → truD d M = some b) : TV (dTru f) env S b := fun M hM => by
  unfold dTru
  rw [h M hM]
  show (match truD d M with
    | some b => Out.ok b M
    | none => .bad) = _
  rw [ht M hM]
theorem tru_x [Enc α] {f : DE} {p : Pr α} {w : α → Bool} (h : PX f env S X p) (ht : ∀ a M, S M → truD (en a) M = some (w a)) : TX (dTru f) env S X (p.bind fun a => Pr.ok (w a)) := fun M hM =>
  bd_e h hM fun a M1 h1 => by
    show Sat (match truD (en a) M1 with
      | some b => Out.ok b M1
      | none => .bad) _ _ _
    rw [ht a M1 h1]
    exact .ok ⟨rfl, h1⟩
theorem tru_b {f : DE} {p : Pr Bool} (h : PX f env S X p) : TX (dTru f) env S X p := fun M hM => tru_x (w := id) h (fun a M _ => rfl) M hM
theorem not_tv {f : DT} {b : Bool} (h : TV f env S b) : TV (dNot f) env S (!b) := fun M hM => by
  unfold dNot; rw [h M hM]; rfl
theorem not_tx {f : DT} {p : Pr Bool} (h : TX f env S X p) : TX (dNot f) env S X (p.bind fun b => Pr.ok (!b)) := fun M hM => td_e h hM fun b M1 h1 => .ok ⟨rfl, h1⟩
theorem and_tv {f g : DT} {a b : Bool} (h : TV f env S a) (h' : TV g env S b) : TV (dAnd f g) env S (a && b) := fun M hM => by
  unfold dAnd; rw [h M hM]
  cases a
  · rfl
  · exact h' M hM
theorem or_tv {f g : DT} {a b : Bool} (h : TV f env S a) (h' : TV g env S b) : TV (dOr f g) env S (a || b) := fun M hM => by
  unfold dOr; rw [h M hM]
  cases a
  · exact h' M hM
  · rfl
theorem or_tx {f g : DT} {p q : Pr Bool} (h : TX f env S X p) (h' : TX g env S X q) : TX (dOr f g) env S X (p.bind fun a => if a then Pr.ok true else q) := fun M hM => td_e h hM fun a M1 h1 => by
  cases a
  · exact h' M1 h1
  · exact .ok ⟨rfl, h1⟩
theorem and_tpx {f g : DT} {a : Bool} {q : Pr Bool} (h : TV f env S a) (h' : TX g env S X q) : TX (dAnd f g) env S X (if a then q else Pr.ok false) := fun M hM => td_p h hM (by
  cases a
  · exact .ok ⟨rfl, hM⟩
  · exact h' M hM)
theorem or_tpx {f g : DT} {a : Bool} {q : Pr Bool} (h : TV f env S a) (h' : TX g env S X q) : TX (dOr f g) env S X (if a then Pr.ok true else q) := fun M hM => td_p h hM (by
  cases a
  · exact h' M hM
  · exact .ok ⟨rfl, hM⟩)
theorem yes_tv : TV dYes env S true := fun _ _ => rfl
theorem notV_v {f : DE} {b : Bool} (h : PV f env S (.bl b)) : PV (dNotV f) env S (.bl (!b)) := fun M hM => by unfold dNotV; rw [h M hM]; rfl
theorem andV_v {f g : DE} {a b : Bool} (h : PV f env S (.bl a)) (h' : PV g env S (.bl b)) : PV (dAndV f g) env S (.bl (a && b)) := fun M hM => by
  unfold dAndV; rw [h M hM]
  cases a
  · rfl
  · exact h' M hM
theorem andV_x {f g : DE} {p q : Pr Bool} (h : PX f env S X p) (h' : PX g env S X q) : PX (dAndV f g) env S X (p.bind fun a => if a then q else Pr.ok false) := fun M hM => bd_e h hM fun a M1 h1 => by
  cases a
  · exact .ok ⟨rfl, h1⟩
  · exact h' M1 h1
theorem orV_x {f g : DE} {p q : Pr Bool} (h : PX f env S X p) (h' : PX g env S X q) : PX (dOrV f g) env S X (p.bind fun a => if a then Pr.ok true else q) := fun M hM => bd_e h hM fun a M1 h1 => by
  cases a
  · exact h' M1 h1
  · exact .ok ⟨rfl, h1⟩
theorem ifE_v {ft : DT} {fa fb : DE} {c : Bool} {x y : D} (h : TV ft env S c) (ha : PV fa env S x) (hb : PV fb env S y) : PV (dIfE ft fa fb) env S (if c then x else y) := fun M hM => by
  unfold dIfE; rw [h M hM]
  cases c
  · exact hb M hM
  · exact ha M hM
theorem ifE_t [Enc α] {ft : DT} {fa fb : DE} {c : Bool} {p q : Pr α} (h : TV ft env S c) (ha : PX fa env S X p) (hb : PX fb env S X q) : PX (dIfE ft fa fb) env S X (if c then p else q) := fun M hM => td_p h hM (by
  cases c
  · exact hb M hM
  · exact ha M hM)
variable {rel : α → Fl → Sto → Prop}
def NxR (N : σ → En → Sto → Prop) : σ → Fl → Sto → Prop := fun s fl M => ∃ env, fl = .nx env ∧ N s env M
theorem last_of {f : DS} {p : Pr α} (h : Sat (dSeq f dSkip env M) p rel X) : Sat (f env M) p rel X := by
  have e : dSeq f dSkip env M = f env M := by
    unfold dSeq
    cases f env M with
    | ok fl M1 => cases fl <;> rfl
    | exc e v M1 => rfl
    | bad => rfl
  rw [e] at h
  exact h
theorem seq_skip {g : DS} {p : Pr α} (h : Sat (g env M) p rel X) : Sat (dSeq dSkip g env M) p rel X := h
theorem skip_end {a : α} (h : rel a (.nx env) M) : Sat (dSkip env M) (Pr.ok a) rel X := .ok h
theorem seq_nx {f g : DS} {p : Pr σ} {k : σ → Pr α} {I : σ → En → Sto → Prop} (h : Sat (f env M) p (NxR I) X) (hk : ∀ s env1 M1, I s env1 M1 → Sat (g env1 M1) (k s) rel X) : Sat (dSeq f g env M) (p.bind k) rel X :=
  h.bind fun s fl M1 ⟨env1, e, i⟩ => by rw [e]; exact hk s env1 M1 i
theorem seq_set {i : Nat} {fe : DE} {g : DS} {x : D} {p : Pr α} {env1 : En} (he : env.set i (some x) = env1) (h : PV fe env S x) (hM : S M) (hk : Sat (g env1 M) p rel X) : Sat (dSeq (dSet i fe) g env M) p rel X := by
  unfold dSeq dSet
  rw [h M hM]
  subst he
  exact hk
theorem seq_setx [Enc β] {i : Nat} {fe : DE} {g : DS} {p : Pr β} {k : β → Pr α} {env1 : β → En} (he : ∀ a, env.set i (some (en a)) = env1 a) (h : PX fe env S X p) (hM : S M) (hk : ∀ a M1, S M1 → Sat (g (env1 a) M1) (k a) rel X) : Sat (dSeq (dSet i fe) g env M) (p.bind k) rel X := by
  unfold dSeq dSet
  rw [bind_assoc]
  refine bd_e h hM fun a M1 h1 => ?_
  have := hk a M1 h1
  rw [← he a] at this
  exact this
theorem seq_dropx [Enc β] {fe : DE} {g : DS} {p : Pr β} {k : β → Pr α} (h : PX fe env S X p) (hM : S M) (hk : ∀ a M1, S M1 → Sat (g env M1) (k a) rel X) : Sat (dSeq (dDrop fe) g env M) (p.bind k) rel X := by
  unfold dSeq dDrop
  rw [bind_assoc]
  exact bd_e h hM hk
theorem seq_asg {t : DG} {fe : DE} {g : DS} {x : D} {env1 : En} {p : Pr α} (h : PV fe env S x) (ht : t x env = some env1) (hM : S M) (hk : Sat (g env1 M) p rel X) : Sat (dSeq (dAsg t fe) g env M) p rel X := by
  unfold dSeq dAsg
  rw [h M hM]
  show Sat (Out.bind (match t x env with
    | some env' => Out.ok (Fl.nx env') M
    | none => .bad) _) p rel X
  rw [ht]
  exact hk
theorem seq_asgx [Enc β] {t : DG} {fe : DE} {g : DS} {env1 : β → En} {p : Pr β} {k : β → Pr α} (h : PX fe env S X p) (ht : ∀ a, t (en a) env = some (env1 a)) (hM : S M) (hk : ∀ a M1, S M1 → Sat (g (env1 a) M1) (k a) rel X) : Sat (dSeq (dAsg t fe) g env M) (p.bind k) rel X := by
  unfold dSeq dAsg
  rw [bind_assoc]
  refine bd_e h hM fun a M1 h1 => ?_
  show Sat (Out.bind (match t (en a) env with
    | some env' => Out.ok (Fl.nx env') M1
    | none => .bad) _) _ rel X
  rw [ht a]
  exact hk a M1 h1
/-- two, three names at once -/
def seqK (g : DS) : Fl → Sto → Out Fl := fun fl M1 => match fl with
  | .nx env1 => g env1 M1
  | o => .ok o M1
theorem seq_par {i j : Nat} {fa : DA} {g : DS} {p : Pr α} (h : Sat ((fa env M).bind fun ds M1 => (match ds with
  | [x, y] => Out.ok (Fl.nx ((env.set i (some x)).set j (some y))) M1
  | _ => .bad).bind (seqK g)) p rel X) : Sat (dSeq (dPar i j fa) g env M) p rel X := by
  unfold dSeq dPar
  rw [bind_assoc]
  exact h
theorem par_end {i j : Nat} {g : DS} {x y : D} {p : Pr α} {env1 : En} (he : (env.set i (some x)).set j (some y) = env1) (h : Sat (g env1 M) p rel X) : Sat ((match [x, y] with
  | [x, y] => Out.ok (Fl.nx ((env.set i (some x)).set j (some y))) M
  | _ => .bad).bind (seqK g)) p rel X := by subst he; exact h
theorem seq_if {ft : DT} {fa fb g : DS} {c : Bool} {p q : Pr α} (h : TV ft env S c) (hM : S M) (ha : Sat (dSeq fa g env M) p rel X) (hb : Sat (dSeq fb g env M) q rel X) : Sat (dSeq (dIf ft fa fb) g env M) (if c then p else q) rel X := by
  unfold dSeq dIf
  rw [h M hM]
  cases c
  · exact hb
  · exact ha
theorem seq_ifx {ft : DT} {fa fb g : DS} {t : Pr Bool} {p q : Pr α} (h : TX ft env S X t) (hM : S M) (ha : ∀ M, S M → Sat (dSeq fa g env M) p rel X) (hb : ∀ M, S M → Sat (dSeq fb g env M) q rel X) : Sat (dSeq (dIf ft fa fb) g env M) (t.bind fun c => if c then p else q) rel X := by
  unfold dSeq dIf
  rw [bind_assoc]
  refine td_e h hM fun c M1 h1 => ?_
  cases c
  · exact hb M1 h1
  · exact ha M1 h1
theorem if_nx {ft : DT} {fa fb : DS} {c : Bool} {p q : Pr α} (h : TV ft env S c) (hM : S M) (ha : Sat (fa env M) p rel X) (hb : Sat (fb env M) q rel X) : Sat (dIf ft fa fb env M) (if c then p else q) rel X := by
  unfold dIf
  rw [h M hM]
  cases c
  · exact hb
  · exact ha
theorem if_nxx {ft : DT} {fa fb : DS} {t : Pr Bool} {p q : Pr α} (h : TX ft env S X t) (hM : S M) (ha : ∀ M, S M → Sat (fa env M) p rel X) (hb : ∀ M, S M → Sat (fb env M) q rel X) : Sat (dIf ft fa fb env M) (t.bind fun c => if c then p else q) rel X := by
  unfold dIf
  refine td_e h hM fun c M1 h1 => ?_
  cases c
  · exact hb M1 h1
  · exact ha M1 h1
theorem seq_ret {fe : DE} {g : DS} {x : D} {a : α} (h : PV fe env S x) (hM : S M) (hr : rel a (.rt x) M) : Sat (dSeq (dRet fe) g env M) (Pr.ok a) rel X := by
  unfold dSeq dRet
  rw [h M hM]
  exact .ok hr
theorem seq_retx [Enc β] {fe : DE} {g : DS} {p : Pr β} {w : β → α} (h : PX fe env S X p) (hM : S M) (hr : ∀ a M1, S M1 → rel (w a) (.rt (en a)) M1) : Sat (dSeq (dRet fe) g env M) (p.bind fun a => Pr.ok (w a)) rel X := by
  unfold dSeq dRet
  rw [bind_assoc]
  exact bd_e h hM fun a M1 h1 => .ok (hr a M1 h1)
theorem seq_retx' [Enc α] {fe : DE} {g : DS} {p : Pr α} (h : PX fe env S X p) (hM : S M) (hr : ∀ a M1, S M1 → rel a (.rt (en a)) M1) : Sat (dSeq (dRet fe) g env M) p rel X := seq_retx (w := id) h hM hr
theorem seq_never {f g : DS} : Sat (dSeq f g env M) (Pr.bad : Pr α) rel X := .bad
inductive FlT (σ ρ : Type) where
  | nx (s : σ) | bk (s : σ) | rt (r : ρ)
/-- a turn of a loop -/
def LpR (I : σ → En → Sto → Prop) : σ → Fl → Sto → Prop := fun s fl M => ∃ env, (fl = .nx env ∨ fl = .ct env) ∧ I s env M
def LfR (I : σ → En → Sto → Prop) (R : ρ → D → Sto → Prop) : FlT σ ρ → Fl → Sto → Prop
  | .nx s, fl, M => ∃ env, (fl = .nx env ∨ fl = .ct env) ∧ I s env M
  | .bk s, fl, M => ∃ env, fl = .bk env ∧ I s env M
  | .rt r, fl, M => ∃ d, fl = .rt d ∧ R r d M
/-- behind a loop -/
def NfR (I : σ → En → Sto → Prop) (R : ρ → D → Sto → Prop) : FlT σ ρ → Fl → Sto → Prop
  | .nx s, fl, M => ∃ env, fl = .nx env ∧ I s env M
  | .bk _, _, _ => False
  | .rt r, fl, M => ∃ d, fl = .rt d ∧ R r d M
def Pr.flow (p : Pr (FlT σ ρ)) (k : σ → Pr α) (w : ρ → α) : Pr α := p.bind fun fl => match fl with
  | .nx s => k s
  | .rt r => Pr.ok (w r)
  | .bk _ => Pr.bad
theorem seq_fl {f g : DS} {p : Pr (FlT σ ρ)} {k : σ → Pr α} {w : ρ → α} {I : σ → En → Sto → Prop} {R : ρ → D → Sto → Prop} (h : Sat (f env M) p (NfR I R) X) (hk : ∀ s env1 M1, I s env1 M1 → Sat (g env1 M1) (k s) rel X) (hr : ∀ r d M1, R r d M1 → rel (w r) (.rt d) M1) :
    Sat (dSeq f g env M) (p.flow k w) rel X :=
  h.bind fun fl d M1 z => by
    cases fl with
    | nx s => obtain ⟨env1, e, i⟩ := z; rw [e]; exact hk s env1 M1 i
    | bk s => exact z.elim
    | rt r => obtain ⟨x, e, i⟩ := z; rw [e]; exact .ok (hr r x M1 i)
def Pr.forM : List α → σ → (α → σ → Pr σ) → Pr σ
  | [], s, _ => Pr.ok s
  | x :: xs, s, b => (b x s).bind fun s' => Pr.forM xs s' b
def Pr.forF : List α → σ → (α → σ → Pr (FlT σ ρ)) → Pr (FlT σ ρ)
  | [], s, _ => Pr.ok (.nx s)
  | x :: xs, s, b => (b x s).bind fun fl => match fl with
    | .nx s' => Pr.forF xs s' b
    | .bk s' => Pr.ok (.nx s')
    | .rt r => Pr.ok (.rt r)
theorem forGo_sat {t : DG} {fb : DS} {body : β → σ → Pr σ} {I : σ → En → Sto → Prop} {enc : β → D} (hb : ∀ x s env M, I s env M → ∃ env1, t (enc x) env = some env1 ∧ Sat (fb env1 M) (body x s) (LpR I) X) :
    ∀ (l : List β) (s : σ) (env : En) (M : Sto), I s env M → Sat (forGo t fb (l.map enc) env M) (Pr.forM l s body) (NxR I) X
  | [], s, env, M, h => .ok ⟨env, rfl, h⟩
  | x :: l, s, env, M, h => by
    obtain ⟨env1, e, hs⟩ := hb x s env M h
    show Sat (match t (enc x) env with
      | none => Out.bad
      | some env1 => (fb env1 M).bind fun fl M1 => match fl with
        | Fl.nx e => forGo t fb (l.map enc) e M1
        | Fl.ct e => forGo t fb (l.map enc) e M1
        | Fl.bk e => Out.ok (Fl.nx e) M1
        | Fl.rt d => Out.ok (Fl.rt d) M1) _ _ X
    rw [e]
    refine hs.bind fun s' fl M1 ⟨env2, z, i⟩ => ?_
    rcases z with z | z
    · rw [z]; exact forGo_sat hb l s' env2 M1 i
    · rw [z]; exact forGo_sat hb l s' env2 M1 i
theorem forGo_fl {t : DG} {fb : DS} {body : β → σ → Pr (FlT σ ρ)} {I : σ → En → Sto → Prop} {R : ρ → D → Sto → Prop} {enc : β → D} (hb : ∀ x s env M, I s env M → ∃ env1, t (enc x) env = some env1 ∧ Sat (fb env1 M) (body x s) (LfR I R) X) :
    ∀ (l : List β) (s : σ) (env : En) (M : Sto), I s env M → Sat (forGo t fb (l.map enc) env M) (Pr.forF l s body) (NfR I R) X
  | [], s, env, M, h => .ok ⟨env, rfl, h⟩
  | x :: l, s, env, M, h => by
    obtain ⟨env1, e, hs⟩ := hb x s env M h
    show Sat (match t (enc x) env with
      | none => Out.bad
      | some env1 => (fb env1 M).bind fun fl M1 => match fl with
        | Fl.nx e => forGo t fb (l.map enc) e M1
        | Fl.ct e => forGo t fb (l.map enc) e M1
        | Fl.bk e => Out.ok (Fl.nx e) M1
        | Fl.rt d => Out.ok (Fl.rt d) M1) _ _ X
    rw [e]
    refine hs.bind fun s' fl M1 z => ?_
    cases s' with
    | nx s2 =>
      obtain ⟨env2, z, i⟩ := z
      rcases z with z | z
      · rw [z]; exact forGo_fl hb l s2 env2 M1 i
      · rw [z]; exact forGo_fl hb l s2 env2 M1 i
    | bk s2 => obtain ⟨env2, z, i⟩ := z; rw [z]; exact .ok ⟨env2, rfl, i⟩
    | rt r => obtain ⟨d, z, i⟩ := z; rw [z]; exact .ok ⟨d, rfl, i⟩
theorem forS_items {t : DG} {fb : DS} (l : List D) : ∀ (f i : Nat) (env : En) (M : Sto), l.length < f + i → i ≤ l.length → forS t fb (.items l) f i env M = forGo t fb (l.drop i) env M
  | 0, i, env, M, h, hi => by omega
  | f + 1, i, env, M, h, hi => by
    by_cases hl : i < l.length
    · rw [List.drop_eq_getElem_cons hl]
      have ih := fun env M => forS_items (t := t) (fb := fb) l f (i + 1) env M (by omega) (by omega)
      unfold forS forGo
      rw [show (Src.items l).at_ i M = some (some l[i]) by show some l[i]? = _; rw [List.getElem?_eq_getElem hl]]
      simp only [ih]
      all_goals rfl
    · have e : i = l.length := by omega
      subst e
      rw [List.drop_length]
      unfold forS forGo
      rw [show (Src.items l).at_ l.length M = some none by show some l[l.length]? = _; simp]
end
end Ip
end
section
set_option Elab.async false
set_option linter.all false
set_option maxRecDepth 100000
set_option maxHeartbeats 1000000
set_option autoImplicit false
namespace Ip
open PySem L2
/-- a small number -/
def sm (n : Int) : Prop := -1000000000 ≤ n ∧ n ≤ 1000000000
theorem in62_sm {n : Int} (h : sm n) : in62 n = true := by
  unfold in62 sm at *
  simp only [Bool.and_eq_true, decide_eq_true_eq]
  omega
def rngI (lo : Int) (n : Nat) : List Int := (List.range n).map fun k => lo + (k : Nat)
theorem rngD_map (lo : Int) (n : Nat) : rngD lo n = (rngI lo n).map D.int := by simp [rngD, rngI]
section
variable {α β γ δ ε σ ρ : Type} {X : Sto → Prop} {env : En} {S : Sto → Prop} {M : Sto}
def IX (fi : DA) (env : En) (S X : Sto → Prop) (p : Pr (List β)) (enc : β → D) : Prop := ∀ M, S M → Sat (fi env M) p (fun l ds M' => ds = l.map enc ∧ S M') X
theorem rng1_v {fe : DE} {n : Int} (h : PV fe env S (.int n)) : IX (dRng1 (dConsA fe dNilA)) env S X (Pr.need (sm n) (Pr.ok (rngI 0 n.toNat))) D.int := fun M hM =>
  .need fun hn => arg_p h hM (arg_nil (by
    show Sat (if in62 n then Out.ok (rngD 0 n.toNat) M else .bad) _ _ _
    rw [in62_sm hn, rngD_map]
    exact .ok ⟨rfl, hM⟩))
theorem rng1_x {fe : DE} {p : Pr Int} (h : PX fe env S X p) : IX (dRng1 (dConsA fe dNilA)) env S X (p.bind fun n => Pr.need (sm n) (Pr.ok (rngI 0 n.toNat))) D.int := fun M hM =>
  arg_e h hM fun n M1 h1 => arg_nil (.need fun hn => by
    show Sat (if in62 n then Out.ok (rngD 0 n.toNat) M1 else .bad) _ _ _
    rw [in62_sm hn, rngD_map]
    exact .ok ⟨rfl, h1⟩)
theorem iter_v {fe : DE} {l : List β} {enc : β → D} (h : PV fe env S (.lst (l.map enc))) : IX (dIter fe) env S X (Pr.ok l) enc := fun M hM => by
  unfold dIter
  rw [h M hM]
  exact .ok ⟨rfl, hM⟩
theorem iter_t {fe : DE} {l : List β} {enc : β → D} (h : PV fe env S (.tup (l.map enc))) : IX (dIter fe) env S X (Pr.ok l) enc := fun M hM => by
  unfold dIter
  rw [h M hM]
  exact .ok ⟨rfl, hM⟩
theorem zipD_map (f : β → D) (g : γ → D) : ∀ (a : List β) (b : List γ), zipD (a.map f) (b.map g) = (a.zip b).map fun p => .tup [f p.1, g p.2]
  | [], _ => by simp [zipD]
  | _ :: _, [] => by simp [zipD]
  | x :: a, y :: b => by simp [zipD, zipD_map f g a b]
theorem zip_v [Enc β] [Enc γ] {fe ff : DE} {a : List β} {b : List γ} (h : PV fe env S (.lst (a.map en))) (h' : PV ff env S (.lst (b.map en))) : IX (dZip (dConsA fe (dConsA ff dNilA))) env S X (Pr.ok (a.zip b)) (en (α := β × γ)) := fun M hM =>
  arg_p h hM (arg_p h' hM (arg_nil (by
    show Sat (Out.ok (zipD (a.map en) (b.map en)) M) _ _ _
    rw [zipD_map]
    exact .ok ⟨rfl, hM⟩)))
theorem for_nx {t : DG} {fi : DA} {fb : DS} {p : Pr (List β)} {enc : β → D} {s : σ} {body : β → σ → Pr σ} {I : σ → En → Sto → Prop} (hi : IX fi env S X p enc) (hM : S M) (h0 : ∀ M, S M → I s env M)
    (hb : ∀ x s env M, I s env M → ∃ env1, t (enc x) env = some env1 ∧ Sat (fb env1 M) (body x s) (LpR I) X) : Sat (dFor t fi fb env M) (p.bind fun l => Pr.forM l s body) (NxR I) X :=
  (hi M hM).bind fun l ds M1 ⟨e, h1⟩ => by rw [e]; exact forGo_sat hb l s env M1 (h0 M1 h1)
theorem for_fl {t : DG} {fi : DA} {fb : DS} {p : Pr (List β)} {enc : β → D} {s : σ} {body : β → σ → Pr (FlT σ ρ)} {I : σ → En → Sto → Prop} {R : ρ → D → Sto → Prop} (hi : IX fi env S X p enc) (hM : S M) (h0 : ∀ M, S M → I s env M)
    (hb : ∀ x s env M, I s env M → ∃ env1, t (enc x) env = some env1 ∧ Sat (fb env1 M) (body x s) (LfR I R) X) : Sat (dFor t fi fb env M) (p.bind fun l => Pr.forF l s body) (NfR I R) X :=
  (hi M hM).bind fun l ds M1 ⟨e, h1⟩ => by rw [e]; exact forGo_fl hb l s env M1 (h0 M1 h1)
/-- lists and enumerate in a for -/
def JX (fi : DI) (env : En) (S X : Sto → Prop) (p : Pr (List β)) (enc : β → D) : Prop := ∀ M, S M → Sat (fi env M) p (fun l src M' => src = .items (l.map enc) ∧ l.length < 20000000 ∧ S M') X
def lim (l : List β) : Pr (List β) := Pr.need (l.length < 20000000) (Pr.ok l)
theorem j_v {fe : DE} {l : List β} {enc : β → D} (h : PV fe env S (.lst (l.map enc))) : JX (dIter2 fe) env S X (lim l) enc := fun M hM => .need fun hl => by
  unfold dIter2
  rw [h M hM]
  exact .ok ⟨rfl, hl, hM⟩
theorem j_t {fe : DE} {l : List β} {enc : β → D} (h : PV fe env S (.tup (l.map enc))) : JX (dIter2 fe) env S X (lim l) enc := fun M hM => .need fun hl => by
  unfold dIter2
  rw [h M hM]
  exact .ok ⟨rfl, hl, hM⟩
theorem j_x [Enc β] {fe : DE} {p : Pr (List β)} (h : PX fe env S X p) : JX (dIter2 fe) env S X (p.bind lim) (en (α := β)) := fun M hM =>
  bd_e h hM fun l M1 h1 => .need fun hl => .ok ⟨rfl, hl, h1⟩
def enumI (k : Nat) : List β → List (Int × β)
  | [] => []
  | x :: l => ((k : Nat), x) :: enumI (k + 1) l
theorem enumD_map (f : β → D) : ∀ (k : Nat) (l : List β), enumD k (l.map f) = (enumI k l).map fun p => .tup [.int p.1, f p.2]
  | _, [] => rfl
  | k, x :: l => by simp [enumD, enumI, enumD_map f (k + 1) l]
theorem enumI_len : ∀ (k : Nat) (l : List β), (enumI k l).length = l.length
  | _, [] => rfl
  | k, x :: l => by simp [enumI, enumI_len (k + 1) l]
theorem j_enum_v [Enc β] {fe : DE} {l : List β} (h : PV fe env S (.lst (l.map en))) : JX (dEnum2 fe) env S X ((lim l).bind fun l => Pr.ok (enumI 0 l)) (en (α := Int × β)) := fun M hM => Sat.need (p := Pr.ok (enumI 0 l)) fun hl => by
  unfold dEnum2
  rw [h M hM]
  show Sat (Out.ok (Src.items (enumD 0 (l.map en))) M) _ _ _
  rw [enumD_map]
  exact .ok ⟨rfl, by rw [enumI_len]; exact hl, hM⟩
theorem forS_nx {t : DG} {fi : DI} {fb : DS} {p : Pr (List β)} {enc : β → D} {s : σ} {body : β → σ → Pr σ} {I : σ → En → Sto → Prop} (hi : JX fi env S X p enc) (hM : S M) (h0 : ∀ M, S M → I s env M)
    (hb : ∀ x s env M, I s env M → ∃ env1, t (enc x) env = some env1 ∧ Sat (fb env1 M) (body x s) (LpR I) X) : Sat (dForS t fi fb env M) (p.bind fun l => Pr.forM l s body) (NxR I) X :=
  (hi M hM).bind fun l src M1 ⟨e, hl, h1⟩ => by
    rw [e, forS_items _ _ _ _ _ (by simpa using hl) (Nat.zero_le _), List.drop_zero]
    exact forGo_sat hb l s env M1 (h0 M1 h1)
theorem forS_fl {t : DG} {fi : DI} {fb : DS} {p : Pr (List β)} {enc : β → D} {s : σ} {body : β → σ → Pr (FlT σ ρ)} {I : σ → En → Sto → Prop} {R : ρ → D → Sto → Prop} (hi : JX fi env S X p enc) (hM : S M) (h0 : ∀ M, S M → I s env M)
    (hb : ∀ x s env M, I s env M → ∃ env1, t (enc x) env = some env1 ∧ Sat (fb env1 M) (body x s) (LfR I R) X) : Sat (dForS t fi fb env M) (p.bind fun l => Pr.forF l s body) (NfR I R) X :=
  (hi M hM).bind fun l src M1 ⟨e, hl, h1⟩ => by
    rw [e, forS_items _ _ _ _ _ (by simpa using hl) (Nat.zero_le _), List.drop_zero]
    exact forGo_fl hb l s env M1 (h0 M1 h1)
def Pr.whM : Nat → σ → (σ → Pr Bool) → (σ → Pr σ) → Pr σ
  | 0, _, _, _ => Pr.bad
  | n + 1, s, c, b => (c s).bind fun t => if t then (b s).bind fun s' => Pr.whM n s' c b else Pr.ok s
theorem wh_nx {ft : DT} {fb : DS} {c : σ → Pr Bool} {body : σ → Pr σ} {I : σ → En → Sto → Prop}
    (hc : ∀ s env M, I s env M → Sat (ft env M) (c s) (fun a d M' => d = a ∧ I s env M') X) (hb : ∀ s env M, I s env M → Sat (fb env M) (body s) (LpR I) X) :
    ∀ (n : Nat) (s : σ) (env : En) (M : Sto), I s env M → Sat (whGo ft fb n env M) (Pr.whM n s c body) (NxR I) X
  | 0, s, env, M, h => .bad
  | n + 1, s, env, M, h => by
    unfold whGo
    refine (hc s env M h).bind fun a d M1 ⟨e, h1⟩ => ?_
    rw [e]
    cases a with
    | false => exact .ok ⟨env, rfl, h1⟩
    | true =>
      refine (hb s env M1 h1).bind fun s' fl M2 ⟨env2, z, i⟩ => ?_
      rcases z with z | z
      · rw [z]; exact wh_nx hc hb n s' env2 M2 i
      · rw [z]; exact wh_nx hc hb n s' env2 M2 i
def Pr.lcM : List β → (β → Pr Bool) → (β → Pr γ) → Pr (List γ)
  | [], _, _ => Pr.ok []
  | x :: l, c, g => (c x).bind fun b => if b then (g x).bind fun y => (Pr.lcM l c g).bind fun ys => Pr.ok (y :: ys) else Pr.lcM l c g
theorem lcGo_v {t : DG} {ft : DT} {fe : DE} {enc : β → D} {c : β → Bool} {g : β → D} {env0 : En} (hb : ∀ x, ∃ env1, t (enc x) env0 = some env1 ∧ TV ft env1 S (c x) ∧ PV fe env1 S (g x)) (hM : S M) :
    ∀ (l : List β) (acc : List D), acc.length + l.length ≤ 16777216 → lcGo t ft fe (l.map enc) acc env0 M = .ok (acc ++ (l.filter c).map g) M
  | [], acc, _ => by simp [lcGo]
  | x :: l, acc, h => by
    obtain ⟨env1, e, h1, h2⟩ := hb x
    simp only [List.length_cons] at h
    simp only [List.map_cons, lcGo, e]
    rw [h1 M hM]
    cases hc : c x with
    | false =>
      refine Eq.trans (show _ = lcGo t ft fe (l.map enc) acc env0 M from rfl) ?_
      rw [lcGo_v hb hM l acc (by omega), List.filter_cons_of_neg (by simp [hc])]
    | true =>
      refine Eq.trans (show _ = (noex (fe env1 M)).bind fun y M2 => if acc.length < 16777216 then lcGo t ft fe (l.map enc) (acc ++ [y]) env0 M2 else .bad from rfl) ?_
      rw [h2 M hM]
      show (if acc.length < 16777216 then lcGo t ft fe (l.map enc) (acc ++ [g x]) env0 M else .bad) = _
      rw [if_pos (by omega), lcGo_v hb hM l (acc ++ [g x]) (by simp; omega), List.filter_cons_of_pos (by simp [hc])]
      simp
theorem lc_v {vs : List Nat} {t : DG} {fi : DA} {ft : DT} {fe : DE} {p : Pr (List β)} {enc : β → D} {c : β → Bool} {g : β → γ} [Enc γ] (hi : IX fi env S X p enc) (hb : ∀ x, ∃ env1, t (enc x) (wipeE env vs) = some env1 ∧ TV ft env1 S (c x) ∧ PV fe env1 S (en (g x))) :
    PX (dLc vs t fi ft fe) env S X (p.bind fun l => Pr.need (l.length ≤ 16777216) (Pr.ok ((l.filter c).map g))) := fun M hM =>
  (hi M hM).bind fun l ds M1 ⟨e, h1⟩ => .need fun hl => by
    rw [e, lcGo_v (c := c) (g := fun x => en (g x)) hb h1 l [] (by simpa using hl)]
    exact .ok ⟨by show D.lst _ = D.lst _; simp, h1⟩
theorem lcGo_x [Enc γ] {t : DG} {ft : DT} {fe : DE} {enc : β → D} {c : β → Pr Bool} {g : β → Pr γ} {env0 : En} (hb : ∀ x, ∃ env1, t (enc x) env0 = some env1 ∧ TX ft env1 S NX (c x) ∧ PX fe env1 S NX (g x)) :
    ∀ (l : List β) (acc : List D) (M : Sto), S M → acc.length + l.length ≤ 16777216 → Sat (lcGo t ft fe (l.map enc) acc env0 M) (Pr.lcM l c g) (fun ys ds M' => ds = acc ++ ys.map en ∧ S M') X
  | [], acc, M, hM, _ => .ok ⟨by simp, hM⟩
  | x :: l, acc, M, hM, h => by
    obtain ⟨env1, e, h1, h2⟩ := hb x
    simp only [List.length_cons] at h
    simp only [List.map_cons, lcGo, e]
    refine ((h1 M hM).noex (X := X)).bind fun b d M1 ⟨e1, s1⟩ => ?_
    rw [e1]
    cases b with
    | false => exact lcGo_x hb l acc M1 s1 (by omega)
    | true =>
      refine ((h2 M1 s1).noex (X := X)).bind fun y d M2 ⟨e2, s2⟩ => ?_
      rw [e2]
      show Sat (if acc.length < 16777216 then lcGo t ft fe (l.map enc) (acc ++ [en y]) env0 M2 else .bad) _ _ X
      rw [if_pos (by omega)]
      exact (lcGo_x hb l (acc ++ [en y]) M2 s2 (by simp; omega)).map fun ys ds M3 ⟨e3, s3⟩ => ⟨by rw [e3]; simp, s3⟩
theorem lc_x {vs : List Nat} {t : DG} {fi : DA} {ft : DT} {fe : DE} {p : Pr (List β)} {enc : β → D} {c : β → Pr Bool} {g : β → Pr γ} [Enc γ] (hi : IX fi env S X p enc) (hb : ∀ x, ∃ env1, t (enc x) (wipeE env vs) = some env1 ∧ TX ft env1 S NX (c x) ∧ PX fe env1 S NX (g x)) :
    PX (dLc vs t fi ft fe) env S X (p.bind fun l => Pr.need (l.length ≤ 16777216) (Pr.lcM l c g)) := fun M hM =>
  (hi M hM).bind fun l ds M1 ⟨e, h1⟩ => .need fun hl => by
    rw [e]
    refine Sat.bind (k := Pr.ok) (lcGo_x (X := X) hb l [] M1 h1 (by simpa using hl)) fun ys ds M2 ⟨e2, s2⟩ => ?_
    exact .ok ⟨by rw [e2]; rfl, s2⟩
end
end Ip
end
section
set_option Elab.async false
set_option linter.all false
set_option maxRecDepth 100000
set_option maxHeartbeats 1000000
set_option autoImplicit false
namespace Ip
open PySem L2
class PuS (S : Sto → Prop) : Prop where
  pure : ∀ M, S M → PureS M
class BgS (S : Sto → Prop) : Prop where
  bag : ∀ M, S M → ∃ b K, BagOk b ∧ M = .lst b :: K ∧ PureS K ∧ ∀ b', BagOk b' → S (.lst b' :: K)
def S0 (M0 : Sto) : Sto → Prop := fun M => M = M0 ∧ PureS M0
def SB (G : Sto) : Sto → Prop := fun M => ∃ b, BagOk b ∧ M = .lst b :: G ∧ PureS G
instance (M0 : Sto) : PuS (S0 M0) := ⟨fun M ⟨e, h⟩ => by rw [e]; exact h⟩
theorem pure_bag {b : List D} {G : Sto} (h : BagOk b) (hG : PureS G) : PureS (.lst b :: G) := PureS.app (M := [.lst b]) (.one (bag_closed h)) hG
instance (G : Sto) : PuS (SB G) := ⟨fun M ⟨b, hb, e, h⟩ => by rw [e]; exact pure_bag hb h⟩
instance (G : Sto) : BgS (SB G) := ⟨fun M ⟨b, hb, e, h⟩ => ⟨b, G, hb, e, h, fun b' hb' => ⟨b', hb', rfl, h⟩⟩⟩
instance (N : Nat) (P : Sto → Prop) (cs : List (Nat × Cell)) : PuS (St N P cs) := ⟨fun M h => h.pure⟩
instance (G : Sto) (cs : List (Nat × Cell)) : BgS (St (G.length + 1) (BagP G) cs) := ⟨fun M h => h.bag⟩
section
variable {α β γ δ ε σ ρ : Type} {X : Sto → Prop} {env : En} {S : Sto → Prop} {M : Sto}
theorem callP [PuS S] [Enc α] {F : DF} {ds : List D} {p : Pr α} (h : FP F ds p) (hM : S M) : Sat (Ip.noex (F ds M)) p (relE S) X :=
  ((h M (PuS.pure M hM)).imp fun a d M' ⟨e1, e2⟩ => ⟨e1, by rw [e2]; exact hM⟩).noex
theorem callB [BgS S] [Enc α] {F : DF} {ds : List D} {p : Pr α} (h : FB F ds p) (hM : S M) : Sat (Ip.noex (F (.ref 0 :: ds) M)) p (relE S) X := by
  obtain ⟨b, K, hb, rfl, hK, hs⟩ := BgS.bag (S := S) M hM
  refine ((h b K hb hK).imp fun a d M' ⟨e1, b', hb', e2⟩ => ⟨e1, ?_⟩).noex
  rw [e2]
  exact hs b' hb'
theorem run_p [Enc α] {n m : Nat} {B : DS} {ds : List D} {p : Pr α} {env0 : En} (hl : ds.length = m) (he : ds.map some ++ List.replicate (n - m) none = env0) (h : ∀ M0 M, S0 M0 M → Sat (B env0 M) p (fun a fl M' => fl = .rt (en a) ∧ S0 M0 M') NX) : FP (runF n m B) ds p := fun M hM => by
  unfold runF
  rw [if_pos hl, he]
  refine ⟨fun Q E z => ?_⟩
  refine post_mk_bind (((h M M ⟨rfl, hM⟩).run Q E z).imp (fun fl M1 ⟨a, q, e, s⟩ => ?_) (fun _ _ _ z => z))
  rw [e]
  exact ⟨a, q, rfl, s.1⟩
theorem run_b [Enc α] {n m : Nat} {B : DS} {ds : List D} {p : Pr α} {env0 : En} (hl : ds.length + 1 = m) (he : (D.ref 0 :: ds).map some ++ List.replicate (n - m) none = env0) (h : ∀ G M, SB G M → Sat (B env0 M) p (fun a fl M' => fl = .rt (en a) ∧ SB G M') NX) : FB (runF n m B) ds p := fun b G hb hG => by
  unfold runF
  rw [if_pos (show (D.ref 0 :: ds).length = m from hl), he]
  refine ⟨fun Q E z => ?_⟩
  refine post_mk_bind (((h G _ ⟨b, hb, rfl, hG⟩).run Q E z).imp (fun fl M1 ⟨a, q, e, b', hb', s, _⟩ => ?_) (fun _ _ _ z => z))
  rw [e]
  exact ⟨a, q, rfl, b', hb', s⟩
/-- a def that returns nothing -/
theorem run_pN {n m : Nat} {B : DS} {ds : List D} {p : Pr Unit} {env0 : En} (hl : ds.length = m) (he : ds.map some ++ List.replicate (n - m) none = env0) (h : ∀ M0 M, S0 M0 M → Sat (B env0 M) p (fun _ fl M' => ((∃ e, fl = .nx e) ∨ fl = .rt .non) ∧ S0 M0 M') NX) : FP (runF n m B) ds p := fun M hM => by
  unfold runF
  rw [if_pos hl, he]
  refine ⟨fun Q E z => ?_⟩
  refine post_mk_bind (((h M M ⟨rfl, hM⟩).run Q E z).imp (fun fl M1 ⟨a, q, e, s⟩ => ?_) (fun _ _ _ z => z))
  rcases e with ⟨e, rfl⟩ | rfl
  · exact ⟨a, q, rfl, s.1⟩
  · exact ⟨a, q, rfl, s.1⟩
/-- a def with cells of its own -/
theorem closed_no_ref {d : D} (h : ∀ k, closed k d = true) : ∀ n, d ≠ .ref n := fun n e => by
  have := h 0
  rw [e] at this
  simp [closed] at this
theorem thaw_en [Enc α] (k : Nat) (M : Sto) (a : α) : thaw k M (en a) = some (en a) := by
  have hc : ∀ k, closed k (en a) = true := fun k => Enc.cls a k
  revert hc
  generalize en a = d
  intro hc
  have hn := closed_no_ref hc
  cases d with
  | ref n => exact absurd rfl (hn n)
  | _ => simp only [thaw, hc k, if_true]
def RC [Enc α] (N : Nat) (P : Sto → Prop) : List α → Fl → Sto → Prop := fun a fl M' => ∃ n cs, fl = .rt (.ref n) ∧ St N P cs M' ∧ ∃ i : Nat, cs[i]? = some (n, Cell.lst (a.map en))
def RV' [Enc α] (N : Nat) (P : Sto → Prop) : α → Fl → Sto → Prop := fun a fl M' => fl = .rt (en a) ∧ St N P [] M'
theorem st_take {N : Nat} {P : Sto → Prop} {cs : List (Nat × Cell)} {M : Sto} (h : St N P cs M) : P (M.take N) ∧ PureS (M.take N) := by
  obtain ⟨A, J, hP, e, rfl⟩ := h.base
  have hp := PureS.of_app h.pure
  have e2 : (A ++ J).take N = A := by rw [← e]; simp
  rw [e2]
  exact ⟨hP, hp.1⟩
theorem frz_of {N : Nat} {P : Sto → Prop} {cs : List (Nat × Cell)} {M : Sto} [Enc α] {a : List α} {n : Nat} (h : St N P cs M) {i : Nat} (hi : cs[i]? = some (n, Cell.lst (a.map en))) : frzO N (.ref n) M = .ok (en a) (M.take N) := by
  have hc := h.cell _ (List.mem_of_getElem? hi)
  simp only at hc
  unfold frzO thaw
  simp only [show ¬ n < N by omega, if_false, hc.2, closedAll_map, if_true, (st_take h).2 N]
  rfl
theorem frz_val {N : Nat} {P : Sto → Prop} {cs : List (Nat × Cell)} {M : Sto} [Enc α] {a : α} (h : St N P cs M) : frzO N (en a) M = .ok (en a) (M.take N) := by
  unfold frzO
  rw [thaw_en]
  simp only [(st_take h).2 N, if_true]
theorem frz_p [Enc α] {n m : Nat} {B : DS} {ds : List D} {p : Pr (List α)} {env0 : En} (hl : ds.length = m) (he : ds.map some ++ List.replicate (n - m) none = env0) (h : ∀ M0 M, PureS M0 → St M0.length (· = M0) [] M → Sat (B env0 M) p (RC M0.length (· = M0)) NX) : FP (frz (runF n m B)) ds p := fun M hM => by
  unfold frz runF
  rw [if_pos hl, he, bind_assoc]
  refine ⟨fun Q E z => ?_⟩
  refine post_mk_bind (((h M M hM (.start rfl rfl hM)).run Q E z).imp (fun fl M1 ⟨a, q, k, cs, e, s, i, hi⟩ => ?_) (fun _ _ _ z => z))
  rw [e]
  show (frzO M.length (.ref k) M1).post _ _
  rw [frz_of s hi, (st_take s).1]
  exact ⟨a, q, rfl, rfl⟩
theorem frz_pv [Enc α] {n m : Nat} {B : DS} {ds : List D} {p : Pr α} {env0 : En} (hl : ds.length = m) (he : ds.map some ++ List.replicate (n - m) none = env0) (h : ∀ M0 M, PureS M0 → St M0.length (· = M0) [] M → Sat (B env0 M) p (RV' M0.length (· = M0)) NX) : FP (frz (runF n m B)) ds p := fun M hM => by
  unfold frz runF
  rw [if_pos hl, he, bind_assoc]
  refine ⟨fun Q E z => ?_⟩
  refine post_mk_bind (((h M M hM (.start rfl rfl hM)).run Q E z).imp (fun fl M1 ⟨a, q, e, s⟩ => ?_) (fun _ _ _ z => z))
  rw [e]
  show (frzO M.length (en a) M1).post _ _
  rw [frz_val s, (st_take s).1]
  exact ⟨a, q, rfl, rfl⟩
theorem frz_b [Enc α] {n m : Nat} {B : DS} {ds : List D} {p : Pr (List α)} {env0 : En} (hl : ds.length + 1 = m) (he : (D.ref 0 :: ds).map some ++ List.replicate (n - m) none = env0) (h : ∀ G M, PureS G → St (G.length + 1) (BagP G) [] M → Sat (B env0 M) p (RC (G.length + 1) (BagP G)) NX) : FB (frz (runF n m B)) ds p := fun b G hb hG => by
  unfold frz runF
  rw [if_pos (show (D.ref 0 :: ds).length = m from hl), he, bind_assoc]
  refine ⟨fun Q E z => ?_⟩
  refine post_mk_bind (((h G _ hG (.start ⟨b, hb, rfl⟩ (by simp) (pure_bag hb hG))).run Q E z).imp (fun fl M1 ⟨a, q, k, cs, e, s, i, hi⟩ => ?_) (fun _ _ _ z => z))
  rw [e]
  show (frzO (Cell.lst b :: G).length (.ref k) M1).post _ _
  obtain ⟨⟨b', hb', e2⟩, _⟩ := st_take s
  rw [show (Cell.lst b :: G).length = G.length + 1 from rfl, frz_of s hi, e2]
  exact ⟨a, q, rfl, b', hb', rfl⟩
variable {rel : α → Fl → Sto → Prop} {N : Nat} {P : Sto → Prop} {cs : List (Nat × Cell)}
theorem lst_closed [Enc β] (l : List β) (k : Nat) : cellClosed k (.lst (l.map en)) = true := closedAll_map k l
theorem seq_newC [Enc β] {i : Nat} {fa : DA} {g : DS} {l : List β} {p : Pr α} {env1 : Nat → En} (he : ∀ n, env.set i (some (.ref n)) = env1 n) (h : AV fa env (St N P cs) (l.map en)) (hM : St N P cs M) (hl : l.length ≤ 16777216) (hk : ∀ n M1, St N P (cs ++ [(n, .lst (l.map en))]) M1 → Sat (g (env1 n) M1) p rel X) : Sat (dSeq (dSet i (dLstC fa)) g env M) p rel X := by
  unfold dSeq dSet dLstC
  rw [h M hM]
  show Sat (Out.bind (Out.bind (if (l.map en).length ≤ 16777216 then Out.ok (D.ref M.length) (M ++ [Cell.lst (l.map en)]) else Out.bad) _) _) p rel X
  rw [if_pos (by simpa using hl)]
  have := hk M.length _ (hM.new (lst_closed l))
  rw [← he] at this
  exact this
theorem seq_app [Enc β] {i : Nat} (j : Nat) {fe : DE} {g : DS} {n : Nat} {l : List β} {x : β} {p : Pr α} (hi : env[i]? = some (some (.ref n))) (hj : cs[j]? = some (n, .lst (l.map en))) (h : PV fe env (St N P cs) (en x)) (hM : St N P cs M) (hk : ∀ M1, St N P (cs.set j (n, .lst ((l ++ [x]).map en))) M1 → Sat (g env M1) p rel X) :
    Sat (dSeq (dDrop (dLm gApp (dVar i) (dConsA fe dNilA))) g env M) (Pr.need (l.length < 16777216) p) rel X := .need fun hl => by
  have hc := hM.get j hj
  have e : dLm gApp (dVar i) (dConsA fe dNilA) env M = .ok .non (M.set n (.lst ((l ++ [x]).map en))) := by
    unfold dLm dVar dConsA
    simp only [hi]
    show (match asL (.ref n) M with
      | some _ => _
      | none => Out.bad) = _
    simp only [asL, hc]
    rw [h M hM]
    show liftM (gApp (.ref n) [en x] M) = _
    simp only [gApp, setL, hc]
    rw [if_pos (by simpa using hl)]
    simp [liftM]
  unfold dSeq dDrop
  rw [e]
  exact hk _ (hM.set j hj (lst_closed _))
theorem seq_appx [Enc β] {i : Nat} (j : Nat) {fe : DE} {g : DS} {n : Nat} {l : List β} {p : Pr β} {k : β → Pr α} (hi : env[i]? = some (some (.ref n))) (hj : cs[j]? = some (n, .lst (l.map en))) (h : PX fe env (St N P cs) X p) (hM : St N P cs M) (hk : ∀ x M1, St N P (cs.set j (n, .lst ((l ++ [x]).map en))) M1 → Sat (g env M1) (k x) rel X) :
    Sat (dSeq (dDrop (dLm gApp (dVar i) (dConsA fe dNilA))) g env M) (p.bind fun x => Pr.need (l.length < 16777216) (k x)) rel X := by
  have hc := hM.get j hj
  have e : dLm gApp (dVar i) (dConsA fe dNilA) env M = (dConsA fe dNilA env M).bind fun as M2 => liftM (gApp (.ref n) as M2) := by
    unfold dLm dVar
    simp only [hi]
    show (match asL (.ref n) M with
      | some _ => (dConsA fe dNilA env M).bind fun as M2 => liftM (gApp (.ref n) as M2)
      | none => Out.bad) = _
    simp only [asL, hc]
  unfold dSeq dDrop
  rw [e, bind_assoc, bind_assoc]
  refine arg_e h hM fun x M1 h1 => arg_nil (.need fun hl => ?_)
  have hc1 := h1.get j hj
  have e2 : gApp (.ref n) [en x] M1 = some (.non, M1.set n (.lst ((l ++ [x]).map en))) := by
    simp only [gApp, setL, hc1]
    rw [if_pos (by simpa using hl)]
    simp
  show Sat ((liftM (gApp (.ref n) [en x] M1)).bind _) _ _ _
  rw [e2]
  exact hk x _ (h1.set j hj (lst_closed _))
theorem seq_extx [Enc β] {i : Nat} (j : Nat) {fe : DE} {g : DS} {n : Nat} {l : List β} {p : Pr (List β)} {k : List β → Pr α} (hi : env[i]? = some (some (.ref n))) (hj : cs[j]? = some (n, .lst (l.map en))) (h : PX fe env (St N P cs) X p) (hM : St N P cs M) (hk : ∀ x M1, St N P (cs.set j (n, .lst ((l ++ x).map en))) M1 → Sat (g env M1) (k x) rel X) :
    Sat (dSeq (dDrop (dLm gExt (dVar i) (dConsA fe dNilA))) g env M) (p.bind fun x => Pr.need (l.length + x.length ≤ 16777216) (k x)) rel X := by
  have hc := hM.get j hj
  have e : dLm gExt (dVar i) (dConsA fe dNilA) env M = (dConsA fe dNilA env M).bind fun as M2 => liftM (gExt (.ref n) as M2) := by
    unfold dLm dVar
    simp only [hi]
    show (match asL (.ref n) M with
      | some _ => (dConsA fe dNilA env M).bind fun as M2 => liftM (gExt (.ref n) as M2)
      | none => Out.bad) = _
    simp only [asL, hc]
  unfold dSeq dDrop
  rw [e, bind_assoc, bind_assoc]
  refine arg_e h hM fun x M1 h1 => arg_nil (.need fun hl => ?_)
  have hc1 := h1.get j hj
  have e2 : gExt (.ref n) [.lst (x.map en)] M1 = some (.non, M1.set n (.lst ((l ++ x).map en))) := by
    simp only [gExt, setL, hc1]
    rw [if_pos (by simpa using hl)]
    simp
  show Sat ((liftM (gExt (.ref n) [.lst (x.map en)] M1)).bind _) _ _ _
  rw [e2]
  exact hk x _ (h1.set j hj (lst_closed _))
/-- the place of an index -/
def setI (l : List β) (i : Int) (x : β) : Pr (List β) := fun Q _ => ∃ j, ixN l.length i = some j ∧ Q (l.set j x)
end
end Ip
end
section
set_option Elab.async false
set_option linter.all false
set_option maxRecDepth 100000
set_option maxHeartbeats 1000000
set_option autoImplicit false
namespace Ip
open PySem L2
inductive Pc where
  | top (n : Int) | old (a b : Int) | opn (a : Int) | new (a b n : Int)
deriving DecidableEq
def Pc.d : Pc → D
  | .top n => .tup [.str "top", .int n]
  | .old a b => .tup [.str "old", .int a, .int b]
  | .opn a => .tup [.str "old", .int a, .non]
  | .new a b n => .tup [.str "new", .int a, .int b, .int n]
instance : Enc Pc := ⟨Pc.d, fun p k => by cases p <;> simp [Pc.d, closed, closedAll], fun a b h => by
  have w1 : ((Str.ofString "old") = (Str.ofString "new")) = False := by simp only [eq_iff_iff, iff_false]; decide +kernel
  have w2 : ((Str.ofString "new") = (Str.ofString "old")) = False := by simp only [eq_iff_iff, iff_false]; decide +kernel
  cases a <;> cases b <;> simp_all [Pc.d]⟩
instance : NoN Pc := ⟨fun p h => by cases p <;> cases h⟩
namespace Pc
def isTop : Pc → Bool
  | .top _ => true
  | _ => false
def isOld : Pc → Bool
  | .old _ _ => true
  | .opn _ => true
  | _ => false
def isNew : Pc → Bool
  | .new _ _ _ => true
  | _ => false
def f1 : Pc → Int
  | .top n => n
  | .old a _ => a
  | .opn a => a
  | .new a _ _ => a
def f2 : Pc → Pr (Option Int)
  | .top _ => Pr.bad
  | .old _ b => Pr.ok (some b)
  | .opn _ => Pr.ok none
  | .new _ b _ => Pr.ok (some b)
def f3 : Pc → Pr Int
  | .new _ _ n => Pr.ok n
  | _ => Pr.bad
def fl : Pc → Option Int
  | .top n => some n
  | .old _ b => some b
  | .opn _ => none
  | .new _ _ n => some n
end Pc
theorem w_eq (a b : Str) (M : Sto) : gEq false (.str a) (.str b) M = some (.bl (decide (a = b)), M) := by
  unfold gEq eqD
  simp only [toV, scal, if_true, Option.map_some, V.str.injEq]
  rfl
theorem geqI (a b : Int) (M : Sto) : gEq false (.int a) (.int b) M = some (.bl (decide (a = b)), M) := by
  unfold gEq eqD
  simp only [toV, scal, if_true, Option.map_some, V.int.injEq]
  rfl
theorem gneI (a b : Int) (M : Sto) : gEq true (.int a) (.int b) M = some (.bl (!decide (a = b)), M) := by
  unfold gEq eqD
  simp only [toV, scal, if_true, Option.map_some, V.int.injEq]
theorem gneB (a b : Bool) (M : Sto) : gEq true (.bl a) (.bl b) M = some (.bl (!decide (a = b)), M) := by
  unfold gEq eqD
  simp only [toV, scal, if_true, Option.map_some, V.bl.injEq]
section
variable {α β γ δ ε σ ρ : Type} {X : Sto → Prop} {env : En} {S : Sto → Prop} {M : Sto}
theorem cast_some [Enc α] [NoN α] (a : α) : (cast (some a) : Pr α) = Pr.ok a := by
  funext Q E
  refine propext ⟨fun ⟨b, e, q⟩ => ?_, fun q => ⟨a, rfl, q⟩⟩
  rw [Enc.inj a b e]; exact q
theorem cast_ok [Enc α] [Enc β] {a : α} {b : β} (h : en a = en b) : (cast a : Pr β) = Pr.ok b := by
  funext Q E
  refine propext ⟨fun ⟨c, e, q⟩ => ?_, fun q => ⟨b, h, q⟩⟩
  rw [Enc.inj b c (h.symm.trans e)]; exact q
theorem isNon_some [Enc α] [NoN α] (a : α) : isNon (en a) = false := by
  have := NoN.non a
  revert this
  generalize en a = d
  intro h
  cases d <;> first | rfl | exact absurd rfl h
theorem isNon_opt [Enc α] [NoN α] (o : Option α) : isNon (en o) = o.isNone := by
  cases o with
  | none => rfl
  | some a => exact isNon_some a
theorem is_v [Enc α] [NoN α] {f g : DE} {o : Option α} (h : PV f env S (en o)) (h' : PV g env S .non) : PV (dBin (gIs false) f g) env S (.bl o.isNone) := bin_v h h' fun M _ => by
  show some (D.bl (if false = true then !isNon (en o) else isNon (en o)), M) = _
  rw [isNon_opt]; rfl
theorem isnt_v [Enc α] [NoN α] {f g : DE} {o : Option α} (h : PV f env S (en o)) (h' : PV g env S .non) : PV (dBin (gIs true) f g) env S (.bl o.isSome) := bin_v h h' fun M _ => by
  show some (D.bl (if true = true then !isNon (en o) else isNon (en o)), M) = _
  rw [isNon_opt]
  cases o <;> rfl
theorem ws_tt : decide ((Str.ofString "top") = Str.ofString "top") = true := by decide +kernel
theorem ws_to : decide ((Str.ofString "top") = Str.ofString "old") = false := by decide +kernel
theorem ws_tn : decide ((Str.ofString "top") = Str.ofString "new") = false := by decide +kernel
theorem ws_ot : decide ((Str.ofString "old") = Str.ofString "top") = false := by decide +kernel
theorem ws_oo : decide ((Str.ofString "old") = Str.ofString "old") = true := by decide +kernel
theorem ws_on : decide ((Str.ofString "old") = Str.ofString "new") = false := by decide +kernel
theorem ws_nt : decide ((Str.ofString "new") = Str.ofString "top") = false := by decide +kernel
theorem ws_no : decide ((Str.ofString "new") = Str.ofString "old") = false := by decide +kernel
theorem ws_nn : decide ((Str.ofString "new") = Str.ofString "new") = true := by decide +kernel
theorem ix0 (p : Pc) (M : Sto) : ∃ w : Str, gIx p.d (.int 0) M = some (.str w, M) ∧ decide (w = "top") = p.isTop ∧ decide (w = "old") = p.isOld ∧ decide (w = "new") = p.isNew := by
  cases p with
  | top n => exact ⟨"top", rfl, ws_tt, ws_to, ws_tn⟩
  | old a b => exact ⟨"old", rfl, ws_ot, ws_oo, ws_on⟩
  | opn a => exact ⟨"old", rfl, ws_ot, ws_oo, ws_on⟩
  | new a b n => exact ⟨"new", rfl, ws_nt, ws_no, ws_nn⟩
theorem word_v {f : DE} {p : Pc} (h : PV f env S p.d) : PV (dBin (gEq false) (dBin gIx f (dC (.int 0))) (dC (.str "top"))) env S (.bl p.isTop) ∧ PV (dBin (gEq false) (dBin gIx f (dC (.int 0))) (dC (.str "old"))) env S (.bl p.isOld) ∧ PV (dBin (gEq false) (dBin gIx f (dC (.int 0))) (dC (.str "new"))) env S (.bl p.isNew) := by
  refine ⟨fun M hM => ?_, fun M hM => ?_, fun M hM => ?_⟩
  all_goals
    obtain ⟨w, e, h1, h2, h3⟩ := ix0 p M
    unfold dBin
    rw [h M hM]
    show ((liftM (gIx p.d (.int 0) M)).bind fun x M1 => liftM (gEq false x (.str _) M1)) = _
    rw [e]
    show liftM (gEq false (.str w) (.str _) M) = _
    rw [w_eq]
  · rw [h1]; rfl
  · rw [h2]; rfl
  · rw [h3]; rfl
theorem f1_v {f : DE} {p : Pc} (h : PV f env S p.d) : PV (dBin gIx f (dC (.int 1))) env S (.int p.f1) := bin_v h pv_c fun M _ => by cases p <;> rfl
theorem f2_x {f : DE} {p : Pc} (h : PV f env S p.d) : PX (dBin gIx f (dC (.int 2))) env S X p.f2 := bin_pp h pv_c fun M hM => by
  cases p with
  | top n => exact .bad
  | _ => exact .ok ⟨rfl, hM⟩
theorem f3_x {f : DE} {p : Pc} (h : PV f env S p.d) : PX (dBin gIx f (dC (.int 3))) env S X p.f3 := bin_pp h pv_c fun M hM => by
  cases p with
  | new _ _ n => exact .ok ⟨rfl, hM⟩
  | _ => exact .bad
theorem fl_v {f : DE} {p : Pc} (h : PV f env S p.d) : PV (dBin gIx f (dUn gNeg (dC (.int 1)))) env S (en p.fl) := bin_v h (un_v (z := .int (-1)) pv_c fun _ _ => rfl) fun M _ => by cases p <;> rfl
def LV (f : DE) (env : En) (S : Sto → Prop) (l : List D) : Prop := ∀ M, S M → ∃ x, f env M = .ok x M ∧ asL x M = some l
theorem lv_v {f : DE} {l : List D} (h : PV f env S (.lst l)) : LV f env S l := fun M hM => ⟨_, h M hM, rfl⟩
theorem lv_c {N : Nat} {P : Sto → Prop} {cs : List (Nat × Cell)} {i : Nat} (j : Nat) {n : Nat} {l : List D} (hi : env[i]? = some (some (.ref n))) (hj : cs[j]? = some (n, .lst l)) : LV (dVar i) env (St N P cs) l := fun M hM =>
  ⟨.ref n, by unfold dVar; rw [hi], by simp only [asL, hM.get j hj]⟩
def idx (l : List α) (i : Int) : Pr α := fun Q _ => ∃ a, atI l i = some a ∧ Q a
theorem atI_map (f : α → β) (l : List α) (i : Int) : atI (l.map f) i = (atI l i).map f := by
  unfold atI
  rw [List.length_map]
  cases ixN l.length i with
  | none => rfl
  | some j => simp
theorem cutD_map (f : α → β) (l : List α) (lo hi : Option Int) : cutD (l.map f) lo hi = (cutD l lo hi).map f := by
  unfold cutD
  simp only [List.length_map, List.map_drop, List.map_take]
theorem gIx_as {x : D} {l : List D} {i : Int} (h : asL x M = some l) : gIx x (.int i) M = (atI l i).map (·, M) := by
  unfold gIx
  cases x <;> first | (simp only [asL] at h; done) | skip
  all_goals simp only [h]
  all_goals first | (simp only [asL] at h; cases h; done) | (cases hh : atI l i <;> rfl)
theorem ix_l [Enc α] {fa fb : DE} {l : List α} {i : Int} (h : LV fa env S (l.map en)) (h' : PV fb env S (.int i)) : PX (dBin gIx fa fb) env S X (idx l i) := fun M hM => by
  refine ⟨fun Q E ⟨a, ha, q⟩ => ?_⟩
  obtain ⟨x, e, hx⟩ := h M hM
  have e2 : dBin gIx fa fb env M = .ok (en a) M := by
    unfold dBin
    rw [e]
    show (fb env M).bind _ = _
    rw [h' M hM]
    show liftM (gIx x (.int i) M) = _
    rw [gIx_as hx, atI_map, ha]; rfl
  rw [e2]
  exact ⟨a, q, rfl, hM⟩
theorem gLen_as {x : D} {l : List D} (h : asL x M = some l) : gLen [x] M = some (.int (l.length : Nat), M) := by
  unfold gLen
  cases x <;> first | (simp only [asL] at h; cases h; done) | simp only [h]
theorem len_l {fa : DE} {l : List D} (h : LV fa env S l) : PV (dCallB gLen (dConsA fa dNilA)) env S (.int (l.length : Nat)) := fun M hM => by
  obtain ⟨x, e, hx⟩ := h M hM
  unfold dCallB dConsA
  rw [e]
  show liftM (gLen [x] M) = _
  rw [gLen_as hx]; rfl
def OV (f : DO) (env : En) (S : Sto → Prop) (o : Option Int) : Prop := ∀ M, S M → f env M = .ok o M
theorem ov_n : OV dNoPart env S none := fun _ _ => rfl
theorem ov_s {f : DE} {i : Int} (h : PV f env S (.int i)) : OV (dPart f) env S (some i) := fun M hM => by
  unfold dPart; rw [h M hM]; rfl
theorem gSl_as {x : D} {l : List D} {lo hi : Option Int} (h : asL x M = some l) : gSl x lo hi M = some (.lst (cutD l lo hi), M) := by
  unfold gSl
  cases x <;> first | (simp only [asL] at h; cases h; done) | simp only [h]
theorem sl_l {fa : DE} {fl fh : DO} {l : List D} {lo hi : Option Int} (h : LV fa env S l) (h1 : OV fl env S lo) (h2 : OV fh env S hi) : PV (dSl fa fl fh) env S (.lst (cutD l lo hi)) := fun M hM => by
  obtain ⟨x, e, hx⟩ := h M hM
  unfold dSl
  rw [e]
  show (fl env M).bind _ = _
  rw [h1 M hM]
  show (fh env M).bind _ = _
  rw [h2 M hM]
  show liftM (gSl x lo hi M) = _
  rw [gSl_as hx]; rfl
theorem sl_v {fa : DE} {fl fh : DO} {x z : D} {lo hi : Option Int} (h : PV fa env S x) (h1 : OV fl env S lo) (h2 : OV fh env S hi) (hg : ∀ M, S M → gSl x lo hi M = some (z, M)) : PV (dSl fa fl fh) env S z := fun M hM => by
  unfold dSl
  rw [h M hM]
  show (fl env M).bind _ = _
  rw [h1 M hM]
  show (fh env M).bind _ = _
  rw [h2 M hM]
  show liftM (gSl x lo hi M) = _
  rw [hg M hM]; rfl
def cat (a b : List α) : Pr (List α) := Pr.need (a.length + b.length ≤ 16777216) (Pr.ok (a ++ b))
theorem gAdd_as {x y : D} {a b : List D} (h : asL x M = some a) (h' : asL y M = some b) (hl : a.length + b.length ≤ 16777216) : gAdd x y M = some (.lst (a ++ b), M) := by
  have hc : gCat x y M = some (.lst (a ++ b), M) := by
    unfold gCat
    rw [h, h']
    exact if_pos hl
  unfold gAdd
  cases x <;> simp only [asL] at h <;> first | (cases h; done) | skip
  all_goals (cases y <;> simp only [asL] at h' <;> first | (cases h'; done) | skip)
  all_goals simp only [orG, gStr, hc]
theorem cat_l [Enc α] {fa fb : DE} {a b : List α} (h : LV fa env S (a.map en)) (h' : LV fb env S (b.map en)) : PX (dBin gAdd fa fb) env S X (cat a b) := fun M hM => .need fun hl => by
  obtain ⟨x, e, hx⟩ := h M hM
  obtain ⟨y, e', hy⟩ := h' M hM
  unfold dBin
  rw [e]
  show Sat ((fb env M).bind _) _ _ _
  rw [e']
  show Sat (liftM (gAdd x y M)) _ _ _
  rw [gAdd_as hx hy (by simpa using hl)]
  exact .ok ⟨by show D.lst _ = D.lst _; simp, hM⟩
theorem gs_cat [Enc α] {a b : List α} : GS S X gAdd (en a) (en b) (cat a b) := fun M hM => .need fun hl => by
  rw [gAdd_as (x := en a) (y := en b) (a := a.map en) (b := b.map en) rfl rfl (by simpa using hl)]
  exact .ok ⟨by show D.lst _ = D.lst _; simp, hM⟩
def rep (l : List α) (k : Int) : Pr (List α) := Pr.need (sm k ∧ l.length * k.toNat ≤ 16777216) (Pr.ok (List.replicate k.toNat l).flatten)
theorem callB_v {g : GC} {fa : DA} {xs : List D} {z : D} (h : AV fa env S xs) (hg : ∀ M, S M → g xs M = some (z, M)) : PV (dCallB g fa) env S z := fun M hM => by
  unfold dCallB
  rw [h M hM]
  show liftM (g xs M) = _
  rw [hg M hM]; rfl
theorem callB_end [Enc γ] {g : GC} {xs : List D} {c : γ} (hM : S M) (hg : ∀ M, S M → g xs M = some (en c, M)) : Sat (liftM (g xs M)) (Pr.ok c) (relE S) X := by
  rw [hg M hM]
  exact .ok ⟨rfl, hM⟩
theorem bls_map : ∀ l : List Bool, bls (l.map en) = some l
  | [] => rfl
  | b :: l => by
    show (bls (l.map en)).map (b :: ·) = _
    rw [bls_map l]; rfl
theorem gAll_v (l : List Bool) (M : Sto) : gAll [en l] M = some (.bl (l.all id), M) := by
  show (bls (l.map en)).map (fun bs => (D.bl (bs.all id), M)) = _
  rw [bls_map]; rfl
theorem chain_v {g g' : G2} {fa fb fc : DE} {x y z : D} {b b' : Bool} (ha : PV fa env S x) (hb : PV fb env S y) (hc : PV fc env S z) (h1 : ∀ M, S M → g x y M = some (.bl b, M)) (h2 : ∀ M, S M → g' y z M = some (.bl b', M)) : PV (dChain g g' fa fb fc) env S (.bl (b && b')) := fun M hM => by
  unfold dChain
  rw [ha M hM]
  show (fb env M).bind _ = _
  rw [hb M hM]
  show (liftM (g x y M)).bind _ = _
  rw [h1 M hM]
  cases b
  · rfl
  · show (fc env M).bind _ = _
    rw [hc M hM]
    show liftM (g' y z M) = _
    rw [h2 M hM]; rfl
theorem fld_v {c f : Str} {fe : DE} {ks : List Str} {ds : List D} {z : D} (h : PV fe env S (.obj c ks ds)) (hl : (ks.zip ds).lookup f = some z) : PV (dFld c f fe) env S z := fun M hM => by
  unfold dFld
  rw [h M hM]
  show (match objOf c (.obj c ks ds) M with
    | some (ks, ds) => match (ks.zip ds).lookup f with
      | some d => Out.ok d M
      | none => .bad
    | none => .bad) = _
  rw [show objOf c (.obj c ks ds) M = some (ks, ds) from if_pos rfl]
  simp only [hl]
end
end Ip
namespace Ip
open PySem L2
section
variable {α β γ δ ε σ ρ : Type} {X : Sto → Prop} {env : En} {S : Sto → Prop} {M : Sto}
theorem gs_f1 {p : Pc} : GS S X gIx (en p) (en (1 : Int)) (Pr.ok p.f1) := gs_ok fun M _ => by cases p <;> rfl
theorem pv_eq {f : DE} {x y : D} (e : x = y) (h : PV f env S x) : PV f env S y := e ▸ h
theorem ifE_V [Enc α] {ft : DT} {fa fb : DE} {c : Bool} {a b : α} (h : TV ft env S c) (ha : PV fa env S (en a)) (hb : PV fb env S (en b)) : PV (dIfE ft fa fb) env S (en (if c then a else b)) := by
  have := ifE_v h ha hb
  cases c
  · exact this
  · exact this
theorem sl_L [Enc α] {fa : DE} {fl fh : DO} {l : List α} {lo hi : Option Int} (h : LV fa env S (l.map en)) (h1 : OV fl env S lo) (h2 : OV fh env S hi) : PV (dSl fa fl fh) env S (en (cutD l lo hi)) :=
  pv_eq (by show D.lst _ = D.lst _; rw [cutD_map]) (sl_l h h1 h2)
theorem len_L [Enc α] {fa : DE} {l : List α} (h : LV fa env S (l.map en)) : PV (dCallB gLen (dConsA fa dNilA)) env S (en ((l.length : Nat) : Int)) := pv_eq (by show D.int _ = D.int _; simp) (len_l h)
class PyT (α : Type) [Enc α] where
  py : α → PyData
  top : ∀ a : α, toPy (en a) = some (py a)
  lay : ∀ a, PyData.canLay0 (py a) = true
  dp : Nat
  dep : ∀ a, PyData.depth (py a) ≤ dp
  eqv : ∀ a b, PyData.eqv (py a) (py b) = true ↔ a = b
  sc : ∀ (a b : α) (v w : V), toV (en a) = some v → toV (en b) = some w → scal v w = true
instance : PyT Int := ⟨.int, fun _ => rfl, fun _ => rfl, 0, fun _ => Nat.le_refl _, fun a b => by simp [PyData.eqv], fun a b v w h1 h2 => by cases h1; cases h2; rfl⟩
instance : PyT Bool := ⟨.bool, fun _ => rfl, fun _ => rfl, 0, fun _ => Nat.le_refl _, fun a b => by simp [PyData.eqv], fun a b v w h1 h2 => by cases h1; cases h2; rfl⟩
theorem toV_non {d : D} {w : V} (h : toV d = some w) : scal .non w = true ∧ scal w .non = true := by
  cases d <;> cases h <;> exact ⟨rfl, rfl⟩
theorem toPys_map [Enc α] [PyT α] : ∀ l : List α, toPys (l.map en) = some (l.map PyT.py)
  | [] => rfl
  | x :: l => by simp [toPys, PyT.top, toPys_map l]
theorem layAll_map [Enc α] [PyT α] : ∀ l : List α, PyData.canLayAll0 (l.map PyT.py) = true
  | [] => rfl
  | x :: l => by simp [PyData.canLayAll0, PyT.lay, layAll_map l]
theorem depAll_map [Enc α] [PyT α] : ∀ l : List α, PyData.depthAll (l.map PyT.py) ≤ PyT.dp α
  | [] => Nat.zero_le _
  | x :: l => by simp only [List.map_cons, PyData.depthAll]; exact Nat.max_le.mpr ⟨PyT.dep x, depAll_map l⟩
theorem eqvAll_map [Enc α] [PyT α] : ∀ l m : List α, PyData.eqvAll (l.map PyT.py) (m.map PyT.py) = true ↔ l = m
  | [], [] => by simp [PyData.eqvAll]
  | [], _ :: _ => by simp [PyData.eqvAll]
  | _ :: _, [] => by simp [PyData.eqvAll]
  | x :: l, y :: m => by simp [PyData.eqvAll, PyT.eqv, eqvAll_map l m]
instance [Enc α] [PyT α] : PyT (List α) := ⟨fun l => .list (l.map PyT.py), fun l => by show (toPys (l.map en)).map _ = _; rw [toPys_map]; rfl, fun l => layAll_map l, PyT.dp α + 1, fun l => Nat.succ_le_succ (depAll_map l), fun a b => eqvAll_map a b, fun a b v w h1 h2 => by cases h1⟩
instance [Enc α] [PyT α] [Enc β] [PyT β] : PyT (α × β) := ⟨fun p => .tuple [PyT.py p.1, PyT.py p.2], fun p => by show (toPys [en p.1, en p.2]).map _ = _; simp [toPys, PyT.top], fun p => by simp [PyData.canLay0, PyData.canLayAll0, PyT.lay], max (PyT.dp α) (PyT.dp β) + 1, fun p => by
    have h1 := PyT.dep p.1
    have h2 := PyT.dep p.2
    simp only [PyData.depth, PyData.depthAll]
    omega, fun a b => by simp [PyData.eqv, PyData.eqvAll, PyT.eqv, Prod.ext_iff], fun a b v w h1 h2 => by cases h1⟩
/-- never equal to None -/
class NoE (α : Type) [Enc α] [PyT α] : Prop where
  l : ∀ a : α, PyData.eqv (PyT.py a) .none = false
  r : ∀ a : α, PyData.eqv .none (PyT.py a) = false
instance : NoE Int := ⟨fun _ => rfl, fun _ => rfl⟩
instance : NoE Bool := ⟨fun _ => rfl, fun _ => rfl⟩
instance [Enc α] [PyT α] : NoE (List α) := ⟨fun _ => rfl, fun _ => rfl⟩
instance [Enc α] [PyT α] [Enc β] [PyT β] : NoE (α × β) := ⟨fun _ => rfl, fun _ => rfl⟩
instance [Enc α] [PyT α] [NoN α] [NoE α] : PyT (Option α) := ⟨fun o => match o with | none => .none | some a => PyT.py a, fun o => by cases o with | none => rfl | some a => exact PyT.top a, fun o => by cases o with | none => rfl | some a => exact PyT.lay a, PyT.dp α, fun o => by cases o with | none => exact Nat.zero_le _ | some a => exact PyT.dep a, fun a b => by
    cases a with
    | none => cases b with
      | none => simp [PyData.eqv]
      | some b => simp [NoE.r]
    | some a => cases b with
      | none => simp [NoE.l]
      | some b => simp [PyT.eqv], fun a b v w h1 h2 => by
    cases a with
    | none => cases h1; exact (toV_non h2).1
    | some a => cases b with
      | none => cases h2; exact (toV_non h1).2
      | some b => exact PyT.sc a b v w h1 h2⟩
/-- of data kinds whose trees lie no deeper than 64 -/
theorem toV_inj {x y : D} {v : V} (h : toV x = some v) (h' : toV y = some v) : x = y := by
  cases x <;> cases h <;> cases y <;> cases h' <;> rfl
theorem eqD_T [Enc α] [PyT α] [DecidableEq α] (a b : α) (M : Sto) (hd : PyT.dp α ≤ 64) : eqD (en a) (en b) M = some (decide (a = b)) := by
  have hp : ∀ c : α, pyM (en c) M = some (PyT.py c) := fun c => by
    have h1 := PyT.top c
    have hn := closed_no_ref (d := en c) fun k => Enc.cls c k
    revert h1 hn
    generalize en c = d
    intro h1 hn
    cases d with
    | ref n => exact absurd rfl (hn n)
    | _ => exact h1
  have hs : ∀ c : α, SeqAt.shaped (PyT.py c) = true := fun c => by
    unfold SeqAt.shaped
    rw [PyT.lay c, Bool.true_and, decide_eq_true_eq]
    exact Nat.le_trans (PyT.dep c) hd
  have he : PyData.eqv (PyT.py a) (PyT.py b) = decide (a = b) := by
    have := PyT.eqv a b
    by_cases h : a = b
    · rw [this.mpr h]; simp [h]
    · cases hh : PyData.eqv (PyT.py a) (PyT.py b) with
      | true => exact absurd (this.mp hh) h
      | false => simp [h]
  unfold eqD
  cases h1 : toV (en a) with
  | none =>
    simp only [hp, hs, Bool.and_self, if_true, he]
  | some v =>
    cases h2 : toV (en b) with
    | none => simp only [hp, hs, Bool.and_self, if_true, he]
    | some w =>
      simp only [PyT.sc a b v w h1 h2, if_true, Option.some.injEq]
      by_cases h : a = b
      · subst h
        rw [h1] at h2
        cases h2
        simp
      · have : v ≠ w := fun e => by subst e; exact h (Enc.inj _ _ (toV_inj h1 h2))
        simp [h, this]
theorem geqT [Enc α] [PyT α] [DecidableEq α] (a b : α) (M : Sto) (hd : PyT.dp α ≤ 64 := by exact Nat.le_of_ble_eq_true rfl) : gEq false (en a) (en b) M = some (en (decide (a = b)), M) := by
  unfold gEq
  rw [eqD_T a b M hd]; rfl
theorem gneT [Enc α] [PyT α] [DecidableEq α] (a b : α) (M : Sto) (hd : PyT.dp α ≤ 64 := by exact Nat.le_of_ble_eq_true rfl) : gEq true (en a) (en b) M = some (en (!decide (a = b)), M) := by
  unfold gEq
  rw [eqD_T a b M hd]; rfl
structure Sq (α : Type) where
  t : Bool
  l : List α
def Sq.cut {α : Type} (q : Sq α) (lo hi : Option Int) : Sq α := ⟨q.t, cutD q.l lo hi⟩
def Sq.d {α : Type} [Enc α] (q : Sq α) : D := match q.t with
  | true => .tup (q.l.map en)
  | false => .lst (q.l.map en)
instance [Enc α] : Enc (Sq α) := ⟨Sq.d, fun q k => by
    obtain ⟨t, l⟩ := q
    cases t <;> exact closedAll_map k l, fun a b h => by
    obtain ⟨t, l⟩ := a
    obtain ⟨t', l'⟩ := b
    cases t <;> cases t' <;> first | (cases h; done) | skip
    · rw [map_inj l l' (D.lst.inj h)]
    · rw [map_inj l l' (D.tup.inj h)]⟩
instance [Enc α] : NoN (Sq α) := ⟨fun q h => by obtain ⟨t, l⟩ := q; cases t <;> cases h⟩
theorem gIx_q [Enc α] (q : Sq α) (i : Int) (M : Sto) : gIx (en q) (.int i) M = (atI (q.l.map en) i).map (·, M) := by
  obtain ⟨t, l⟩ := q
  cases t
  · exact gIx_as (x := .lst (l.map en)) rfl
  · rfl
theorem ix_q [Enc α] {fa fb : DE} {q : Sq α} {i : Int} (h : PV fa env S (en q)) (h' : PV fb env S (.int i)) : PX (dBin gIx fa fb) env S X (idx q.l i) := bin_pp h h' fun M hM => by
  refine ⟨fun Q E ⟨a, ha, z⟩ => ?_⟩
  rw [gIx_q, atI_map, ha]
  exact ⟨a, z, rfl, hM⟩
theorem sl_q [Enc α] {fa : DE} {fl fh : DO} {q : Sq α} {lo hi : Option Int} (h : PV fa env S (en q)) (h1 : OV fl env S lo) (h2 : OV fh env S hi) : PV (dSl fa fl fh) env S (en (q.cut lo hi)) := sl_v h h1 h2 fun M _ => by
  obtain ⟨t, l⟩ := q
  cases t
  · show gSl (.lst (l.map en)) lo hi M = some (.lst ((cutD l lo hi).map en), M)
    rw [gSl_as (l := l.map en) rfl, cutD_map]
  · show some (D.tup (cutD (l.map en) lo hi), M) = some (.tup ((cutD l lo hi).map en), M)
    rw [cutD_map]
theorem len_q [Enc α] {fa : DE} {q : Sq α} (h : PV fa env S (en q)) : PV (dCallB gLen (dConsA fa dNilA)) env S (en ((q.l.length : Nat) : Int)) := callB_v (av_cons h av_nil) fun M _ => by
  obtain ⟨t, l⟩ := q
  cases t
  · show gLen [.lst (l.map en)] M = _
    rw [gLen_as (l := l.map en) rfl]
    simp [en, Enc.enc]
  · show some (D.int ((l.map en).length : Nat), M) = _
    simp [en, Enc.enc]
theorem j_q [Enc β] {fe : DE} {q : Sq β} (h : PV fe env S (en q)) : JX (dIter2 fe) env S X (lim q.l) (en (α := β)) := by
  obtain ⟨t, l⟩ := q
  cases t
  · exact j_v (l := l) h
  · exact j_t (l := l) h
theorem seqOf_q [Enc α] (q : Sq α) (M : Sto) : seqOf (en q) M = some (q.l.map en) := by
  obtain ⟨t, l⟩ := q
  cases t <;> rfl
variable {rel : α → Fl → Sto → Prop} {N : Nat} {P : Sto → Prop} {cs : List (Nat × Cell)}
theorem seq_newQ [Enc β] {i : Nat} {fe : DE} {g : DS} {q : Sq β} {p : Pr α} {env1 : Nat → En} (he : ∀ n, env.set i (some (.ref n)) = env1 n) (h : PV fe env (St N P cs) (en q)) (hM : St N P cs M) (hk : ∀ n M1, St N P (cs ++ [(n, .lst (q.l.map en))]) M1 → Sat (g (env1 n) M1) p rel X) : Sat (dSeq (dSet i (dCallB gListC (dConsA fe dNilA))) g env M) p rel X := by
  have e : dCallB gListC (dConsA fe dNilA) env M = .ok (.ref M.length) (M ++ [.lst (q.l.map en)]) := by
    unfold dCallB dConsA
    rw [h M hM]
    show liftM (gListC [en q] M) = _
    unfold gListC
    simp only [seqOf_q]
    rfl
  unfold dSeq dSet
  rw [e]
  have := hk M.length _ (hM.new (lst_closed q.l))
  rw [← he] at this
  exact this
theorem seq_setIxx [Enc β] {i : Nat} (j : Nat) {fi fe : DE} {g : DS} {n : Nat} {l : List β} {v : Int} {p : Pr β} {k : List β → Pr α} (hi : env[i]? = some (some (.ref n))) (hj : cs[j]? = some (n, .lst (l.map en))) (h : PX fe env (St N P cs) X p) (hv : PV fi env (St N P cs) (.int v)) (hM : St N P cs M) (hk : ∀ l' M1, St N P (cs.set j (n, .lst (l'.map en))) M1 → Sat (g env M1) (k l') rel X) :
    Sat (dSeq (dSetIx (dVar i) fi fe) g env M) (p.bind fun x => (setI l v x).bind k) rel X := by
  unfold dSeq dSetIx
  rw [bind_assoc]
  refine bd_e h hM fun x M1 h1 => ?_
  refine ⟨fun Q E ⟨u, hu, z⟩ => ?_⟩
  have hc := h1.get j hj
  have := (hk (l.set u x) _ (h1.set j hj (lst_closed (l.set u x)))).run Q E z
  have e : dSetIx (dVar i) fi (dC (en x)) env M1 = .ok (.nx env) (M1.set n (.lst ((l.set u x).map en))) := by
    unfold dSetIx dVar dC
    simp only [hi]
    show (Out.bind (fi env M1) _) = _
    rw [hv M1 h1]
    show (match setL (.ref n) M1 fun l => (ixN l.length v).map fun j => l.set j (en x) with
      | some M4 => Out.ok (Fl.nx env) M4
      | none => .bad) = _
    simp only [setL, hc, List.length_map, hu, Option.map_some, List.map_set]
  show ((dSetIx (dVar i) fi (dC (en x)) env M1).bind _).post _ _
  rw [e]
  exact this
/-- a def of one list, which may be a cell of the caller's -/
def FPL [Enc α] [Enc β] (F : DF) (l : List α) (p : Pr β) : Prop := ∀ M x, PureS M → asL x M = some (l.map en) → Sat (F [x] M) p (fun a d M' => d = en a ∧ M' = M) NX
theorem callL [Enc β] [Enc γ] {F : DF} {n : Nat} {l : List β} {p : Pr γ} (j : Nat) (h : FPL F l p) (hj : cs[j]? = some (n, .lst (l.map en))) (hM : St N P cs M) : Sat (Ip.noex (F [.ref n] M)) p (relE (St N P cs)) X :=
  ((h M (.ref n) hM.pure (by simp only [asL, hM.get j hj])).imp fun a d M' ⟨e1, e2⟩ => ⟨e1, by rw [e2]; exact hM⟩).noex
end
end Ip
end
section
set_option Elab.async false
set_option linter.all false
set_option maxRecDepth 100000
set_option maxHeartbeats 1000000
set_option autoImplicit false
namespace Ip
open PySem L2
structure Lay where
  parts : List Pc
  starts : List Int
abbrev lks : List Str := ["parts", "starts"]
instance : Enc Lay := ⟨fun l => .obj "Layout" lks [en l.parts, en l.starts], fun l k => by
    show closedAll k [en l.parts, en l.starts] = true
    simp [closedAll, Enc.cls], fun a b h => by
    have h' := (D.obj.inj h).2.2
    simp only [List.cons.injEq, and_true] at h'
    cases a; cases b
    simp only [Lay.mk.injEq]
    exact ⟨Enc.inj _ _ h'.1, Enc.inj _ _ h'.2⟩⟩
instance : NoN Lay := ⟨fun _ h => by cases h⟩
theorem lay_ob {a : Lay} {M : Sto} : objOf "Layout" (en a) M = some (lks, [en a.parts, en a.starts]) := by
  show objOf "Layout" (.obj "Layout" lks [en a.parts, en a.starts]) M = _
  unfold objOf
  exact if_pos rfl
theorem lk_parts (a b : D) : (lks.zip [a, b]).lookup (Str.ofString "parts") = some a := by
  show List.lookup (Str.ofString "parts") [(Str.ofString "parts", a), (Str.ofString "starts", b)] = some a
  have h : (Str.ofString "parts" == Str.ofString "parts") = true := by decide +kernel
  simp [List.lookup, h]
theorem lk_starts (a b : D) : (lks.zip [a, b]).lookup (Str.ofString "starts") = some b := by
  show List.lookup (Str.ofString "starts") [(Str.ofString "parts", a), (Str.ofString "starts", b)] = some b
  have h : (Str.ofString "starts" == Str.ofString "parts") = false := by decide +kernel
  simp [List.lookup, h]
theorem lk_no {m : Str} (h1 : (m == Str.ofString "parts") = false) (h2 : (m == Str.ofString "starts") = false) (a b : D) : (lks.zip [a, b]).lookup m = none := by
  show List.lookup m [(Str.ofString "parts", a), (Str.ofString "starts", b)] = none
  simp [List.lookup, h1, h2]
section
variable {α β γ δ ε σ ρ : Type} {X : Sto → Prop} {env : En} {S : Sto → Prop} {M : Sto}
theorem lay_parts {f : DE} {l : Lay} (h : PV f env S (en l)) : PV (dFld "Layout" "parts" f) env S (en l.parts) := fld_v h (lk_parts _ _)
theorem lay_starts {f : DE} {l : Lay} (h : PV f env S (en l)) : PV (dFld "Layout" "starts" f) env S (en l.starts) := fld_v h (lk_starts _ _)
/-- what is written of an object's class: a property, a method -/
theorem prop_x [PuS S] [Enc α] {c : Str} {F : DF} {fe : DE} {x : D} {q : List Str × List D} {p : Pr α} (ho : ∀ {M}, objOf c x M = some q) (h : FP F [x] p) (he : PV fe env S x) : PX (dProp c F fe) env S X p := fun M hM => by
  unfold dProp
  refine bd_p he hM ?_
  show Sat (match objOf c x M with
    | some _ => noex (F [x] M)
    | none => .bad) _ _ _
  rw [ho]
  exact callP h hM
theorem meth_p {c m : Str} {F : DF} {fo : DE} {fa : DA} {x : D} {ks : List Str} {ds : List D} {P : Pr β} {rel' : β → D → Sto → Prop} (ho : ∀ {M}, objOf c x M = some (ks, ds)) (hl : (ks.zip ds).lookup m = none) (h : PV fo env S x) (hM : S M)
    (hk : Sat ((fa env M).bind fun as M2 => noex (F (x :: as) M2)) P rel' X) : Sat (dMeth c m F fo fa env M) P rel' X := by
  unfold dMeth
  refine bd_p h hM ?_
  show Sat (match objOf c x M with
    | some (ks, ds) => match (ks.zip ds).lookup m with
      | none => (fa env M).bind fun as M2 => noex (F (x :: as) M2)
      | some _ => .bad
    | none => .bad) _ _ _
  rw [ho]
  simp only [hl]
  exact hk
/-- a new object -/
def FM [Enc α] (c : Str) (F : DF) (ds : List D) (p : Pr α) : Prop := ∀ M, PureS M → Sat (kMake c F ds M) p (fun a d M' => d = en a ∧ M' = M) NX
theorem Sat.nx {rel : α → δ → Sto → Prop} {o : Out δ} {p : Pr α} (h : Sat o p rel NX) : Sat o p rel X := ⟨fun Q E z => (h.run Q E z).imp (fun _ _ z => z) (fun _ _ _ z => z.2.elim)⟩
theorem makeP [PuS S] [Enc α] {c : Str} {F : DF} {ds : List D} {p : Pr α} (h : FM c F ds p) (hM : S M) : Sat (kMake c F ds M) p (relE S) X :=
  ((h M (PuS.pure M hM)).imp fun a d M' ⟨e1, e2⟩ => ⟨e1, by rw [e2]; exact hM⟩).nx
theorem ifE_trueV {ft : DT} {fa fb : DE} {x : D} (h : TV ft env S true) (ha : PV fa env S x) : PV (dIfE ft fa fb) env S x := fun M hM => by
  unfold dIfE
  rw [h M hM]
  exact ha M hM
variable {rel : α → Fl → Sto → Prop}
theorem seq_bag {ns : List Int} {Fb : DF} {g : DS} {i : Nat} {env1 : En} {p : Pr α} (h : ∃ l, Fb [.scr ns] [] = .ok (.ref 0) [.lst l] ∧ BagOk l) (h0 : env[0]? = some (some (.scr ns))) (he : env.set i (some (.ref 0)) = env1) (hk : ∀ M, SB [] M → Sat (g env1 M) p rel X) : Sat (dSeq (dSet i (dCall Fb (dConsA (dVar 0) dNilA))) g env []) p rel X := by
  obtain ⟨l, e, hb⟩ := h
  have e2 : dCall Fb (dConsA (dVar 0) dNilA) env [] = .ok (.ref 0) [.lst l] := by
    unfold dCall dConsA dVar dNilA
    rw [h0]
    show noex (Fb [.scr ns] []) = _
    rw [e]; rfl
  unfold dSeq dSet
  rw [e2]
  subst he
  exact hk _ ⟨l, hb, rfl, PureS.nil⟩
theorem SB.st {M : Sto} (h : SB [] M) : St (([] : Sto).length + 1) (BagP []) [] M := by
  obtain ⟨b, hb, rfl, _⟩ := h
  exact .start ⟨b, hb, rfl⟩ rfl (pure_bag hb PureS.nil)
theorem run_law {n : Nat} {B : DS} {ns : List Int} {p : Pr Bool} {env0 : En} {R : Sto → Prop} (he : [some (D.scr ns)] ++ List.replicate (n - 1) none = env0) (h : Sat (B env0 []) p (fun a fl M' => fl = .rt (en a) ∧ R M') NX) (ht : p (fun b => b = true) (fun _ => False)) : ∃ M, runF n 1 B [.scr ns] [] = .ok (.bl true) M := by
  have := h.run _ _ ht
  have e : runF n 1 B [.scr ns] [] = (B env0 []).bind fun fl M1 => match fl with
    | .nx _ => .ok .non M1
    | .rt d => .ok d M1
    | _ => .bad := by
    unfold runF
    rw [if_pos (show [D.scr ns].length = 1 from rfl), ← he]
    rfl
  rw [e]
  cases ho : B env0 [] with
  | bad => rw [ho] at this; exact this.elim
  | exc e v M => rw [ho] at this; exact this.1.elim
  | ok fl M =>
    rw [ho] at this
    obtain ⟨a, ha, h1, _⟩ := this
    subst ha
    rw [h1]
    exact ⟨M, rfl⟩
end
end Ip
namespace Ip
open PySem L2
abbrev Rw := Option (Int × Int)
def pr : Rw → Rw → Prop
  | none, _ => True
  | some _, none => False
  | some x, some y => x.1 ≤ y.1 ∧ x.2 ≤ y.2 ∧ (x.1 = x.2 → y.1 = y.2 → x.1 < y.1)
def okR : Rw → Prop
  | none => True
  | some x => 0 ≤ x.1 ∧ x.1 ≤ x.2
theorem pr_trans {x y z : Rw} (hy : okR y) (h1 : pr x y) (h2 : pr y z) : pr x z := by
  cases x with
  | none => trivial
  | some x =>
    cases y with
    | none => exact h1.elim
    | some y =>
      cases z with
      | none => exact h2.elim
      | some z =>
        obtain ⟨a, b⟩ := x; obtain ⟨c, d⟩ := y; obtain ⟨e, f⟩ := z
        simp only [pr, okR] at *
        omega
theorem idx_nat {α : Type} {l : List α} {i : Nat} (h : i < l.length) : idx l (i : Int) = Pr.ok l[i] := by
  funext Q E
  have e : atI l (i : Int) = some l[i] := by
    unfold atI ixN
    simp [h]
  refine propext ⟨fun ⟨a, ha, q⟩ => ?_, fun q => ⟨l[i], e, q⟩⟩
  rw [e] at ha
  cases ha
  exact q
theorem ixN_last {α : Type} (l : List α) (x : α) : ixN (l ++ [x]).length (-1) = some l.length := by
  unfold ixN
  rw [if_neg (by omega), if_pos (by simp; omega), show (-1 + (((l ++ [x]).length : Nat) : Int)).toNat = l.length by simp; omega]
theorem idx_last {α : Type} (l : List α) (x : α) : idx (l ++ [x]) (-1) = Pr.ok x := by
  funext Q E
  have e : atI (l ++ [x]) (-1) = some x := by
    unfold atI
    rw [ixN_last]
    simp
  refine propext ⟨fun ⟨a, ha, q⟩ => ?_, fun q => ⟨x, e, q⟩⟩
  rw [e] at ha
  cases ha
  exact q
theorem setI_last {α : Type} (l : List α) (x y : α) : setI (l ++ [x]) (-1) y = Pr.ok (l ++ [y]) := by
  funext Q E
  have e := ixN_last l x
  have e2 : (l ++ [x]).set l.length y = l ++ [y] := by simp
  refine propext ⟨fun ⟨j, hj, q⟩ => ?_, fun q => ⟨l.length, e, ?_⟩⟩
  · rw [e] at hj
    cases hj
    rw [e2] at q
    exact q
  · rw [e2]; exact q
theorem setI_zero {α : Type} (x y : α) (l : List α) : setI (x :: l) 0 y = Pr.ok (y :: l) := by
  funext Q E
  have e : ixN (x :: l).length 0 = some 0 := by
    unfold ixN
    simp
  refine propext ⟨fun ⟨j, hj, q⟩ => ?_, fun q => ⟨0, e, q⟩⟩
  rw [e] at hj
  cases hj
  exact q
end Ip
namespace Ip
open PySem L2
end Ip
namespace Ip
open PySem L2
end Ip
namespace Ip
open PySem L2
end Ip
end
section
set_option Elab.async false
set_option linter.all false
set_option maxRecDepth 100000
set_option maxHeartbeats 1000000
set_option autoImplicit false
namespace Ip
open PySem L2
section
variable {α β γ δ ε σ ρ : Type} {X : Sto → Prop} {rel : α → Fl → Sto → Prop} {env : En} {S : Sto → Prop} {M : Sto}
theorem eqO_end [PuS S] {n : Bool} {F : DF} {a b : Lay} {p : Pr Bool} (h : FP F [en a, en b] p) (hM : S M) : Sat (match objOf "Layout" (en a) M, hasTy "Layout" (en b) M with
    | some _, true => (noex (F [en a, en b] M)).bind fun d M3 => match d with
      | .bl b => .ok (.bl (if n then !b else b)) M3
      | _ => .bad
    | _, _ => .bad) (p.bind fun c => Pr.ok (if n then !c else c)) (relE (α := Bool) S) X := by
  have h2 : hasTy "Layout" (en b) M = true := by unfold hasTy; rw [lay_ob]; rfl
  rw [lay_ob, h2]
  refine (callP h hM).bind fun c d M1 ⟨e, s⟩ => ?_
  rw [e]
  exact .ok ⟨rfl, s⟩
theorem eqO_pp [PuS S] {n : Bool} {F : DF} {fa fb : DE} {a b : Lay} {p : Pr Bool} (h : FP F [en a, en b] p) (ha : PV fa env S (en a)) (hb : PV fb env S (en b)) : PX (dEqO "Layout" n F fa fb) env S X (p.bind fun c => Pr.ok (if n then !c else c)) := fun M hM => by
  unfold dEqO
  exact bd_p ha hM (bd_p hb hM (eqO_end h hM))
theorem gs_isnt [Enc β] [NoN β] {o : Option β} : GS S X (gIs true) (en o) (en ()) (Pr.ok o.isSome) := gs_ok fun M _ => by
  show some (D.bl (if true = true then !isNon (en o) else isNon (en o)), M) = _
  rw [isNon_opt]
  cases o <;> rfl
theorem isiL_v {fa : DE} {a : Lay} (h : PV fa env S (en a)) : PV (dUn (gIsiO "Layout") fa) env S (.bl true) := un_v h fun M _ => by
  unfold gIsiO
  rw [lay_ob]
end
def Pc.py : Pc → PyData
  | .top n => .tuple [.str "top", .int n]
  | .old a b => .tuple [.str "old", .int a, .int b]
  | .opn a => .tuple [.str "old", .int a, .none]
  | .new a b n => .tuple [.str "new", .int a, .int b, .int n]
theorem sOkT : PyData.strOk (Str.ofString "top") = true := by decide +kernel
theorem sOkO : PyData.strOk (Str.ofString "old") = true := by decide +kernel
theorem sOkN : PyData.strOk (Str.ofString "new") = true := by decide +kernel
theorem sTO : (Str.ofString "top" == Str.ofString "old") = false := by decide +kernel
theorem sTN : (Str.ofString "top" == Str.ofString "new") = false := by decide +kernel
theorem sOT : (Str.ofString "old" == Str.ofString "top") = false := by decide +kernel
theorem sON : (Str.ofString "old" == Str.ofString "new") = false := by decide +kernel
theorem sNT : (Str.ofString "new" == Str.ofString "top") = false := by decide +kernel
theorem sNO : (Str.ofString "new" == Str.ofString "old") = false := by decide +kernel
instance : PyT Pc := ⟨Pc.py, fun p => by cases p <;> rfl, fun p => by cases p <;> simp [Pc.py, PyData.canLay0, PyData.canLayAll0, sOkT, sOkO, sOkN], 1, fun p => by cases p <;> simp [Pc.py, PyData.depth, PyData.depthAll],
  fun a b => by cases a <;> cases b <;> simp [Pc.py, PyData.eqv, PyData.eqvAll, sTO, sTN, sOT, sON, sNT, sNO], fun a b v w h1 h2 => by cases a <;> cases h1⟩
instance : NoE Pc := ⟨fun p => by cases p <;> rfl, fun p => by cases p <;> rfl⟩
end Ip
end
section
set_option Elab.async false
set_option linter.all false
set_option maxRecDepth 100000
set_option maxHeartbeats 1000000
set_option autoImplicit false
namespace Ip
open PySem L2
end Ip
end
section
set_option Elab.async false
set_option linter.all false
set_option maxRecDepth 100000
set_option maxHeartbeats 4000000
namespace Ip
open PySem L2
section
variable {α β γ δ ε σ ρ : Type} {X S : Sto → Prop} {env : En} {M : Sto}
theorem sortSet_x {fe : DE} {p : Pr (List Int)} (h : PX fe env S X p) : PX (dCallB gSortSet (dConsA fe dNilA)) env S X (p.bind fun l => Pr.need (l.length < 4000 ∧ (srt l).length < 64) (Pr.ok (srt l))) := fun M hM =>
  arg_e h hM fun l M1 h1 => arg_nil (.need fun hl => callB_end (c := srt l) h1 fun M _ => by
    show (match intsD (l.map D.int) with
      | some ns => if ns.length < 4000 ∧ (srt ns).length < 64 then some (D.lst ((srt ns).map .int), M) else none
      | none => none) = some (D.lst ((srt l).map D.int), M)
    rw [intsD_map]
    simp only
    rw [if_pos hl])
def tpF (l : List (Int × Option Int)) : List Int := l.flatMap fun x => ([some x.1, x.2].filter Option.isSome).flatMap fun y => [y.getD 0, y.getD 0 + 1]
theorem lvGo_v {t : DG} {ft : DT} {sub : DB} {enc : β → D} {c : β → Bool} {g : β → List D} {env0 : En} (hM : S M) (hb : ∀ x, ∃ env1, t (enc x) env0 = some env1 ∧ TV ft env1 S (c x) ∧ (c x = true → ∀ acc : List D, acc.length + (g x).length ≤ 16777216 → sub env1 acc M = .ok (acc ++ g x) M)) :
    ∀ (l : List β) (acc : List D), acc.length + ((l.filter c).flatMap g).length ≤ 16777216 → lvGo t ft sub (l.map enc) acc env0 M = .ok (acc ++ (l.filter c).flatMap g) M
  | [], acc, _ => by simp [lvGo]
  | x :: l, acc, hl => by
    obtain ⟨env1, h1, h2, h3⟩ := hb x
    show (match t (enc x) env0 with
      | none => Out.bad
      | some env1 => (noex (ft env1 M)).bind fun b M1 => if b then (sub env1 acc M1).bind fun acc2 M2 => lvGo t ft sub (l.map enc) acc2 env0 M2 else lvGo t ft sub (l.map enc) acc env0 M1) = _
    rw [h1]
    simp only
    rw [h2 M hM]
    cases hc : c x with
    | false =>
      rw [List.filter_cons_of_neg (by simp [hc])] at hl ⊢
      exact lvGo_v hM hb l acc hl
    | true =>
      rw [List.filter_cons_of_pos hc, List.flatMap_cons] at hl ⊢
      rw [List.length_append] at hl
      show (if true = true then (sub env1 acc M).bind fun acc2 M2 => lvGo t ft sub (l.map enc) acc2 env0 M2 else lvGo t ft sub (l.map enc) acc env0 M) = _
      rw [if_pos rfl, h3 hc acc (by omega)]
      show lvGo t ft sub (l.map enc) (acc ++ g x) env0 M = _
      rw [lvGo_v hM hb l (acc ++ g x) (by rw [List.length_append]; omega), List.append_assoc]
theorem set_get {k : Nat} {d : D} {env : En} (h : k < env.length) : (env.set k (some d))[k]? = some (some d) := List.getElem?_set_self h
theorem wipe_get {k : Nat} : ∀ {vs : List Nat} {env : En}, k ∉ vs → (wipeE env vs)[k]? = env[k]?
  | [], _, _ => rfl
  | v :: vs, env, h => by
    unfold wipeE
    rw [List.getElem?_set_ne (fun e => h (by rw [e]; exact List.mem_cons_self)), wipe_get fun z => h (List.mem_cons_of_mem _ z)]
theorem lc3_tp {k0 k1 k2 : Nat} {vs : List Nat} {fi : DA} {p : Pr (List (Int × Option Int))} (h01 : k0 ≠ k1) (h02 : k0 ≠ k2) (h12 : k1 ≠ k2) (l0 : k0 < env.length) (l1 : k1 < env.length) (l2 : k2 < env.length) (hi : IX fi env S X p (en (α := Int × Option Int))) :
    PX (dLc3 vs (tgName k0) fi dYes (lvS [k1, k2] (tgName k1) (dIter (dVar k0)) (dB (dBin (gIs true) (dVar k1) (dC .non))) (lvS [k2] (tgName k2) (dIter (dTup (dConsA (dC (.int 0)) (dConsA (dC (.int 1)) dNilA)))) dYes (lv0 (dBin gAdd (dVar k1) (dVar k2)))))) env S X
      (p.bind fun l => Pr.need ((tpF l).length ≤ 16777216) (Pr.ok (tpF l))) := fun M hM =>
  (hi M hM).bind fun l ds M1 ⟨e, h1⟩ => .need fun hl => by
    rw [e]
    have key := lvGo_v (S := S) (enc := en (α := Int × Option Int)) (t := tgName k0) (ft := dYes) (sub := lvS [k1, k2] (tgName k1) (dIter (dVar k0)) (dB (dBin (gIs true) (dVar k1) (dC .non))) (lvS [k2] (tgName k2) (dIter (dTup (dConsA (dC (.int 0)) (dConsA (dC (.int 1)) dNilA)))) dYes (lv0 (dBin gAdd (dVar k1) (dVar k2))))) (c := fun _ => true)
      (g := fun x => (([some x.1, x.2].filter Option.isSome).flatMap fun y => [y.getD 0, y.getD 0 + 1]).map D.int) (env0 := wipeE env vs) h1 (fun x => ⟨_, rfl, fun _ _ => rfl, fun _ acc ha => ?_⟩) l [] (by
        simp only [List.length_nil, Nat.zero_add, List.filter_eq_self.mpr (fun _ _ => rfl)]
        have : (l.flatMap fun x => (([some x.1, x.2].filter Option.isSome).flatMap fun y => [y.getD 0, y.getD 0 + 1]).map D.int) = (tpF l).map D.int := by unfold tpF; rw [List.map_flatMap]
        rw [this, List.length_map]
        exact hl)
    · rw [key]
      have : ((l.filter fun _ => true).flatMap fun x => (([some x.1, x.2].filter Option.isSome).flatMap fun y => [y.getD 0, y.getD 0 + 1]).map D.int) = (tpF l).map D.int := by
        rw [List.filter_eq_self.mpr (fun _ _ => rfl)]
        unfold tpF
        rw [List.map_flatMap]
      rw [this, List.nil_append]
      exact .ok ⟨rfl, h1⟩
    · -- the pair's numbers
      have le0 : (wipeE env vs).length = env.length := wipeE_len env vs
      have v0 : ((wipeE env vs).set k0 (some (en x)))[k0]? = some (some (en x)) := set_get (by rw [le0]; exact l0)
      have i1 : dIter (dVar k0) ((wipeE env vs).set k0 (some (en x))) M1 = .ok ([some x.1, x.2].map (en (α := Option Int))) M1 := by
        unfold dIter
        rw [show dVar k0 ((wipeE env vs).set k0 (some (en x))) M1 = .ok (en x) M1 from pv (S := S) v0 M1 h1]
        rfl
      show Out.bind (noex (dIter (dVar k0) ((wipeE env vs).set k0 (some (en x))) M1)) (fun items M2 => lvGo (tgName k1) (dB (dBin (gIs true) (dVar k1) (dC .non))) (lvS [k2] (tgName k2) (dIter (dTup (dConsA (dC (.int 0)) (dConsA (dC (.int 1)) dNilA)))) dYes (lv0 (dBin gAdd (dVar k1) (dVar k2)))) items acc (wipeE ((wipeE env vs).set k0 (some (en x))) [k1, k2]) M2) = _
      rw [i1]
      show lvGo (tgName k1) (dB (dBin (gIs true) (dVar k1) (dC .non))) (lvS [k2] (tgName k2) (dIter (dTup (dConsA (dC (.int 0)) (dConsA (dC (.int 1)) dNilA)))) dYes (lv0 (dBin gAdd (dVar k1) (dVar k2)))) ([some x.1, x.2].map (en (α := Option Int))) acc (wipeE ((wipeE env vs).set k0 (some (en x))) [k1, k2]) M1 = _
      rw [List.map_flatMap] at ha ⊢
      refine lvGo_v (S := S) (enc := en (α := Option Int)) (c := Option.isSome) (g := fun y => ([y.getD 0, y.getD 0 + 1] : List Int).map D.int) h1 (fun y => ⟨_, rfl, ?_, fun hy acc2 ha2 => ?_⟩) _ acc ha
      · intro M _
        have v1 : ((wipeE ((wipeE env vs).set k0 (some (en x))) [k1, k2]).set k1 (some (en y)))[k1]? = some (some (en y)) := set_get (by rw [wipeE_len, List.length_set, le0]; exact l1)
        unfold dB dBin
        rw [show dVar k1 _ M = .ok (en y) M from pv (S := fun _ => True) v1 M trivial]
        cases y <;> rfl
      · obtain ⟨v, rfl⟩ := Option.isSome_iff_exists.mp hy
        have i2 : ∀ ev : En, dIter (dTup (dConsA (dC (.int 0)) (dConsA (dC (.int 1)) dNilA))) ev M1 = .ok [D.int 0, D.int 1] M1 := fun ev => by
          unfold dIter dTup
          show Out.bind (if ([D.int 0, D.int 1] : List D).length ≤ 16777216 then Out.ok (D.tup [.int 0, .int 1]) M1 else .bad) _ = _
          rw [if_pos (by simp)]
          rfl
        show Out.bind (noex (dIter (dTup (dConsA (dC (.int 0)) (dConsA (dC (.int 1)) dNilA))) ((wipeE ((wipeE env vs).set k0 (some (en x))) [k1, k2]).set k1 (some (en (some v)))) M1)) (fun items M2 => lvGo (tgName k2) dYes (lv0 (dBin gAdd (dVar k1) (dVar k2))) items acc2 (wipeE ((wipeE ((wipeE env vs).set k0 (some (en x))) [k1, k2]).set k1 (some (en (some v)))) [k2]) M2) = _
        rw [i2]
        show lvGo (tgName k2) dYes (lv0 (dBin gAdd (dVar k1) (dVar k2))) ([0, 1].map D.int) acc2 (wipeE ((wipeE ((wipeE env vs).set k0 (some (en x))) [k1, k2]).set k1 (some (en (some v)))) [k2]) M1 = _
        refine lvGo_v (S := S) (enc := D.int) (c := fun _ => true) (g := fun z => [D.int (v + z)]) h1 (fun z => ⟨_, rfl, fun _ _ => rfl, fun _ acc3 ha3 => ?_⟩) [0, 1] acc2 (by simpa using ha2) |>.trans ?_
        · unfold lv0 dBin
          have w1 : ((wipeE ((wipeE ((wipeE env vs).set k0 (some (en x))) [k1, k2]).set k1 (some (en (some v)))) [k2]).set k2 (some (D.int z)))[k1]? = some (some (en (some v))) := by
            rw [List.getElem?_set_ne (Ne.symm h12), wipe_get (by simpa using h12)]
            exact set_get (by rw [wipeE_len, List.length_set, le0]; exact l1)
          have w2 : ((wipeE ((wipeE ((wipeE env vs).set k0 (some (en x))) [k1, k2]).set k1 (some (en (some v)))) [k2]).set k2 (some (D.int z)))[k2]? = some (some (D.int z)) := set_get (by rw [wipeE_len, List.length_set, wipeE_len, List.length_set, le0]; exact l2)
          rw [show dVar k1 _ M1 = .ok (en (some v)) M1 from pv (S := S) w1 M1 h1]
          show (noex ((dVar k2 _ M1).bind _)).bind _ = _
          rw [show dVar k2 _ M1 = .ok (D.int z) M1 from pv (S := S) w2 M1 h1]
          show (if acc3.length < 16777216 then Out.ok (acc3 ++ [D.int (v + z)]) M1 else .bad) = _
          rw [if_pos (by simp at ha3; omega)]
        · simp
end
end Ip
end
section
set_option Elab.async false
set_option linter.all false
set_option maxRecDepth 100000
set_option maxHeartbeats 4000000
namespace Ip
open PySem L2
def inT {α : Type} [DecidableEq α] (x : α) (l : List α) : Bool := decide (x ∈ l)
section
variable {α β γ δ ε σ ρ : Type} {X S : Sto → Prop} {env : En} {M : Sto} {N : Nat} {P : Sto → Prop} {cs : List (Nat × Cell)} {rel : α → Fl → Sto → Prop}
structure Dic (β : Type) where
  l : List (II × β)
theorem pK_inj {a b : II} (h : pK a = pK b) : a = b := by
  unfold pK at h
  simp only [List.cons.injEq, Sum.inl.injEq, and_true] at h
  exact Prod.ext h.1 h.2
def dks (l : List (II × β)) : List (List Key) := l.map fun p => pK p.1
def dvs [Enc β] (l : List (II × β)) : List D := l.map fun p => en p.2
theorem dks_inj [Enc β] : ∀ a b : List (II × β), dks a = dks b → dvs a = dvs b → a = b
  | [], [], _, _ => rfl
  | [], _ :: _, h, _ => by cases h
  | _ :: _, [], h, _ => by cases h
  | x :: a, y :: b, h, h' => by
    simp only [dks, List.map_cons, List.cons.injEq] at h
    simp only [dvs, List.map_cons, List.cons.injEq] at h'
    rw [Prod.ext (pK_inj h.1) (Enc.inj _ _ h'.1), dks_inj a b h.2 h'.2]
theorem closed_dvs [Enc β] (k : Nat) : ∀ l : List (II × β), closedAll k (dvs l) = true
  | [] => rfl
  | x :: l => by
    have ih := closed_dvs k l
    unfold dvs at ih ⊢
    simp [closedAll, Enc.cls x.2 k, ih]
instance [Enc β] : Enc (Dic β) := ⟨fun d => .dT (dks d.l) (dvs d.l), fun d k => by simp only [closed]; exact closed_dvs k d.l, fun a b h => by
  obtain ⟨la⟩ := a
  obtain ⟨lb⟩ := b
  exact congrArg Dic.mk (dks_inj la lb (D.dT.inj h).1 (D.dT.inj h).2)⟩
instance [Enc β] : NoN (Dic β) := ⟨fun _ h => by cases h⟩
end
end Ip
end
section
set_option Elab.async false
set_option linter.all false
set_option maxRecDepth 100000
set_option maxHeartbeats 4000000
namespace Ip
open PySem L2
end Ip
end
section
set_option Elab.async false
set_option linter.all false
set_option maxRecDepth 100000
set_option maxHeartbeats 1000000
namespace Ip
open PySem L2
end Ip
end
section
set_option Elab.async false
set_option linter.all false
set_option maxRecDepth 100000
set_option maxHeartbeats 4000000
namespace Ip
open PySem L2
end Ip
end
section
set_option Elab.async false
set_option linter.all false
set_option maxRecDepth 100000
set_option maxHeartbeats 4000000
namespace Ip
open PySem L2
end Ip
end
section
set_option Elab.async false
set_option linter.all false
set_option maxRecDepth 100000
set_option maxHeartbeats 1000000
set_option autoImplicit false
namespace Ip
open PySem L2
structure Gr where
  rows : Lay
  cols : Lay
abbrev gks : List Str := ["row_layout", "column_layout"]
instance : Enc Gr := ⟨fun l => .obj "Grid" gks [en l.rows, en l.cols], fun l k => by
    show closedAll k [en l.rows, en l.cols] = true
    simp [closedAll, Enc.cls], fun a b h => by
    have h' := (D.obj.inj h).2.2
    simp only [List.cons.injEq, and_true] at h'
    cases a; cases b
    simp only [Gr.mk.injEq]
    exact ⟨Enc.inj _ _ h'.1, Enc.inj _ _ h'.2⟩⟩
instance : NoN Gr := ⟨fun _ h => by cases h⟩
theorem gr_ob {a : Gr} {M : Sto} : objOf "Grid" (en a) M = some (gks, [en a.rows, en a.cols]) := by
  show objOf "Grid" (.obj "Grid" gks [en a.rows, en a.cols]) M = _
  unfold objOf
  exact if_pos rfl
theorem lk_grow (a b : D) : (gks.zip [a, b]).lookup (Str.ofString "row_layout") = some a := by
  show List.lookup (Str.ofString "row_layout") [(Str.ofString "row_layout", a), (Str.ofString "column_layout", b)] = some a
  have h : (Str.ofString "row_layout" == Str.ofString "row_layout") = true := by decide +kernel
  simp [List.lookup, h]
theorem lk_gcol (a b : D) : (gks.zip [a, b]).lookup (Str.ofString "column_layout") = some b := by
  show List.lookup (Str.ofString "column_layout") [(Str.ofString "row_layout", a), (Str.ofString "column_layout", b)] = some b
  have h : (Str.ofString "column_layout" == Str.ofString "row_layout") = false := by decide +kernel
  simp [List.lookup, h]
def wordsP : List PyData := [.str "insert_rows", .str "delete_rows", .str "insert_columns", .str "delete_columns"]
theorem wordsP_ok : SeqAt.shaped (.tuple wordsP) = true := by decide +kernel
def partC (a b : Str) : Prop := (b.length == 0) = false ∧ a.length ≤ 16777216
section
variable {α β γ δ ε σ ρ : Type} {X : Sto → Prop} {env : En} {S : Sto → Prop} {M : Sto}
theorem gr_row {f : DE} {l : Gr} (h : PV f env S (en l)) : PV (dFld "Grid" "row_layout" f) env S (en l.rows) := fld_v h (lk_grow _ _)
theorem gr_col {f : DE} {l : Gr} (h : PV f env S (en l)) : PV (dFld "Grid" "column_layout" f) env S (en l.cols) := fld_v h (lk_gcol _ _)
theorem eqG_end [PuS S] {n : Bool} {F : DF} {a b : Gr} {p : Pr Bool} (h : FP F [en a, en b] p) (hM : S M) : Sat (match objOf "Grid" (en a) M, hasTy "Grid" (en b) M with
    | some _, true => (noex (F [en a, en b] M)).bind fun d M3 => match d with
      | .bl b => .ok (.bl (if n then !b else b)) M3
      | _ => .bad
    | _, _ => .bad) (p.bind fun c => Pr.ok (if n then !c else c)) (relE (α := Bool) S) X := by
  have h2 : hasTy "Grid" (en b) M = true := by unfold hasTy; rw [gr_ob]; rfl
  rw [gr_ob, h2]
  refine (callP h hM).bind fun c d M1 ⟨e, s⟩ => ?_
  rw [e]
  exact .ok ⟨rfl, s⟩
theorem eqG_pp [PuS S] {n : Bool} {F : DF} {fa fb : DE} {a b : Gr} {p : Pr Bool} (h : FP F [en a, en b] p) (ha : PV fa env S (en a)) (hb : PV fb env S (en b)) : PX (dEqO "Grid" n F fa fb) env S X (p.bind fun c => Pr.ok (if n then !c else c)) := fun M hM => by
  unfold dEqO
  exact bd_p ha hM (bd_p hb hM (eqG_end h hM))
theorem isiG_v {fa : DE} {a : Gr} (h : PV fa env S (en a)) : PV (dUn (gIsiO "Grid") fa) env S (.bl true) := un_v h fun M _ => by
  unfold gIsiO
  rw [gr_ob]
theorem ends_v {fo fe : DE} {a b : Str} (ho : PV fo env S (.str a)) (he : PV fe env S (.str b)) : PV (dM1 gEnds fo fe) env S (.bl (Txt.endswith a b)) := fun M hM => by
  unfold dM1
  rw [ho M hM]
  show Out.bind (fe env M) _ = _
  rw [he M hM]
  rfl
theorem part_x {fo fe : DE} {a b : Str} (ho : PV fo env S (.str a)) (he : PV fe env S (.str b)) : PX (dM1 gPart fo fe) env S X (Pr.need (partC a b) (Pr.ok (⟨(Txt.partition a b).1, (Txt.partition a b).2.1, (Txt.partition a b).2.2⟩ : T3 Str Str Str))) := fun M hM => .need fun hc => by
  have e : dM1 gPart fo fe env M = .ok (.tup [.str (Txt.partition a b).1, .str (Txt.partition a b).2.1, .str (Txt.partition a b).2.2]) M := by
    unfold dM1
    rw [ho M hM]
    show Out.bind (fe env M) _ = _
    rw [he M hM]
    show (match gPart a b with | some d => Out.ok d M | none => .bad) = _
    unfold gPart
    rw [if_pos (show (b.length == 0) = false ∧ a.length ≤ 16777216 from hc)]
  rw [e]
  exact .ok ⟨rfl, hM⟩
theorem inW_x {fa : DE} {s : Str} {n : Bool} (h : PV fa env S (.str s)) : PX (dBin (gIn n) fa (dC (.tup [.str "insert_rows", .str "delete_rows", .str "insert_columns", .str "delete_columns"]))) env S X (Pr.need (PyData.strOk s = true) (Pr.ok (if n then !anyD wordsP (.str s) else anyD wordsP (.str s)))) := fun M hM => .need fun hc => by
  have h1 : SeqAt.shaped (.str s) = true := by simp [SeqAt.shaped, PyData.canLay0, PyData.depth, hc]
  have e : gIn n (.str s) (.tup [.str "insert_rows", .str "delete_rows", .str "insert_columns", .str "delete_columns"]) M = some (.bl (if n then !anyD wordsP (.str s) else anyD wordsP (.str s)), M) := by
    unfold gIn inD
    have p1 : pyM (.str s) M = some (.str s) := rfl
    have p2 : pyM (.tup [.str "insert_rows", .str "delete_rows", .str "insert_columns", .str "delete_columns"]) M = some (.tuple wordsP) := rfl
    rw [p1, p2]
    simp only [h1, wordsP_ok, Bool.and_self, if_true, Option.map_some]
  unfold dBin
  rw [h M hM]
  show Sat (liftM (gIn n (.str s) (.tup [.str "insert_rows", .str "delete_rows", .str "insert_columns", .str "delete_columns"]) M)) _ _ _
  rw [e]
  exact .ok ⟨rfl, hM⟩
/-- (x,) + y[1:] -/
theorem rep1_x [Enc α] [Enc β] [Enc γ] [Enc ε] {fx fo : DE} {c : T3 ε β γ} {p : Pr α} (hx : PX fx env S X p) (ho : PV fo env S (en c)) : PX (dBin gAdd (dTup (dConsA fx dNilA)) (dSl fo (dPart (dC (.int 1))) dNoPart)) env S X (p.bind fun x => Pr.ok (⟨x, c.p2, c.p3⟩ : T3 α β γ)) := fun M hM => ⟨fun Q E z => by
  have q := (hx M hM).run _ _ z
  unfold dBin dTup dConsA
  cases hf : fx env M with
  | ok d M1 =>
    rw [hf] at q
    obtain ⟨a, qa, e, s⟩ := q
    subst e
    have h2 : dSl fo (dPart (dC (.int 1))) dNoPart env M1 = .ok (.tup [en c.p2, en c.p3]) M1 := by
      unfold dSl
      rw [ho M1 s]
      rfl
    show Out.post (Out.bind (dSl fo (dPart (dC (.int 1))) dNoPart env M1) _) _ _
    rw [h2]
    exact ⟨_, qa, rfl, s⟩
  | exc e v M1 =>
    rw [hf] at q
    exact q
  | bad => rw [hf] at q; exact q.elim⟩
/-- a pair, walked -/
theorem iter_pair [Enc β] {fe : DE} {p : Pr (β × β)} (h : PX fe env S X p) : IX (dIter fe) env S X (p.bind fun u => Pr.ok [u.1, u.2]) (en (α := β)) := fun M hM => by
  refine bd_e (k := fun u => Pr.ok [u.1, u.2]) h hM (fun l M1 h1 => ?_)
  exact .ok ⟨rfl, h1⟩
end
end Ip
end
section
set_option Elab.async false
set_option linter.all false
set_option maxRecDepth 100000
set_option maxHeartbeats 4000000
namespace T
open PySem PyProof.Rows L2 Ip
def top (i : Nat) : Stmt := PySem.Challenge.pw_spanrows_k38_whole_grids_alike_or_not.main.body.getD i (.Pass ⟨0, 0, 0, 0⟩)
abbrev s__law_bag : Stmt := top 75
abbrev s__law_pull : Stmt := top 76
abbrev s__law_of : Stmt := top 77
abbrev s__law_near : Stmt := top 78
abbrev s__law_grid_script : Stmt := top 79
abbrev s_without_axis : Stmt := top 67
abbrev s_is_number : Stmt := top 12
abbrev s_are_numbers : Stmt := top 13
abbrev s_is_command : Stmt := top 48
abbrev s_is_grid_command : Stmt := top 68
abbrev s_check_grid_script : Stmt := top 69
abbrev s_axis_script : Stmt := top 70
abbrev s_check_script : Stmt := top 49
abbrev s_Layout_pieces : Stmt := inClass (top 46) 7
abbrev s_old_rows_before : Stmt := top 50
abbrev s_insert_pieces : Stmt := top 51
abbrev s_delete_pieces : Stmt := top 52
abbrev s_command_pieces : Stmt := top 53
abbrev s_row_count : Stmt := top 21
abbrev s_starts_of : Stmt := top 22
abbrev s_index_of_row : Stmt := top 23
abbrev s_first_rows : Stmt := top 31
abbrev s_without_first_rows : Stmt := top 32
abbrev s_part : Stmt := top 33
abbrev s_label_in : Stmt := top 24
abbrev s_label_at : Stmt := top 26
abbrev s_renamed : Stmt := top 34
abbrev s_joined : Stmt := top 19
abbrev s_normal_form : Stmt := top 20
abbrev s_followed : Stmt := top 35
abbrev s_pieces_behind : Stmt := top 54
abbrev s_is_range : Stmt := top 14
abbrev s_is_piece : Stmt := top 15
abbrev s_is_open : Stmt := top 16
abbrev s_first_label : Stmt := top 25
abbrev s_may_follow : Stmt := top 17
abbrev s_first_wrong : Stmt := top 18
abbrev s_Layout___init__ : Stmt := inClass (top 46) 1
abbrev s_run : Stmt := top 55
abbrev s_Grid___init__ : Stmt := inClass (top 66) 0
abbrev s_run_grid : Stmt := top 71
abbrev s_Grid_rows : Stmt := inClass (top 66) 2
abbrev s_old_ranges : Stmt := top 37
abbrev s_new_labels : Stmt := top 36
abbrev s_turning_points : Stmt := top 61
abbrev s_is_span : Stmt := top 57
abbrev s_check_span : Stmt := top 58
abbrev s_first_row_from : Stmt := top 28
abbrev s_lesser : Stmt := top 38
abbrev s_last_row_up_to : Stmt := top 29
abbrev s_carried_by : Stmt := top 30
abbrev s_carried : Stmt := top 59
abbrev s_is_difference : Stmt := top 60
abbrev s_difference : Stmt := top 62
abbrev s_Grid_columns : Stmt := inClass (top 66) 3
abbrev s_difference_box : Stmt := top 73
abbrev s_Layout___eq__ : Stmt := inClass (top 46) 10
abbrev s_Grid___eq__ : Stmt := inClass (top 66) 4
abbrev s_carried_box : Stmt := top 72
abbrev s_law : Stmt := top 80
set_option genInjectivity false in
set_option genSizeOf false in
structure Txt (K : PySem.W.Frag) (mg : Str → Option Value) where
  b_all : mg "all" = none
  b_bool : mg "bool" = none
  b_enumerate : mg "enumerate" = none
  b_int : mg "int" = none
  b_isinstance : mg "isinstance" = none
  b_len : mg "len" = none
  b_list : mg "list" = none
  b_max : mg "max" = none
  b_min : mg "min" = none
  b_range : mg "range" = none
  b_set : mg "set" = none
  b_sorted : mg "sorted" = none
  b_tuple : mg "tuple" = none
  b_zip : mg "zip" = none
  p_ALL_ROWS : Addr
  c_ALL_ROWS : mg "ALL_ROWS" = some (.ref p_ALL_ROWS)
  w_ALL_ROWS : ∀ cl H ρ, RV ⟨K, cl⟩ H ρ (.tup [.int 0, .non]) (.ref p_ALL_ROWS)
  p_PLAIN : Addr
  c_PLAIN : mg "PLAIN" = some (.ref p_PLAIN)
  w_PLAIN : ∀ cl H ρ, RV ⟨K, cl⟩ H ρ (.tup [.tup [.str "old", .int 0, .non]]) (.ref p_PLAIN)
  p_WORDS : Addr
  c_WORDS : mg "WORDS" = some (.ref p_WORDS)
  w_WORDS : ∀ cl H ρ, RV ⟨K, cl⟩ H ρ (.tup [.str "insert_rows", .str "delete_rows", .str "insert_columns", .str "delete_columns"]) (.ref p_WORDS)
  a_Layout : Addr
  mc_Layout : Value
  g_Layout : mg "Layout" = some (.ref a_Layout)
  k_Layout : Cls K a_Layout
  r_Layout : ClX.CRead K a_Layout mc_Layout
  na_Layout_parts : NoAttr K a_Layout "parts"
  na_Layout_starts : NoAttr K a_Layout "starts"
  u_Layout_LIMIT : Value
  v_Layout_LIMIT : ClX.CVal K a_Layout mc_Layout "LIMIT" (.int 60) u_Layout_LIMIT
  a_Grid : Addr
  mc_Grid : Value
  g_Grid : mg "Grid" = some (.ref a_Grid)
  k_Grid : Cls K a_Grid
  r_Grid : ClX.CRead K a_Grid mc_Grid
  na_Grid_row_layout : NoAttr K a_Grid "row_layout"
  na_Grid_column_layout : NoAttr K a_Grid "column_layout"
  a__law_bag : Addr
  d__law_bag : FuncData
  g__law_bag : mg "_law_bag" = some (.ref a__law_bag)
  p__law_bag : PySem.W.keepIn K (.ref a__law_bag) = true
  f__law_bag : Fun K "_law_bag" "_law_bag" s__law_bag a__law_bag d__law_bag
  n__law_bag : Binds K d__law_bag ["_law_script"] []
  a__law_pull : Addr
  d__law_pull : FuncData
  g__law_pull : mg "_law_pull" = some (.ref a__law_pull)
  p__law_pull : PySem.W.keepIn K (.ref a__law_pull) = true
  f__law_pull : Fun K "_law_pull" "_law_pull" s__law_pull a__law_pull d__law_pull
  n__law_pull : Binds K d__law_pull ["_law_bag_here", "_law_size"] []
  a__law_of : Addr
  d__law_of : FuncData
  g__law_of : mg "_law_of" = some (.ref a__law_of)
  p__law_of : PySem.W.keepIn K (.ref a__law_of) = true
  f__law_of : Fun K "_law_of" "_law_of" s__law_of a__law_of d__law_of
  n__law_of : Binds K d__law_of ["_law_bag_here", "_law_some"] []
  a__law_near : Addr
  d__law_near : FuncData
  g__law_near : mg "_law_near" = some (.ref a__law_near)
  p__law_near : PySem.W.keepIn K (.ref a__law_near) = true
  f__law_near : Fun K "_law_near" "_law_near" s__law_near a__law_near d__law_near
  n__law_near : Binds K d__law_near ["_law_bag_here"] []
  a__law_grid_script : Addr
  d__law_grid_script : FuncData
  g__law_grid_script : mg "_law_grid_script" = some (.ref a__law_grid_script)
  p__law_grid_script : PySem.W.keepIn K (.ref a__law_grid_script) = true
  f__law_grid_script : Fun K "_law_grid_script" "_law_grid_script" s__law_grid_script a__law_grid_script d__law_grid_script
  n__law_grid_script : Binds K d__law_grid_script ["_law_bag_here", "_law_most"] []
  a_without_axis : Addr
  d_without_axis : FuncData
  g_without_axis : mg "without_axis" = some (.ref a_without_axis)
  p_without_axis : PySem.W.keepIn K (.ref a_without_axis) = true
  f_without_axis : Fun K "without_axis" "without_axis" s_without_axis a_without_axis d_without_axis
  n_without_axis : Binds K d_without_axis ["item"] []
  a_is_number : Addr
  d_is_number : FuncData
  g_is_number : mg "is_number" = some (.ref a_is_number)
  p_is_number : PySem.W.keepIn K (.ref a_is_number) = true
  f_is_number : Fun K "is_number" "is_number" s_is_number a_is_number d_is_number
  n_is_number : Binds K d_is_number ["value"] []
  a_are_numbers : Addr
  d_are_numbers : FuncData
  g_are_numbers : mg "are_numbers" = some (.ref a_are_numbers)
  p_are_numbers : PySem.W.keepIn K (.ref a_are_numbers) = true
  f_are_numbers : Fun K "are_numbers" "are_numbers" s_are_numbers a_are_numbers d_are_numbers
  n_are_numbers : Binds K d_are_numbers ["values", "many"] []
  a_is_command : Addr
  d_is_command : FuncData
  g_is_command : mg "is_command" = some (.ref a_is_command)
  p_is_command : PySem.W.keepIn K (.ref a_is_command) = true
  f_is_command : Fun K "is_command" "is_command" s_is_command a_is_command d_is_command
  n_is_command : Binds K d_is_command ["item"] []
  a_is_grid_command : Addr
  d_is_grid_command : FuncData
  g_is_grid_command : mg "is_grid_command" = some (.ref a_is_grid_command)
  p_is_grid_command : PySem.W.keepIn K (.ref a_is_grid_command) = true
  f_is_grid_command : Fun K "is_grid_command" "is_grid_command" s_is_grid_command a_is_grid_command d_is_grid_command
  n_is_grid_command : Binds K d_is_grid_command ["item"] []
  a_check_grid_script : Addr
  d_check_grid_script : FuncData
  g_check_grid_script : mg "check_grid_script" = some (.ref a_check_grid_script)
  p_check_grid_script : PySem.W.keepIn K (.ref a_check_grid_script) = true
  f_check_grid_script : Fun K "check_grid_script" "check_grid_script" s_check_grid_script a_check_grid_script d_check_grid_script
  n_check_grid_script : Binds K d_check_grid_script ["script"] []
  a_axis_script : Addr
  d_axis_script : FuncData
  g_axis_script : mg "axis_script" = some (.ref a_axis_script)
  p_axis_script : PySem.W.keepIn K (.ref a_axis_script) = true
  f_axis_script : Fun K "axis_script" "axis_script" s_axis_script a_axis_script d_axis_script
  n_axis_script : Binds K d_axis_script ["script", "axis"] []
  a_check_script : Addr
  d_check_script : FuncData
  g_check_script : mg "check_script" = some (.ref a_check_script)
  p_check_script : PySem.W.keepIn K (.ref a_check_script) = true
  f_check_script : Fun K "check_script" "check_script" s_check_script a_check_script d_check_script
  n_check_script : Binds K d_check_script ["script"] []
  a_Layout_pieces : Addr
  d_Layout_pieces : FuncData
  m_Layout_pieces : Meth K a_Layout "pieces" a_Layout_pieces
  p_Layout_pieces : PySem.W.keepIn K (.ref a_Layout_pieces) = true
  f_Layout_pieces : Fun K "pieces" "Layout.pieces" s_Layout_pieces a_Layout_pieces d_Layout_pieces
  n_Layout_pieces : Binds K d_Layout_pieces ["self"] []
  a_old_rows_before : Addr
  d_old_rows_before : FuncData
  g_old_rows_before : mg "old_rows_before" = some (.ref a_old_rows_before)
  p_old_rows_before : PySem.W.keepIn K (.ref a_old_rows_before) = true
  f_old_rows_before : Fun K "old_rows_before" "old_rows_before" s_old_rows_before a_old_rows_before d_old_rows_before
  n_old_rows_before : Binds K d_old_rows_before ["number"] []
  a_insert_pieces : Addr
  d_insert_pieces : FuncData
  g_insert_pieces : mg "insert_pieces" = some (.ref a_insert_pieces)
  p_insert_pieces : PySem.W.keepIn K (.ref a_insert_pieces) = true
  f_insert_pieces : Fun K "insert_pieces" "insert_pieces" s_insert_pieces a_insert_pieces d_insert_pieces
  n_insert_pieces : Binds K d_insert_pieces ["at", "count"] []
  a_delete_pieces : Addr
  d_delete_pieces : FuncData
  g_delete_pieces : mg "delete_pieces" = some (.ref a_delete_pieces)
  p_delete_pieces : PySem.W.keepIn K (.ref a_delete_pieces) = true
  f_delete_pieces : Fun K "delete_pieces" "delete_pieces" s_delete_pieces a_delete_pieces d_delete_pieces
  n_delete_pieces : Binds K d_delete_pieces ["first", "last"] []
  a_command_pieces : Addr
  d_command_pieces : FuncData
  g_command_pieces : mg "command_pieces" = some (.ref a_command_pieces)
  p_command_pieces : PySem.W.keepIn K (.ref a_command_pieces) = true
  f_command_pieces : Fun K "command_pieces" "command_pieces" s_command_pieces a_command_pieces d_command_pieces
  n_command_pieces : Binds K d_command_pieces ["command"] []
  a_row_count : Addr
  d_row_count : FuncData
  g_row_count : mg "row_count" = some (.ref a_row_count)
  p_row_count : PySem.W.keepIn K (.ref a_row_count) = true
  f_row_count : Fun K "row_count" "row_count" s_row_count a_row_count d_row_count
  n_row_count : Binds K d_row_count ["piece"] []
  a_starts_of : Addr
  d_starts_of : FuncData
  g_starts_of : mg "starts_of" = some (.ref a_starts_of)
  p_starts_of : PySem.W.keepIn K (.ref a_starts_of) = true
  f_starts_of : Fun K "starts_of" "starts_of" s_starts_of a_starts_of d_starts_of
  n_starts_of : Binds K d_starts_of ["pieces"] []
  a_index_of_row : Addr
  d_index_of_row : FuncData
  g_index_of_row : mg "index_of_row" = some (.ref a_index_of_row)
  p_index_of_row : PySem.W.keepIn K (.ref a_index_of_row) = true
  f_index_of_row : Fun K "index_of_row" "index_of_row" s_index_of_row a_index_of_row d_index_of_row
  n_index_of_row : Binds K d_index_of_row ["starts", "number"] []
  a_first_rows : Addr
  d_first_rows : FuncData
  g_first_rows : mg "first_rows" = some (.ref a_first_rows)
  p_first_rows : PySem.W.keepIn K (.ref a_first_rows) = true
  f_first_rows : Fun K "first_rows" "first_rows" s_first_rows a_first_rows d_first_rows
  n_first_rows : Binds K d_first_rows ["piece", "many"] []
  a_without_first_rows : Addr
  d_without_first_rows : FuncData
  g_without_first_rows : mg "without_first_rows" = some (.ref a_without_first_rows)
  p_without_first_rows : PySem.W.keepIn K (.ref a_without_first_rows) = true
  f_without_first_rows : Fun K "without_first_rows" "without_first_rows" s_without_first_rows a_without_first_rows d_without_first_rows
  n_without_first_rows : Binds K d_without_first_rows ["piece", "many"] []
  a_part : Addr
  d_part : FuncData
  g_part : mg "part" = some (.ref a_part)
  p_part : PySem.W.keepIn K (.ref a_part) = true
  f_part : Fun K "part" "part" s_part a_part d_part
  n_part : Binds K d_part ["pieces", "starts", "first", "last"] []
  a_label_in : Addr
  d_label_in : FuncData
  g_label_in : mg "label_in" = some (.ref a_label_in)
  p_label_in : PySem.W.keepIn K (.ref a_label_in) = true
  f_label_in : Fun K "label_in" "label_in" s_label_in a_label_in d_label_in
  n_label_in : Binds K d_label_in ["piece", "offset"] []
  a_label_at : Addr
  d_label_at : FuncData
  g_label_at : mg "label_at" = some (.ref a_label_at)
  p_label_at : PySem.W.keepIn K (.ref a_label_at) = true
  f_label_at : Fun K "label_at" "label_at" s_label_at a_label_at d_label_at
  n_label_at : Binds K d_label_at ["pieces", "starts", "number"] []
  a_renamed : Addr
  d_renamed : FuncData
  g_renamed : mg "renamed" = some (.ref a_renamed)
  p_renamed : PySem.W.keepIn K (.ref a_renamed) = true
  f_renamed : Fun K "renamed" "renamed" s_renamed a_renamed d_renamed
  n_renamed : Binds K d_renamed ["pieces", "starts", "piece"] []
  a_joined : Addr
  d_joined : FuncData
  g_joined : mg "joined" = some (.ref a_joined)
  p_joined : PySem.W.keepIn K (.ref a_joined) = true
  f_joined : Fun K "joined" "joined" s_joined a_joined d_joined
  n_joined : Binds K d_joined ["one", "other"] []
  a_normal_form : Addr
  d_normal_form : FuncData
  g_normal_form : mg "normal_form" = some (.ref a_normal_form)
  p_normal_form : PySem.W.keepIn K (.ref a_normal_form) = true
  f_normal_form : Fun K "normal_form" "normal_form" s_normal_form a_normal_form d_normal_form
  n_normal_form : Binds K d_normal_form ["pieces"] []
  a_followed : Addr
  d_followed : FuncData
  g_followed : mg "followed" = some (.ref a_followed)
  p_followed : PySem.W.keepIn K (.ref a_followed) = true
  f_followed : Fun K "followed" "followed" s_followed a_followed d_followed
  n_followed : Binds K d_followed ["first", "second"] []
  a_pieces_behind : Addr
  d_pieces_behind : FuncData
  g_pieces_behind : mg "pieces_behind" = some (.ref a_pieces_behind)
  p_pieces_behind : PySem.W.keepIn K (.ref a_pieces_behind) = true
  f_pieces_behind : Fun K "pieces_behind" "pieces_behind" s_pieces_behind a_pieces_behind d_pieces_behind
  n_pieces_behind : Binds K d_pieces_behind ["script", "pieces"] []
  a_is_range : Addr
  d_is_range : FuncData
  g_is_range : mg "is_range" = some (.ref a_is_range)
  p_is_range : PySem.W.keepIn K (.ref a_is_range) = true
  f_is_range : Fun K "is_range" "is_range" s_is_range a_is_range d_is_range
  n_is_range : Binds K d_is_range ["pair"] []
  a_is_piece : Addr
  d_is_piece : FuncData
  g_is_piece : mg "is_piece" = some (.ref a_is_piece)
  p_is_piece : PySem.W.keepIn K (.ref a_is_piece) = true
  f_is_piece : Fun K "is_piece" "is_piece" s_is_piece a_is_piece d_is_piece
  n_is_piece : Binds K d_is_piece ["piece"] []
  a_is_open : Addr
  d_is_open : FuncData
  g_is_open : mg "is_open" = some (.ref a_is_open)
  p_is_open : PySem.W.keepIn K (.ref a_is_open) = true
  f_is_open : Fun K "is_open" "is_open" s_is_open a_is_open d_is_open
  n_is_open : Binds K d_is_open ["piece"] []
  a_first_label : Addr
  d_first_label : FuncData
  g_first_label : mg "first_label" = some (.ref a_first_label)
  p_first_label : PySem.W.keepIn K (.ref a_first_label) = true
  f_first_label : Fun K "first_label" "first_label" s_first_label a_first_label d_first_label
  n_first_label : Binds K d_first_label ["piece"] []
  a_may_follow : Addr
  d_may_follow : FuncData
  g_may_follow : mg "may_follow" = some (.ref a_may_follow)
  p_may_follow : PySem.W.keepIn K (.ref a_may_follow) = true
  f_may_follow : Fun K "may_follow" "may_follow" s_may_follow a_may_follow d_may_follow
  n_may_follow : Binds K d_may_follow ["before", "piece"] []
  a_first_wrong : Addr
  d_first_wrong : FuncData
  g_first_wrong : mg "first_wrong" = some (.ref a_first_wrong)
  p_first_wrong : PySem.W.keepIn K (.ref a_first_wrong) = true
  f_first_wrong : Fun K "first_wrong" "first_wrong" s_first_wrong a_first_wrong d_first_wrong
  n_first_wrong : Binds K d_first_wrong ["pieces"] []
  a_Layout___init__ : Addr
  d_Layout___init__ : FuncData
  mk_Layout : Mk K a_Layout a_Layout___init__
  p_Layout___init__ : PySem.W.keepIn K (.ref a_Layout___init__) = true
  f_Layout___init__ : Fun K "__init__" "Layout.__init__" s_Layout___init__ a_Layout___init__ d_Layout___init__
  n_Layout___init__ : Binds K d_Layout___init__ ["self", "pieces"] []
  a_run : Addr
  d_run : FuncData
  g_run : mg "run" = some (.ref a_run)
  p_run : PySem.W.keepIn K (.ref a_run) = true
  f_run : Fun K "run" "run" s_run a_run d_run
  nk_run : KwB K d_run ["script", "start"] 1 ["start"]
  n_run : BindsD K d_run ["script", "start"] 1
  a_Grid___init__ : Addr
  d_Grid___init__ : FuncData
  mk_Grid : Mk K a_Grid a_Grid___init__
  p_Grid___init__ : PySem.W.keepIn K (.ref a_Grid___init__) = true
  f_Grid___init__ : Fun K "__init__" "Grid.__init__" s_Grid___init__ a_Grid___init__ d_Grid___init__
  n_Grid___init__ : Binds K d_Grid___init__ ["self", "rows", "columns"] []
  a_run_grid : Addr
  d_run_grid : FuncData
  g_run_grid : mg "run_grid" = some (.ref a_run_grid)
  p_run_grid : PySem.W.keepIn K (.ref a_run_grid) = true
  f_run_grid : Fun K "run_grid" "run_grid" s_run_grid a_run_grid d_run_grid
  n_run_grid : Binds K d_run_grid ["script"] []
  a_Grid_rows : Addr
  d_Grid_rows : FuncData
  q_Grid_rows : Addr
  pr_Grid_rows : PropOf K a_Grid "rows" q_Grid_rows a_Grid_rows
  p_Grid_rows : PySem.W.keepIn K (.ref a_Grid_rows) = true
  f_Grid_rows : Fun K "rows" "Grid.rows" s_Grid_rows a_Grid_rows d_Grid_rows
  n_Grid_rows : Binds K d_Grid_rows ["self"] []
  a_old_ranges : Addr
  d_old_ranges : FuncData
  g_old_ranges : mg "old_ranges" = some (.ref a_old_ranges)
  p_old_ranges : PySem.W.keepIn K (.ref a_old_ranges) = true
  f_old_ranges : Fun K "old_ranges" "old_ranges" s_old_ranges a_old_ranges d_old_ranges
  n_old_ranges : Binds K d_old_ranges ["pieces"] []
  a_new_labels : Addr
  d_new_labels : FuncData
  g_new_labels : mg "new_labels" = some (.ref a_new_labels)
  p_new_labels : PySem.W.keepIn K (.ref a_new_labels) = true
  f_new_labels : Fun K "new_labels" "new_labels" s_new_labels a_new_labels d_new_labels
  n_new_labels : Binds K d_new_labels ["pieces"] []
  a_turning_points : Addr
  d_turning_points : FuncData
  g_turning_points : mg "turning_points" = some (.ref a_turning_points)
  p_turning_points : PySem.W.keepIn K (.ref a_turning_points) = true
  f_turning_points : Fun K "turning_points" "turning_points" s_turning_points a_turning_points d_turning_points
  n_turning_points : Binds K d_turning_points ["layout"] []
  a_is_span : Addr
  d_is_span : FuncData
  g_is_span : mg "is_span" = some (.ref a_is_span)
  p_is_span : PySem.W.keepIn K (.ref a_is_span) = true
  f_is_span : Fun K "is_span" "is_span" s_is_span a_is_span d_is_span
  n_is_span : Binds K d_is_span ["span"] []
  a_check_span : Addr
  d_check_span : FuncData
  g_check_span : mg "check_span" = some (.ref a_check_span)
  p_check_span : PySem.W.keepIn K (.ref a_check_span) = true
  f_check_span : Fun K "check_span" "check_span" s_check_span a_check_span d_check_span
  n_check_span : Binds K d_check_span ["span"] []
  a_first_row_from : Addr
  d_first_row_from : FuncData
  g_first_row_from : mg "first_row_from" = some (.ref a_first_row_from)
  p_first_row_from : PySem.W.keepIn K (.ref a_first_row_from) = true
  f_first_row_from : Fun K "first_row_from" "first_row_from" s_first_row_from a_first_row_from d_first_row_from
  n_first_row_from : Binds K d_first_row_from ["pieces", "starts", "low"] []
  a_lesser : Addr
  d_lesser : FuncData
  g_lesser : mg "lesser" = some (.ref a_lesser)
  p_lesser : PySem.W.keepIn K (.ref a_lesser) = true
  f_lesser : Fun K "lesser" "lesser" s_lesser a_lesser d_lesser
  n_lesser : Binds K d_lesser ["one", "other"] []
  a_last_row_up_to : Addr
  d_last_row_up_to : FuncData
  g_last_row_up_to : mg "last_row_up_to" = some (.ref a_last_row_up_to)
  p_last_row_up_to : PySem.W.keepIn K (.ref a_last_row_up_to) = true
  f_last_row_up_to : Fun K "last_row_up_to" "last_row_up_to" s_last_row_up_to a_last_row_up_to d_last_row_up_to
  n_last_row_up_to : Binds K d_last_row_up_to ["pieces", "starts", "high"] []
  a_carried_by : Addr
  d_carried_by : FuncData
  g_carried_by : mg "carried_by" = some (.ref a_carried_by)
  p_carried_by : PySem.W.keepIn K (.ref a_carried_by) = true
  f_carried_by : Fun K "carried_by" "carried_by" s_carried_by a_carried_by d_carried_by
  n_carried_by : Binds K d_carried_by ["pieces", "starts", "span"] []
  a_carried : Addr
  d_carried : FuncData
  g_carried : mg "carried" = some (.ref a_carried)
  p_carried : PySem.W.keepIn K (.ref a_carried) = true
  f_carried : Fun K "carried" "carried" s_carried a_carried d_carried
  n_carried : Binds K d_carried ["layout", "span"] []
  a_is_difference : Addr
  d_is_difference : FuncData
  g_is_difference : mg "is_difference" = some (.ref a_is_difference)
  p_is_difference : PySem.W.keepIn K (.ref a_is_difference) = true
  f_is_difference : Fun K "is_difference" "is_difference" s_is_difference a_is_difference d_is_difference
  n_is_difference : Binds K d_is_difference ["one", "other", "claimed"] []
  a_difference : Addr
  d_difference : FuncData
  g_difference : mg "difference" = some (.ref a_difference)
  p_difference : PySem.W.keepIn K (.ref a_difference) = true
  f_difference : Fun K "difference" "difference" s_difference a_difference d_difference
  n_difference : Binds K d_difference ["one", "other"] []
  a_Grid_columns : Addr
  d_Grid_columns : FuncData
  q_Grid_columns : Addr
  pr_Grid_columns : PropOf K a_Grid "columns" q_Grid_columns a_Grid_columns
  p_Grid_columns : PySem.W.keepIn K (.ref a_Grid_columns) = true
  f_Grid_columns : Fun K "columns" "Grid.columns" s_Grid_columns a_Grid_columns d_Grid_columns
  n_Grid_columns : Binds K d_Grid_columns ["self"] []
  a_difference_box : Addr
  d_difference_box : FuncData
  g_difference_box : mg "difference_box" = some (.ref a_difference_box)
  p_difference_box : PySem.W.keepIn K (.ref a_difference_box) = true
  f_difference_box : Fun K "difference_box" "difference_box" s_difference_box a_difference_box d_difference_box
  n_difference_box : Binds K d_difference_box ["one", "other"] []
  a_Layout___eq__ : Addr
  d_Layout___eq__ : FuncData
  m_Layout___eq__ : Meth K a_Layout "__eq__" a_Layout___eq__
  p_Layout___eq__ : PySem.W.keepIn K (.ref a_Layout___eq__) = true
  f_Layout___eq__ : Fun K "__eq__" "Layout.__eq__" s_Layout___eq__ a_Layout___eq__ d_Layout___eq__
  n_Layout___eq__ : Binds K d_Layout___eq__ ["self", "other"] []
  a_Grid___eq__ : Addr
  d_Grid___eq__ : FuncData
  m_Grid___eq__ : Meth K a_Grid "__eq__" a_Grid___eq__
  p_Grid___eq__ : PySem.W.keepIn K (.ref a_Grid___eq__) = true
  f_Grid___eq__ : Fun K "__eq__" "Grid.__eq__" s_Grid___eq__ a_Grid___eq__ d_Grid___eq__
  n_Grid___eq__ : Binds K d_Grid___eq__ ["self", "other"] []
  a_carried_box : Addr
  d_carried_box : FuncData
  g_carried_box : mg "carried_box" = some (.ref a_carried_box)
  p_carried_box : PySem.W.keepIn K (.ref a_carried_box) = true
  f_carried_box : Fun K "carried_box" "carried_box" s_carried_box a_carried_box d_carried_box
  n_carried_box : Binds K d_carried_box ["grid", "box"] []
  a_law : Addr
  d_law : FuncData
  g_law : mg "law" = some (.ref a_law)
  p_law : PySem.W.keepIn K (.ref a_law) = true
  f_law : Fun K "law" "law" s_law a_law d_law
  n_law : Binds K d_law ["_law_script"] []
  eo_Grid : EqOwn K a_Grid a_Grid___eq__
  ty_Grid : PySem.W.typeIn K (.ref a_Grid) = some (.type "type")
  eo_Layout : EqOwn K a_Layout a_Layout___eq__
  ty_Layout : PySem.W.typeIn K (.ref a_Layout) = some (.type "type")
section
variable {P : Program} {w : World} {K : PySem.W.Frag} {mg : Str → Option Value} {base : Heap}
def Txt.cl (T : Txt K mg) : Str → Option Addr := fun x => if x = "Grid" then some T.a_Grid else if x = "Layout" then some T.a_Layout else none
theorem Txt.cl_Layout (T : Txt K mg) : T.cl "Layout" = some T.a_Layout := rfl
theorem Txt.cl_Grid (T : Txt K mg) : T.cl "Grid" = some T.a_Grid := rfl
def Txt.lams (T : Txt K mg) : List (Addr × Str) := []
theorem Txt.lam (T : Txt K mg) : ∀ q P, lamQ q = true → T.cl q = some P → (P, q) ∈ T.lams := by
  intro q P h e
  unfold Txt.cl at e
  split at e
  · rename_i z; subst z; exact absurd h (by decide +kernel)
  split at e
  · rename_i z; subst z; exact absurd h (by decide +kernel)
  cases e
theorem sc__law_bag : FnScope ["_law_script", "_law_mix", "_law_figure"] ["_law_script"] (defScope s__law_bag) := ⟨rfl, rfl, rfl, by decide +kernel, rfl, by decide +kernel, by decide +kernel⟩
def B__law_bag : DS := (dSeq (dSet 1 (dC (.int 3804)))
      (dSeq (dForS (tgName 2) (dIter2 (dSl (dVar 0) dNoPart (dPart (dC (.int 63))))) (dSet 1 (dBin gMod (dBin gAdd (dBin gAdd (dBin gMul (dVar 1) (dC (.int 39373))) (dBin gMod (dVar 2) (dC (.int 2147483563)))) (dC (.int 29))) (dC (.int 2147483563)))))
      (dRet (dLstC (dConsA (dCallB gList (dConsA (dSl (dVar 0) dNoPart (dPart (dC (.int 63)))) dNilA)) (dConsA (dC (.int 0)) (dConsA (dC (.int 0)) (dConsA (dVar 1) (dConsA (dC (.int 0)) dNilA)))))))))
def F__law_bag : DF := (runF 3 1 B__law_bag)
theorem ok__law_bag (T : Txt K mg) : FnOk P w K mg base CX0 1 T.a__law_bag T.d__law_bag ["_law_script"] (spD ⟨K, T.cl⟩ F__law_bag) :=
  fnok T.f__law_bag sc__law_bag fun cdv A outer s H E hr =>
    (ss_cons (ss_let 1 sc__law_bag.nd se_int)
      (ss_cons (ss_forS PassesOwn.never rfl (si2_iter (se_slice (se_v 0) so_none (so_some se_int))) (sg_v 2 sc__law_bag.nd) (ss_one (ss_let 1 sc__law_bag.nd (se_mod (se_add (se_add (se_mul (se_v 1) se_int) (se_mod (se_v 2) se_int)) se_int) se_int))))
      (ss_one (ss_ret (se_lstC (sa_cons (se_callTy call_list_of cs_list rfl T.b_list (by decide +kernel) (sa_cons (se_slice (se_v 0) so_none (so_some se_int)) sa_nil)) (sa_cons se_int (sa_cons se_int (sa_cons (se_v 1) (sa_cons se_int sa_nil))))))))))
theorem sc__law_pull : FnScope ["_law_bag_here", "_law_size", "_law_mix", "_law_figure", "_law_found"] ["_law_bag_here", "_law_size"] (defScope s__law_pull) := ⟨rfl, rfl, rfl, by decide +kernel, rfl, by decide +kernel, by decide +kernel⟩
def B__law_pull : DS := (dSeq (dSetIx (dVar 0) (dC (.int 4)) (dBin gAdd (dBin gIx (dVar 0) (dC (.int 4))) (dC (.int 1))))
      (dSeq (dIf (dAnd (dB (dBin (gEq false) (dBin gIx (dVar 0) (dC (.int 2))) (dC (.int 0)))) (dB (dBin gLt (dBin gIx (dVar 0) (dC (.int 1))) (dCallB gLen (dConsA (dBin gIx (dVar 0) (dC (.int 0))) dNilA))))) (dSeq (dSet 3 (dBin gIx (dBin gIx (dVar 0) (dC (.int 0))) (dBin gIx (dVar 0) (dC (.int 1)))))
      (dSeq (dSetIx (dVar 0) (dC (.int 1)) (dBin gAdd (dBin gIx (dVar 0) (dC (.int 1))) (dC (.int 1))))
      (dIf (dB (dBin gGe (dVar 3) (dBin gPow (dC (.int 10)) (dC (.int 18))))) (dSetIx (dVar 0) (dC (.int 2)) (dVar 3)) (dSeq (dSet 2 (dBin gAdd (dBin gMul (dBin gIx (dVar 0) (dC (.int 3))) (dC (.int 48271))) (dBin gMul (dBin gMod (dVar 3) (dC (.int 2147483563))) (dC (.int 69621)))))
      (dSetIx (dVar 0) (dC (.int 3)) (dBin gMod (dBin gAdd (dVar 2) (dC (.int 11))) (dC (.int 2147483563)))))))) dSkip)
      (dSeq (dIf (dB (dBin gGt (dBin gIx (dVar 0) (dC (.int 2))) (dC (.int 0)))) (dSeq (dSet 4 (dBin gMod (dBin gIx (dVar 0) (dC (.int 2))) (dVar 1)))
      (dSeq (dSetIx (dVar 0) (dC (.int 2)) (dBin gDiv (dBin gIx (dVar 0) (dC (.int 2))) (dVar 1)))
      (dRet (dVar 4)))) dSkip)
      (dSeq (dSet 2 (dBin gAdd (dBin gMul (dBin gMul (dBin gIx (dVar 0) (dC (.int 3))) (dBin gIx (dVar 0) (dC (.int 3)))) (dC (.int 5))) (dBin gMul (dBin gIx (dVar 0) (dC (.int 3))) (dC (.int 39373)))))
      (dSeq (dSetIx (dVar 0) (dC (.int 3)) (dBin gMod (dBin gAdd (dVar 2) (dBin gMul (dC (.int 1013904223)) (dBin gIx (dVar 0) (dC (.int 4))))) (dC (.int 2147483563))))
      (dRet (dBin gMod (dBin gDiv (dBin gIx (dVar 0) (dC (.int 3))) (dC (.int 37))) (dVar 1))))))))
def F__law_pull : DF := (runF 5 2 B__law_pull)
theorem ok__law_pull (T : Txt K mg) : FnOk P w K mg base CX0 1 T.a__law_pull T.d__law_pull ["_law_bag_here", "_law_size"] (spD ⟨K, T.cl⟩ F__law_pull) :=
  fnok T.f__law_pull sc__law_pull fun cdv A outer s H E hr =>
    (ss_cons (ss_setIx (se_v 0) se_int (se_add (se_at (se_v 0) se_int) se_int) (pg_sub (se_v 0) se_int set_list))
      (ss_cons (ss_if (SW.st (sw_and (st_eq hr (se_at (se_v 0) se_int) se_int) (sw_and1 (st_lt (se_at (se_v 0) se_int) (se_callB call_len_seq cs_len rfl T.b_len (by decide +kernel) (sa_cons (se_at (se_v 0) se_int) sa_nil)))))) (ss_cons (ss_let 3 sc__law_pull.nd (se_at (se_at (se_v 0) se_int) (se_at (se_v 0) se_int)))
      (ss_cons (ss_setIx (se_v 0) se_int (se_add (se_at (se_v 0) se_int) se_int) (pg_sub (se_v 0) se_int set_list))
      (ss_one (ss_if (st_ge (se_v 3) (se_pow se_int se_int)) (ss_one (ss_setIx (se_v 0) se_int (se_v 3) (pg_sub (se_v 0) se_int set_list))) (ss_cons (ss_let 2 sc__law_pull.nd (se_add (se_mul (se_at (se_v 0) se_int) se_int) (se_mul (se_mod (se_v 3) se_int) se_int)))
      (ss_one (ss_setIx (se_v 0) se_int (se_mod (se_add (se_v 2) se_int) se_int) (pg_sub (se_v 0) se_int set_list)))))))) ss_nil)
      (ss_cons (ss_if (st_gt (se_at (se_v 0) se_int) se_int) (ss_cons (ss_let 4 sc__law_pull.nd (se_mod (se_at (se_v 0) se_int) (se_v 1)))
      (ss_cons (ss_setIx (se_v 0) se_int (se_div (se_at (se_v 0) se_int) (se_v 1)) (pg_sub (se_v 0) se_int set_list))
      (ss_one (ss_ret (se_v 4))))) ss_nil)
      (ss_cons (ss_let 2 sc__law_pull.nd (se_add (se_mul (se_mul (se_at (se_v 0) se_int) (se_at (se_v 0) se_int)) se_int) (se_mul (se_at (se_v 0) se_int) se_int)))
      (ss_cons (ss_setIx (se_v 0) se_int (se_mod (se_add (se_v 2) (se_mul se_int (se_at (se_v 0) se_int))) se_int) (pg_sub (se_v 0) se_int set_list))
      (ss_one (ss_ret (se_mod (se_div (se_at (se_v 0) se_int) se_int) (se_v 1)))))))))
theorem sc__law_of : FnScope ["_law_bag_here", "_law_some"] ["_law_bag_here", "_law_some"] (defScope s__law_of) := ⟨rfl, rfl, rfl, by decide +kernel, rfl, by decide +kernel, by decide +kernel⟩
def B__law_of : DS := (dRet (dBin gIx (dVar 1) (dCall F__law_pull (dConsA (dVar 0) (dConsA (dCallB gLen (dConsA (dVar 1) dNilA)) dNilA)))))
def F__law_of : DF := (runF 2 2 B__law_of)
theorem ok__law_of (T : Txt K mg) : FnOk P w K mg base CX0 2 T.a__law_of T.d__law_of ["_law_bag_here", "_law_some"] (spD ⟨K, T.cl⟩ F__law_of) :=
  fnok T.f__law_of sc__law_of fun cdv A outer s H E hr =>
    (ss_one (ss_ret (se_at (se_v 1) (se_call (ok__law_pull T) (hr.mono (by decide)) rfl T.g__law_pull T.p__law_pull T.n__law_pull (sa_cons (se_v 0) (sa_cons (se_callB call_len_seq cs_len rfl T.b_len (by decide +kernel) (sa_cons (se_v 1) sa_nil)) sa_nil))))))
theorem sc__law_near : FnScope ["_law_bag_here", "_law_at"] ["_law_bag_here"] (defScope s__law_near) := ⟨rfl, rfl, rfl, by decide +kernel, rfl, by decide +kernel, by decide +kernel⟩
def B__law_near : DS := (dSeq (dSet 1 (dCall F__law_pull (dConsA (dVar 0) (dConsA (dC (.int 5)) dNilA))))
      (dSeq (dIf (dB (dBin (gEq false) (dCall F__law_pull (dConsA (dVar 0) (dConsA (dC (.int 2)) dNilA))) (dC (.int 0)))) (dRet (dTup (dConsA (dC (.str "insert")) (dConsA (dVar 1) (dConsA (dCall F__law_of (dConsA (dVar 0) (dConsA (dLst (dConsA (dC (.int 1)) (dConsA (dC (.int 1)) (dConsA (dC (.int 2)) dNilA)))) dNilA))) dNilA))))) dSkip)
      (dRet (dTup (dConsA (dC (.str "delete")) (dConsA (dVar 1) (dConsA (dBin gAdd (dVar 1) (dCall F__law_of (dConsA (dVar 0) (dConsA (dLst (dConsA (dC (.int 0)) (dConsA (dC (.int 0)) (dConsA (dC (.int 1)) dNilA)))) dNilA)))) dNilA)))))))
def F__law_near : DF := (runF 2 1 B__law_near)
theorem ok__law_near (T : Txt K mg) : FnOk P w K mg base CX0 3 T.a__law_near T.d__law_near ["_law_bag_here"] (spD ⟨K, T.cl⟩ F__law_near) :=
  fnok T.f__law_near sc__law_near fun cdv A outer s H E hr =>
    (ss_cons (ss_let 1 sc__law_near.nd (se_call (ok__law_pull T) (hr.mono (by decide)) rfl T.g__law_pull T.p__law_pull T.n__law_pull (sa_cons (se_v 0) (sa_cons se_int sa_nil))))
      (ss_cons (ss_if (st_eq hr (se_call (ok__law_pull T) (hr.mono (by decide)) rfl T.g__law_pull T.p__law_pull T.n__law_pull (sa_cons (se_v 0) (sa_cons se_int sa_nil))) se_int) (ss_one (ss_ret (se_tup (sa_cons se_str (sa_cons (se_v 1) (sa_cons (se_call (ok__law_of T) (hr.mono (by decide)) rfl T.g__law_of T.p__law_of T.n__law_of (sa_cons (se_v 0) (sa_cons (se_lst (sa_cons se_int (sa_cons se_int (sa_cons se_int sa_nil)))) sa_nil))) sa_nil)))))) ss_nil)
      (ss_one (ss_ret (se_tup (sa_cons se_str (sa_cons (se_v 1) (sa_cons (se_add (se_v 1) (se_call (ok__law_of T) (hr.mono (by decide)) rfl T.g__law_of T.p__law_of T.n__law_of (sa_cons (se_v 0) (sa_cons (se_lst (sa_cons se_int (sa_cons se_int (sa_cons se_int sa_nil)))) sa_nil)))) sa_nil))))))))
theorem sc__law_grid_script : FnScope ["_law_bag_here", "_law_most", "_law_found", "_law_k", "_law_word", "_law_one", "_law_other"] ["_law_bag_here", "_law_most"] (defScope s__law_grid_script) := ⟨rfl, rfl, rfl, by decide +kernel, rfl, by decide +kernel, by decide +kernel⟩
def B__law_grid_script : DS := (dSeq (dSet 2 (dLstC dNilA))
      (dSeq (dFor (tgName 3) (dRng1 (dConsA (dCall F__law_pull (dConsA (dVar 0) (dConsA (dBin gAdd (dVar 1) (dC (.int 1))) dNilA))) dNilA)) (dSeq (dAsg (tgTup [4, 5, 6]) (dCall F__law_near (dConsA (dVar 0) dNilA)))
      (dDrop (dLm gApp (dVar 2) (dConsA (dTup (dConsA (dBin gAdd (dVar 4) (dCall F__law_of (dConsA (dVar 0) (dConsA (dLst (dConsA (dC (.str "_rows")) (dConsA (dC (.str "_columns")) dNilA))) dNilA)))) (dConsA (dVar 5) (dConsA (dVar 6) dNilA)))) dNilA)))))
      (dRet (dVar 2))))
def F__law_grid_script : DF := frz (runF 7 2 B__law_grid_script)
theorem ok__law_grid_script (T : Txt K mg) : FnOk P w K mg base CX0 4 T.a__law_grid_script T.d__law_grid_script ["_law_bag_here", "_law_most"] (spD ⟨K, T.cl⟩ F__law_grid_script) :=
  fn_frz (fnok T.f__law_grid_script sc__law_grid_script fun cdv A outer s H E hr =>
    (ss_cons (ss_let 2 sc__law_grid_script.nd (se_lstC sa_nil))
      (ss_cons (ss_for PassesOwn.never rfl (si_range1 rfl T.b_range (sa_cons (se_call (ok__law_pull T) (hr.mono (by decide)) rfl T.g__law_pull T.p__law_pull T.n__law_pull (sa_cons (se_v 0) (sa_cons (se_add (se_v 1) se_int) sa_nil))) sa_nil)) (sg_v 3 sc__law_grid_script.nd) (ss_cons (ss_asg (se_call (ok__law_near T) (hr.mono (by decide)) rfl T.g__law_near T.p__law_near T.n__law_near (sa_cons (se_v 0) sa_nil)) (sg_tup (is := [4, 5, 6]) rfl (pgs_cons (pg_name (i := 4) sc__law_grid_script.nd rfl (by first | exact Or.inl rfl | exact Or.inr rfl)) (pgs_cons (pg_name (i := 5) sc__law_grid_script.nd rfl (by first | exact Or.inl rfl | exact Or.inr rfl)) (pgs_cons (pg_name (i := 6) sc__law_grid_script.nd rfl (by first | exact Or.inl rfl | exact Or.inr rfl)) pgs_nil))) rfl))
      (ss_one (ss_expr (se_append (se_v 2) (se_tup (sa_cons (se_add (se_v 4) (se_call (ok__law_of T) (hr.mono (by decide)) rfl T.g__law_of T.p__law_of T.n__law_of (sa_cons (se_v 0) (sa_cons (se_lst (sa_cons se_str (sa_cons se_str sa_nil))) sa_nil)))) (sa_cons (se_v 5) (sa_cons (se_v 6) sa_nil)))))))))
      (ss_one (ss_ret (se_v 2))))))
theorem sc_without_axis : FnScope ["item"] ["item"] (defScope s_without_axis) := ⟨rfl, rfl, rfl, by decide +kernel, rfl, by decide +kernel, by decide +kernel⟩
def B_without_axis : DS := (dRet (dBin gAdd (dTup (dConsA (dBin gIx (dM1 gPart (dBin gIx (dVar 0) (dC (.int 0))) (dC (.str "_"))) (dC (.int 0))) dNilA)) (dSl (dVar 0) (dPart (dC (.int 1))) dNoPart)))
def F_without_axis : DF := (runF 1 1 B_without_axis)
theorem ok_without_axis (T : Txt K mg) : FnOk P w K mg base CX0 1 T.a_without_axis T.d_without_axis ["item"] (spD ⟨K, T.cl⟩ F_without_axis) :=
  fnok T.f_without_axis sc_without_axis fun cdv A outer s H E hr =>
    (ss_one (ss_ret (se_add (se_tup (sa_cons (se_at (se_partition (se_at (se_v 0) se_int) se_str) se_int) sa_nil)) (se_slice (se_v 0) (so_some se_int) so_none))))
theorem sc_is_number : FnScope ["value"] ["value"] (defScope s_is_number) := ⟨rfl, rfl, rfl, by decide +kernel, rfl, by decide +kernel, by decide +kernel⟩
def B_is_number : DS := (dRet (dAndV (dUn (gIsi "int") (dVar 0)) (dNotV (dUn (gIsi "bool") (dVar 0)))))
def F_is_number : DF := (runF 1 1 B_is_number)
theorem ok_is_number (T : Txt K mg) : FnOk P w K mg base CX0 1 T.a_is_number T.d_is_number ["value"] (spD ⟨K, T.cl⟩ F_is_number) :=
  fnok T.f_is_number sc_is_number fun cdv A outer s H E hr =>
    (ss_one (ss_ret (se_and (se_isi (T := "int") rfl T.b_isinstance rfl T.b_int (by decide +kernel) (se_v 0)) (se_one (se_not (se_isi (T := "bool") rfl T.b_isinstance rfl T.b_bool (by decide +kernel) (se_v 0)))))))
theorem sc_are_numbers : FnScope ["values", "many", "value"] ["values", "many"] (defScope s_are_numbers) := ⟨rfl, rfl, rfl, by decide +kernel, rfl, by decide +kernel, by decide +kernel⟩
def B_are_numbers : DS := (dRet (dAndV (dBin (gEq false) (dCallB gLen (dConsA (dVar 0) dNilA)) (dVar 1)) (dCallB gAll (dConsA (dLc [2] (tgName 2) (dIter (dVar 0)) dYes (dCall F_is_number (dConsA (dVar 2) dNilA))) dNilA))))
def F_are_numbers : DF := (runF 3 2 B_are_numbers)
theorem ok_are_numbers (T : Txt K mg) : FnOk P w K mg base CX0 2 T.a_are_numbers T.d_are_numbers ["values", "many"] (spD ⟨K, T.cl⟩ F_are_numbers) :=
  fnok T.f_are_numbers sc_are_numbers fun cdv A outer s H E hr =>
    (ss_one (ss_ret (se_and (se_eq hr (se_callB call_len_seq cs_len rfl T.b_len (by decide +kernel) (sa_cons (se_v 0) sa_nil)) (se_v 1)) (se_one (se_callB (cr_all rfl) cs_all rfl T.b_all (by decide +kernel) (sa_cons (se_lc (own := [("value", 2)]) rfl sc_are_numbers.nd (si_iter (se_v 0)) (blkOk_by (N := ["values", "many", "value"]) (sc := defScope s_are_numbers) (by decide +kernel)) (fun _ _ _ _ _ => pg_name (i := 2) sc_are_numbers.nd rfl (Or.inl rfl)) (tgok_name (by decide)) (fun _ _ _ _ _ => pts_yes) (fun _ _ _ _ _ => (se_call (ok_is_number T) (hr.mono (by decide)) rfl T.g_is_number T.p_is_number T.n_is_number (sa_cons (se_v 2) sa_nil)))) sa_nil))))))
theorem sc_is_command : FnScope ["item", "word", "number", "other"] ["item"] (defScope s_is_command) := ⟨rfl, rfl, rfl, by decide +kernel, rfl, by decide +kernel, by decide +kernel⟩
def B_is_command : DS := (dSeq (dIf (dOr (dNot (dTru (dUn (gIsi "tuple") (dVar 0)))) (dNot (dTru (dCall F_are_numbers (dConsA (dSl (dVar 0) (dPart (dC (.int 1))) dNoPart) (dConsA (dC (.int 2)) dNilA)))))) (dRet (dC (.bl false))) dSkip)
      (dSeq (dAsg (tgTup [1, 2, 3]) (dVar 0))
      (dSeq (dIf (dB (dBin (gEq false) (dVar 1) (dC (.str "insert")))) (dRet (dAndV (dBin gGe (dVar 2) (dC (.int 0))) (dBin gGe (dVar 3) (dC (.int 1))))) dSkip)
      (dRet (dAndV (dBin (gEq false) (dVar 1) (dC (.str "delete"))) (dChain gLe gLe (dC (.int 0)) (dVar 2) (dVar 3)))))))
def F_is_command : DF := (runF 4 1 B_is_command)
theorem ok_is_command (T : Txt K mg) : FnOk P w K mg base CX0 3 T.a_is_command T.d_is_command ["item"] (spD ⟨K, T.cl⟩ F_is_command) :=
  fnok T.f_is_command sc_is_command fun cdv A outer s H E hr =>
    (ss_cons (ss_if (SW.st (sw_or (st_not (st_val (se_isi (T := "tuple") rfl T.b_isinstance rfl T.b_tuple (by decide +kernel) (se_v 0)))) (sw_or1 (st_not (st_val (se_call (ok_are_numbers T) (hr.mono (by decide)) rfl T.g_are_numbers T.p_are_numbers T.n_are_numbers (sa_cons (se_slice (se_v 0) (so_some se_int) so_none) (sa_cons se_int sa_nil)))))))) (ss_one (ss_ret se_bl)) ss_nil)
      (ss_cons (ss_asg (se_v 0) (sg_tup (is := [1, 2, 3]) rfl (pgs_cons (pg_name (i := 1) sc_is_command.nd rfl (by first | exact Or.inl rfl | exact Or.inr rfl)) (pgs_cons (pg_name (i := 2) sc_is_command.nd rfl (by first | exact Or.inl rfl | exact Or.inr rfl)) (pgs_cons (pg_name (i := 3) sc_is_command.nd rfl (by first | exact Or.inl rfl | exact Or.inr rfl)) pgs_nil))) rfl))
      (ss_cons (ss_if (st_eq hr (se_v 1) se_str) (ss_one (ss_ret (se_and (se_ge (se_v 2) se_int) (se_one (se_ge (se_v 3) se_int))))) ss_nil)
      (ss_one (ss_ret (se_and (se_eq hr (se_v 1) se_str) (se_one (se_chain op_le ops_intB op_le ops_intB se_int (se_v 2) (se_v 3)))))))))
theorem sc_is_grid_command : FnScope ["item"] ["item"] (defScope s_is_grid_command) := ⟨rfl, rfl, rfl, by decide +kernel, rfl, by decide +kernel, by decide +kernel⟩
def B_is_grid_command : DS := (dSeq (dIf (dOr (dNot (dTru (dUn (gIsi "tuple") (dVar 0)))) (dOr (dB (dBin (gEq false) (dCallB gLen (dConsA (dVar 0) dNilA)) (dC (.int 0)))) (dB (dBin (gIn true) (dBin gIx (dVar 0) (dC (.int 0))) (dC (.tup [.str "insert_rows", .str "delete_rows", .str "insert_columns", .str "delete_columns"])))))) (dRet (dC (.bl false))) dSkip)
      (dRet (dCall F_is_command (dConsA (dCall F_without_axis (dConsA (dVar 0) dNilA)) dNilA))))
def F_is_grid_command : DF := (runF 1 1 B_is_grid_command)
theorem ok_is_grid_command (T : Txt K mg) : FnOk P w K mg base CX0 4 T.a_is_grid_command T.d_is_grid_command ["item"] (spD ⟨K, T.cl⟩ F_is_grid_command) :=
  fnok T.f_is_grid_command sc_is_grid_command fun cdv A outer s H E hr =>
    (ss_cons (ss_if (SW.st (sw_or (st_not (st_val (se_isi (T := "tuple") rfl T.b_isinstance rfl T.b_tuple (by decide +kernel) (se_v 0)))) (sw_or (st_eq hr (se_callB call_len_seq cs_len rfl T.b_len (by decide +kernel) (sa_cons (se_v 0) sa_nil)) se_int) (sw_or1 (st_notin hr (se_at (se_v 0) se_int) (se_const (pe_glob (v := .ref T.p_WORDS) rfl T.c_WORDS rfl) (T.w_WORDS _))))))) (ss_one (ss_ret se_bl)) ss_nil)
      (ss_one (ss_ret (se_call (ok_is_command T) (hr.mono (by decide)) rfl T.g_is_command T.p_is_command T.n_is_command (sa_cons (se_call (ok_without_axis T) (hr.mono (by decide)) rfl T.g_without_axis T.p_without_axis T.n_without_axis (sa_cons (se_v 0) sa_nil)) sa_nil)))))
theorem sc_check_grid_script : FnScope ["script", "at", "item"] ["script"] (defScope s_check_grid_script) := ⟨rfl, rfl, rfl, by decide +kernel, rfl, by decide +kernel, by decide +kernel⟩
def B_check_grid_script : DS := (dForS (tgTup [1, 2]) (dEnum2 (dVar 0)) (dIf (dNot (dTru (dCall F_is_grid_command (dConsA (dVar 2) dNilA)))) dBad dSkip))
def F_check_grid_script : DF := (runF 3 1 B_check_grid_script)
theorem ok_check_grid_script (T : Txt K mg) : FnOk P w K mg base CX0 5 T.a_check_grid_script T.d_check_grid_script ["script"] (spD ⟨K, T.cl⟩ F_check_grid_script) :=
  fnok T.f_check_grid_script sc_check_grid_script fun cdv A outer s H E hr =>
    (ss_one (ss_forS PassesOwn.never rfl (si2_enum rfl T.b_enumerate (se_v 0)) (sg_tup (is := [1, 2]) rfl (pgs_cons (pg_name (i := 1) sc_check_grid_script.nd rfl (by first | exact Or.inl rfl | exact Or.inr rfl)) (pgs_cons (pg_name (i := 2) sc_check_grid_script.nd rfl (by first | exact Or.inl rfl | exact Or.inr rfl)) pgs_nil)) rfl) (ss_one (ss_if (st_not (st_val (se_call (ok_is_grid_command T) (hr.mono (by decide)) rfl T.g_is_grid_command T.p_is_grid_command T.n_is_grid_command (sa_cons (se_v 2) sa_nil)))) (ss_one ss_never) ss_nil))))
theorem sc_axis_script : FnScope ["script", "axis", "item"] ["script", "axis"] (defScope s_axis_script) := ⟨rfl, rfl, rfl, by decide +kernel, rfl, by decide +kernel, by decide +kernel⟩
def B_axis_script : DS := (dRet (dLc [2] (tgName 2) (dIter (dVar 0)) (dTru (dM1 gEnds (dBin gIx (dVar 2) (dC (.int 0))) (dVar 1))) (dCall F_without_axis (dConsA (dVar 2) dNilA))))
def F_axis_script : DF := (runF 3 2 B_axis_script)
theorem ok_axis_script (T : Txt K mg) : FnOk P w K mg base CX0 2 T.a_axis_script T.d_axis_script ["script", "axis"] (spD ⟨K, T.cl⟩ F_axis_script) :=
  fnok T.f_axis_script sc_axis_script fun cdv A outer s H E hr =>
    (ss_one (ss_ret (se_lc (own := [("item", 2)]) rfl sc_axis_script.nd (si_iter (se_v 0)) (blkOk_by (N := ["script", "axis", "item"]) (sc := defScope s_axis_script) (by decide +kernel)) (fun _ _ _ _ _ => pg_name (i := 2) sc_axis_script.nd rfl (Or.inl rfl)) (tgok_name (by decide)) (fun _ _ _ _ _ => pts_st (cl := T.cl) (st_val (se_ends (se_at (se_v 2) se_int) (se_v 1)))) (fun _ _ _ _ _ => (se_call (ok_without_axis T) (hr.mono (by decide)) rfl T.g_without_axis T.p_without_axis T.n_without_axis (sa_cons (se_v 2) sa_nil))))))
theorem sc_check_script : FnScope ["script", "at", "item"] ["script"] (defScope s_check_script) := ⟨rfl, rfl, rfl, by decide +kernel, rfl, by decide +kernel, by decide +kernel⟩
def B_check_script : DS := (dForS (tgTup [1, 2]) (dEnum2 (dVar 0)) (dIf (dNot (dTru (dCall F_is_command (dConsA (dVar 2) dNilA)))) dBad dSkip))
def F_check_script : DF := (runF 3 1 B_check_script)
theorem ok_check_script (T : Txt K mg) : FnOk P w K mg base CX0 4 T.a_check_script T.d_check_script ["script"] (spD ⟨K, T.cl⟩ F_check_script) :=
  fnok T.f_check_script sc_check_script fun cdv A outer s H E hr =>
    (ss_one (ss_forS PassesOwn.never rfl (si2_enum rfl T.b_enumerate (se_v 0)) (sg_tup (is := [1, 2]) rfl (pgs_cons (pg_name (i := 1) sc_check_script.nd rfl (by first | exact Or.inl rfl | exact Or.inr rfl)) (pgs_cons (pg_name (i := 2) sc_check_script.nd rfl (by first | exact Or.inl rfl | exact Or.inr rfl)) pgs_nil)) rfl) (ss_one (ss_if (st_not (st_val (se_call (ok_is_command T) (hr.mono (by decide)) rfl T.g_is_command T.p_is_command T.n_is_command (sa_cons (se_v 2) sa_nil)))) (ss_one ss_never) ss_nil))))
theorem sc_Layout_pieces : FnScope ["self"] ["self"] (defScope s_Layout_pieces) := ⟨rfl, rfl, rfl, by decide +kernel, rfl, by decide +kernel, by decide +kernel⟩
def B_Layout_pieces : DS := (dRet (dCallB gList (dConsA (dFld "Layout" "parts" (dVar 0)) dNilA)))
def F_Layout_pieces : DF := (runF 1 1 B_Layout_pieces)
theorem ok_Layout_pieces (T : Txt K mg) : FnOk P w K mg base CX0 1 T.a_Layout_pieces T.d_Layout_pieces ["self"] (spD ⟨K, T.cl⟩ F_Layout_pieces) :=
  fnok T.f_Layout_pieces sc_Layout_pieces fun cdv A outer s H E hr =>
    (ss_one (ss_ret (se_callTy call_list_of cs_list rfl T.b_list (by decide +kernel) (sa_cons (se_fld (T.cl_Layout) T.k_Layout T.na_Layout_parts (se_v 0)) sa_nil))))
theorem sc_old_rows_before : FnScope ["number"] ["number"] (defScope s_old_rows_before) := ⟨rfl, rfl, rfl, by decide +kernel, rfl, by decide +kernel, by decide +kernel⟩
def B_old_rows_before : DS := (dRet (dIfE (dB (dBin gGt (dVar 0) (dC (.int 0)))) (dLst (dConsA (dTup (dConsA (dC (.str "old")) (dConsA (dC (.int 0)) (dConsA (dBin Ip.gSub (dVar 0) (dC (.int 1))) dNilA)))) dNilA)) (dLst dNilA)))
def F_old_rows_before : DF := (runF 1 1 B_old_rows_before)
theorem ok_old_rows_before (T : Txt K mg) : FnOk P w K mg base CX0 1 T.a_old_rows_before T.d_old_rows_before ["number"] (spD ⟨K, T.cl⟩ F_old_rows_before) :=
  fnok T.f_old_rows_before sc_old_rows_before fun cdv A outer s H E hr =>
    (ss_one (ss_ret (se_if (st_gt (se_v 0) se_int) (se_lst (sa_cons (se_tup (sa_cons se_str (sa_cons se_int (sa_cons (se_sub (se_v 0) se_int) sa_nil)))) sa_nil)) (se_lst sa_nil))))
theorem sc_insert_pieces : FnScope ["at", "count"] ["at", "count"] (defScope s_insert_pieces) := ⟨rfl, rfl, rfl, by decide +kernel, rfl, by decide +kernel, by decide +kernel⟩
def B_insert_pieces : DS := (dSeq (dIf (dB (dBin (gEq false) (dVar 0) (dC (.int 0)))) (dRet (dLst (dConsA (dTup (dConsA (dC (.str "top")) (dConsA (dVar 1) dNilA))) (dConsA (dTup (dConsA (dC (.str "old")) (dConsA (dC (.int 0)) (dConsA (dC .non) dNilA)))) dNilA)))) dSkip)
      (dRet (dBin gAdd (dCall F_old_rows_before (dConsA (dVar 0) dNilA)) (dLst (dConsA (dTup (dConsA (dC (.str "new")) (dConsA (dBin Ip.gSub (dVar 0) (dC (.int 1))) (dConsA (dVar 0) (dConsA (dVar 1) dNilA))))) (dConsA (dTup (dConsA (dC (.str "old")) (dConsA (dVar 0) (dConsA (dC .non) dNilA)))) dNilA))))))
def F_insert_pieces : DF := (runF 2 2 B_insert_pieces)
theorem ok_insert_pieces (T : Txt K mg) : FnOk P w K mg base CX0 2 T.a_insert_pieces T.d_insert_pieces ["at", "count"] (spD ⟨K, T.cl⟩ F_insert_pieces) :=
  fnok T.f_insert_pieces sc_insert_pieces fun cdv A outer s H E hr =>
    (ss_cons (ss_if (st_eq hr (se_v 0) se_int) (ss_one (ss_ret (se_lst (sa_cons (se_tup (sa_cons se_str (sa_cons (se_v 1) sa_nil))) (sa_cons (se_tup (sa_cons se_str (sa_cons se_int (sa_cons se_non sa_nil)))) sa_nil))))) ss_nil)
      (ss_one (ss_ret (se_add (se_call (ok_old_rows_before T) (hr.mono (by decide)) rfl T.g_old_rows_before T.p_old_rows_before T.n_old_rows_before (sa_cons (se_v 0) sa_nil)) (se_lst (sa_cons (se_tup (sa_cons se_str (sa_cons (se_sub (se_v 0) se_int) (sa_cons (se_v 0) (sa_cons (se_v 1) sa_nil))))) (sa_cons (se_tup (sa_cons se_str (sa_cons (se_v 0) (sa_cons se_non sa_nil)))) sa_nil)))))))
theorem sc_delete_pieces : FnScope ["first", "last"] ["first", "last"] (defScope s_delete_pieces) := ⟨rfl, rfl, rfl, by decide +kernel, rfl, by decide +kernel, by decide +kernel⟩
def B_delete_pieces : DS := (dRet (dBin gAdd (dCall F_old_rows_before (dConsA (dVar 0) dNilA)) (dLst (dConsA (dTup (dConsA (dC (.str "old")) (dConsA (dBin gAdd (dVar 1) (dC (.int 1))) (dConsA (dC .non) dNilA)))) dNilA))))
def F_delete_pieces : DF := (runF 2 2 B_delete_pieces)
theorem ok_delete_pieces (T : Txt K mg) : FnOk P w K mg base CX0 2 T.a_delete_pieces T.d_delete_pieces ["first", "last"] (spD ⟨K, T.cl⟩ F_delete_pieces) :=
  fnok T.f_delete_pieces sc_delete_pieces fun cdv A outer s H E hr =>
    (ss_one (ss_ret (se_add (se_call (ok_old_rows_before T) (hr.mono (by decide)) rfl T.g_old_rows_before T.p_old_rows_before T.n_old_rows_before (sa_cons (se_v 0) sa_nil)) (se_lst (sa_cons (se_tup (sa_cons se_str (sa_cons (se_add (se_v 1) se_int) (sa_cons se_non sa_nil)))) sa_nil)))))
theorem sc_command_pieces : FnScope ["command", "word", "number", "other"] ["command"] (defScope s_command_pieces) := ⟨rfl, rfl, rfl, by decide +kernel, rfl, by decide +kernel, by decide +kernel⟩
def B_command_pieces : DS := (dSeq (dAsg (tgTup [1, 2, 3]) (dVar 0))
      (dRet (dIfE (dB (dBin (gEq false) (dVar 1) (dC (.str "insert")))) (dCall F_insert_pieces (dConsA (dVar 2) (dConsA (dVar 3) dNilA))) (dCall F_delete_pieces (dConsA (dVar 2) (dConsA (dVar 3) dNilA))))))
def F_command_pieces : DF := (runF 4 1 B_command_pieces)
theorem ok_command_pieces (T : Txt K mg) : FnOk P w K mg base CX0 3 T.a_command_pieces T.d_command_pieces ["command"] (spD ⟨K, T.cl⟩ F_command_pieces) :=
  fnok T.f_command_pieces sc_command_pieces fun cdv A outer s H E hr =>
    (ss_cons (ss_asg (se_v 0) (sg_tup (is := [1, 2, 3]) rfl (pgs_cons (pg_name (i := 1) sc_command_pieces.nd rfl (by first | exact Or.inl rfl | exact Or.inr rfl)) (pgs_cons (pg_name (i := 2) sc_command_pieces.nd rfl (by first | exact Or.inl rfl | exact Or.inr rfl)) (pgs_cons (pg_name (i := 3) sc_command_pieces.nd rfl (by first | exact Or.inl rfl | exact Or.inr rfl)) pgs_nil))) rfl))
      (ss_one (ss_ret (se_if (st_eq hr (se_v 1) se_str) (se_call (ok_insert_pieces T) (hr.mono (by decide)) rfl T.g_insert_pieces T.p_insert_pieces T.n_insert_pieces (sa_cons (se_v 2) (sa_cons (se_v 3) sa_nil))) (se_call (ok_delete_pieces T) (hr.mono (by decide)) rfl T.g_delete_pieces T.p_delete_pieces T.n_delete_pieces (sa_cons (se_v 2) (sa_cons (se_v 3) sa_nil)))))))
theorem sc_row_count : FnScope ["piece"] ["piece"] (defScope s_row_count) := ⟨rfl, rfl, rfl, by decide +kernel, rfl, by decide +kernel, by decide +kernel⟩
def B_row_count : DS := (dSeq (dIf (dB (dBin (gEq false) (dBin gIx (dVar 0) (dC (.int 0))) (dC (.str "old")))) (dRet (dBin gAdd (dBin Ip.gSub (dBin gIx (dVar 0) (dC (.int 2))) (dBin gIx (dVar 0) (dC (.int 1)))) (dC (.int 1)))) dSkip)
      (dRet (dBin gIx (dVar 0) (dUn gNeg (dC (.int 1))))))
def F_row_count : DF := (runF 1 1 B_row_count)
theorem ok_row_count (T : Txt K mg) : FnOk P w K mg base CX0 1 T.a_row_count T.d_row_count ["piece"] (spD ⟨K, T.cl⟩ F_row_count) :=
  fnok T.f_row_count sc_row_count fun cdv A outer s H E hr =>
    (ss_cons (ss_if (st_eq hr (se_at (se_v 0) se_int) se_str) (ss_one (ss_ret (se_add (se_sub (se_at (se_v 0) se_int) (se_at (se_v 0) se_int)) se_int))) ss_nil)
      (ss_one (ss_ret (se_at (se_v 0) (se_neg se_int)))))
theorem sc_starts_of : FnScope ["pieces", "starts", "piece"] ["pieces"] (defScope s_starts_of) := ⟨rfl, rfl, rfl, by decide +kernel, rfl, by decide +kernel, by decide +kernel⟩
def B_starts_of : DS := (dSeq (dSet 1 (dLstC (dConsA (dC (.int 0)) dNilA)))
      (dSeq (dForS (tgName 2) (dIter2 (dSl (dVar 0) dNoPart (dPart (dUn gNeg (dC (.int 1)))))) (dDrop (dLm gApp (dVar 1) (dConsA (dBin gAdd (dBin gIx (dVar 1) (dUn gNeg (dC (.int 1)))) (dCall F_row_count (dConsA (dVar 2) dNilA))) dNilA))))
      (dRet (dVar 1))))
def F_starts_of : DF := frz (runF 3 1 B_starts_of)
theorem ok_starts_of (T : Txt K mg) : FnOk P w K mg base CX0 2 T.a_starts_of T.d_starts_of ["pieces"] (spD ⟨K, T.cl⟩ F_starts_of) :=
  fn_frz (fnok T.f_starts_of sc_starts_of fun cdv A outer s H E hr =>
    (ss_cons (ss_let 1 sc_starts_of.nd (se_lstC (sa_cons se_int sa_nil)))
      (ss_cons (ss_forS PassesOwn.never rfl (si2_iter (se_slice (se_v 0) so_none (so_some (se_neg se_int)))) (sg_v 2 sc_starts_of.nd) (ss_one (ss_expr (se_append (se_v 1) (se_add (se_at (se_v 1) (se_neg se_int)) (se_call (ok_row_count T) (hr.mono (by decide)) rfl T.g_row_count T.p_row_count T.n_row_count (sa_cons (se_v 2) sa_nil)))))))
      (ss_one (ss_ret (se_v 1))))))
theorem sc_index_of_row : FnScope ["starts", "number", "low", "high", "middle"] ["starts", "number"] (defScope s_index_of_row) := ⟨rfl, rfl, rfl, by decide +kernel, rfl, by decide +kernel, by decide +kernel⟩
def B_index_of_row : DS := (dSeq (dPar 2 3 (dConsA (dC (.int 0)) (dConsA (dCallB gLen (dConsA (dVar 0) dNilA)) dNilA)))
      (dSeq (whGo (dB (dBin gGt (dBin Ip.gSub (dVar 3) (dVar 2)) (dC (.int 1)))) (dSeq (dSet 4 (dBin gDiv (dBin gAdd (dVar 2) (dVar 3)) (dC (.int 2))))
      (dIf (dB (dBin gLe (dBin gIx (dVar 0) (dVar 4)) (dVar 1))) (dSet 2 (dVar 4)) (dSet 3 (dVar 4)))) 100)
      (dRet (dVar 2))))
def F_index_of_row : DF := (runF 5 2 B_index_of_row)
theorem ok_index_of_row (T : Txt K mg) : FnOk P w K mg base CX0 1 T.a_index_of_row T.d_index_of_row ["starts", "number"] (spD ⟨K, T.cl⟩ F_index_of_row) :=
  fnok T.f_index_of_row sc_index_of_row fun cdv A outer s H E hr =>
    (ss_cons (ss_par (i := 2) (j := 3) rfl sc_index_of_row.nd rfl rfl (by decide) rfl rfl (sa_cons se_int (sa_cons (se_callB call_len_seq cs_len rfl T.b_len (by decide +kernel) (sa_cons (se_v 0) sa_nil)) sa_nil)) (by rfl))
      (ss_cons (ss_while 100 PassesOwn.never (st_gt (se_sub (se_v 3) (se_v 2)) se_int) (ss_cons (ss_let 4 sc_index_of_row.nd (se_div (se_add (se_v 2) (se_v 3)) se_int))
      (ss_one (ss_if (st_le (se_at (se_v 0) (se_v 4)) (se_v 1)) (ss_one (ss_let 2 sc_index_of_row.nd (se_v 4))) (ss_one (ss_let 3 sc_index_of_row.nd (se_v 4)))))))
      (ss_one (ss_ret (se_v 2)))))
theorem sc_first_rows : FnScope ["piece", "many"] ["piece", "many"] (defScope s_first_rows) := ⟨rfl, rfl, rfl, by decide +kernel, rfl, by decide +kernel, by decide +kernel⟩
def B_first_rows : DS := (dSeq (dIf (dB (dBin (gEq false) (dBin gIx (dVar 0) (dC (.int 0))) (dC (.str "old")))) (dRet (dTup (dConsA (dC (.str "old")) (dConsA (dBin gIx (dVar 0) (dC (.int 1))) (dConsA (dBin Ip.gSub (dBin gAdd (dBin gIx (dVar 0) (dC (.int 1))) (dVar 1)) (dC (.int 1))) dNilA))))) dSkip)
      (dRet (dBin gAdd (dSl (dVar 0) dNoPart (dPart (dUn gNeg (dC (.int 1))))) (dTup (dConsA (dVar 1) dNilA)))))
def F_first_rows : DF := (runF 2 2 B_first_rows)
theorem ok_first_rows (T : Txt K mg) : FnOk P w K mg base CX0 1 T.a_first_rows T.d_first_rows ["piece", "many"] (spD ⟨K, T.cl⟩ F_first_rows) :=
  fnok T.f_first_rows sc_first_rows fun cdv A outer s H E hr =>
    (ss_cons (ss_if (st_eq hr (se_at (se_v 0) se_int) se_str) (ss_one (ss_ret (se_tup (sa_cons se_str (sa_cons (se_at (se_v 0) se_int) (sa_cons (se_sub (se_add (se_at (se_v 0) se_int) (se_v 1)) se_int) sa_nil)))))) ss_nil)
      (ss_one (ss_ret (se_add (se_slice (se_v 0) so_none (so_some (se_neg se_int))) (se_tup (sa_cons (se_v 1) sa_nil))))))
theorem sc_without_first_rows : FnScope ["piece", "many"] ["piece", "many"] (defScope s_without_first_rows) := ⟨rfl, rfl, rfl, by decide +kernel, rfl, by decide +kernel, by decide +kernel⟩
def B_without_first_rows : DS := (dSeq (dIf (dB (dBin (gEq false) (dBin gIx (dVar 0) (dC (.int 0))) (dC (.str "old")))) (dRet (dTup (dConsA (dC (.str "old")) (dConsA (dBin gAdd (dBin gIx (dVar 0) (dC (.int 1))) (dVar 1)) (dConsA (dBin gIx (dVar 0) (dC (.int 2))) dNilA))))) dSkip)
      (dRet (dBin gAdd (dSl (dVar 0) dNoPart (dPart (dUn gNeg (dC (.int 1))))) (dTup (dConsA (dBin Ip.gSub (dBin gIx (dVar 0) (dUn gNeg (dC (.int 1)))) (dVar 1)) dNilA)))))
def F_without_first_rows : DF := (runF 2 2 B_without_first_rows)
theorem ok_without_first_rows (T : Txt K mg) : FnOk P w K mg base CX0 1 T.a_without_first_rows T.d_without_first_rows ["piece", "many"] (spD ⟨K, T.cl⟩ F_without_first_rows) :=
  fnok T.f_without_first_rows sc_without_first_rows fun cdv A outer s H E hr =>
    (ss_cons (ss_if (st_eq hr (se_at (se_v 0) se_int) se_str) (ss_one (ss_ret (se_tup (sa_cons se_str (sa_cons (se_add (se_at (se_v 0) se_int) (se_v 1)) (sa_cons (se_at (se_v 0) se_int) sa_nil)))))) ss_nil)
      (ss_one (ss_ret (se_add (se_slice (se_v 0) so_none (so_some (se_neg se_int))) (se_tup (sa_cons (se_sub (se_at (se_v 0) (se_neg se_int)) (se_v 1)) sa_nil))))))
theorem sc_part : FnScope ["pieces", "starts", "first", "last", "begin", "end", "result"] ["pieces", "starts", "first", "last"] (defScope s_part) := ⟨rfl, rfl, rfl, by decide +kernel, rfl, by decide +kernel, by decide +kernel⟩
def B_part : DS := (dSeq (dSet 4 (dCall F_index_of_row (dConsA (dVar 1) (dConsA (dVar 2) dNilA))))
      (dSeq (dSet 5 (dIfE (dB (dBin (gIs false) (dVar 3) (dC .non))) (dBin Ip.gSub (dCallB gLen (dConsA (dVar 0) dNilA)) (dC (.int 1))) (dCall F_index_of_row (dConsA (dVar 1) (dConsA (dVar 3) dNilA)))))
      (dSeq (dSet 6 (dCallB gListC (dConsA (dSl (dVar 0) (dPart (dVar 4)) (dPart (dBin gAdd (dVar 5) (dC (.int 1))))) dNilA)))
      (dSeq (dIf (dB (dBin (gIs true) (dVar 3) (dC .non))) (dSetIx (dVar 6) (dUn gNeg (dC (.int 1))) (dCall F_first_rows (dConsA (dBin gIx (dVar 6) (dUn gNeg (dC (.int 1)))) (dConsA (dBin gAdd (dBin Ip.gSub (dVar 3) (dBin gIx (dVar 1) (dVar 5))) (dC (.int 1))) dNilA)))) dSkip)
      (dSeq (dSetIx (dVar 6) (dC (.int 0)) (dCall F_without_first_rows (dConsA (dBin gIx (dVar 6) (dC (.int 0))) (dConsA (dBin Ip.gSub (dVar 2) (dBin gIx (dVar 1) (dVar 4))) dNilA))))
      (dRet (dVar 6)))))))
def F_part : DF := frz (runF 7 4 B_part)
theorem ok_part (T : Txt K mg) : FnOk P w K mg base CX0 2 T.a_part T.d_part ["pieces", "starts", "first", "last"] (spD ⟨K, T.cl⟩ F_part) :=
  fn_frz (fnok T.f_part sc_part fun cdv A outer s H E hr =>
    (ss_cons (ss_let 4 sc_part.nd (se_call (ok_index_of_row T) (hr.mono (by decide)) rfl T.g_index_of_row T.p_index_of_row T.n_index_of_row (sa_cons (se_v 1) (sa_cons (se_v 2) sa_nil))))
      (ss_cons (ss_let 5 sc_part.nd (se_if (st_is (se_v 3) se_non) (se_sub (se_callB call_len_seq cs_len rfl T.b_len (by decide +kernel) (sa_cons (se_v 0) sa_nil)) se_int) (se_call (ok_index_of_row T) (hr.mono (by decide)) rfl T.g_index_of_row T.p_index_of_row T.n_index_of_row (sa_cons (se_v 1) (sa_cons (se_v 3) sa_nil)))))
      (ss_cons (ss_let 6 sc_part.nd (se_callTy call_list_of cs_listC rfl T.b_list (by decide +kernel) (sa_cons (se_slice (se_v 0) (so_some (se_v 4)) (so_some (se_add (se_v 5) se_int))) sa_nil)))
      (ss_cons (ss_if (st_isnot (se_v 3) se_non) (ss_one (ss_setIx (se_v 6) (se_neg se_int) (se_call (ok_first_rows T) (hr.mono (by decide)) rfl T.g_first_rows T.p_first_rows T.n_first_rows (sa_cons (se_at (se_v 6) (se_neg se_int)) (sa_cons (se_add (se_sub (se_v 3) (se_at (se_v 1) (se_v 5))) se_int) sa_nil))) (pg_sub (se_v 6) (se_neg se_int) set_list))) ss_nil)
      (ss_cons (ss_setIx (se_v 6) se_int (se_call (ok_without_first_rows T) (hr.mono (by decide)) rfl T.g_without_first_rows T.p_without_first_rows T.n_without_first_rows (sa_cons (se_at (se_v 6) se_int) (sa_cons (se_sub (se_v 2) (se_at (se_v 1) (se_v 4))) sa_nil))) (pg_sub (se_v 6) se_int set_list))
      (ss_one (ss_ret (se_v 6)))))))))
theorem sc_label_in : FnScope ["piece", "offset"] ["piece", "offset"] (defScope s_label_in) := ⟨rfl, rfl, rfl, by decide +kernel, rfl, by decide +kernel, by decide +kernel⟩
def B_label_in : DS := (dSeq (dIf (dB (dBin (gEq false) (dBin gIx (dVar 0) (dC (.int 0))) (dC (.str "top")))) (dRet (dC .non)) dSkip)
      (dSeq (dIf (dB (dBin (gEq false) (dBin gIx (dVar 0) (dC (.int 0))) (dC (.str "old")))) (dRet (dTup (dConsA (dBin gAdd (dBin gIx (dVar 0) (dC (.int 1))) (dVar 1)) (dConsA (dBin gAdd (dBin gIx (dVar 0) (dC (.int 1))) (dVar 1)) dNilA)))) dSkip)
      (dRet (dTup (dConsA (dBin gIx (dVar 0) (dC (.int 1))) (dConsA (dBin gIx (dVar 0) (dC (.int 2))) dNilA))))))
def F_label_in : DF := (runF 2 2 B_label_in)
theorem ok_label_in (T : Txt K mg) : FnOk P w K mg base CX0 1 T.a_label_in T.d_label_in ["piece", "offset"] (spD ⟨K, T.cl⟩ F_label_in) :=
  fnok T.f_label_in sc_label_in fun cdv A outer s H E hr =>
    (ss_cons (ss_if (st_eq hr (se_at (se_v 0) se_int) se_str) (ss_one (ss_ret se_non)) ss_nil)
      (ss_cons (ss_if (st_eq hr (se_at (se_v 0) se_int) se_str) (ss_one (ss_ret (se_tup (sa_cons (se_add (se_at (se_v 0) se_int) (se_v 1)) (sa_cons (se_add (se_at (se_v 0) se_int) (se_v 1)) sa_nil))))) ss_nil)
      (ss_one (ss_ret (se_tup (sa_cons (se_at (se_v 0) se_int) (sa_cons (se_at (se_v 0) se_int) sa_nil)))))))
theorem sc_label_at : FnScope ["pieces", "starts", "number", "index"] ["pieces", "starts", "number"] (defScope s_label_at) := ⟨rfl, rfl, rfl, by decide +kernel, rfl, by decide +kernel, by decide +kernel⟩
def B_label_at : DS := (dSeq (dSet 3 (dCall F_index_of_row (dConsA (dVar 1) (dConsA (dVar 2) dNilA))))
      (dRet (dCall F_label_in (dConsA (dBin gIx (dVar 0) (dVar 3)) (dConsA (dBin Ip.gSub (dVar 2) (dBin gIx (dVar 1) (dVar 3))) dNilA)))))
def F_label_at : DF := (runF 4 3 B_label_at)
theorem ok_label_at (T : Txt K mg) : FnOk P w K mg base CX0 2 T.a_label_at T.d_label_at ["pieces", "starts", "number"] (spD ⟨K, T.cl⟩ F_label_at) :=
  fnok T.f_label_at sc_label_at fun cdv A outer s H E hr =>
    (ss_cons (ss_let 3 sc_label_at.nd (se_call (ok_index_of_row T) (hr.mono (by decide)) rfl T.g_index_of_row T.p_index_of_row T.n_index_of_row (sa_cons (se_v 1) (sa_cons (se_v 2) sa_nil))))
      (ss_one (ss_ret (se_call (ok_label_in T) (hr.mono (by decide)) rfl T.g_label_in T.p_label_in T.n_label_in (sa_cons (se_at (se_v 0) (se_v 3)) (sa_cons (se_sub (se_v 2) (se_at (se_v 1) (se_v 3))) sa_nil))))))
theorem sc_renamed : FnScope ["pieces", "starts", "piece", "above", "below"] ["pieces", "starts", "piece"] (defScope s_renamed) := ⟨rfl, rfl, rfl, by decide +kernel, rfl, by decide +kernel, by decide +kernel⟩
def B_renamed : DS := (dSeq (dSet 3 (dCall F_label_at (dConsA (dVar 0) (dConsA (dVar 1) (dConsA (dBin gIx (dVar 2) (dC (.int 1))) dNilA)))))
      (dSeq (dIf (dB (dBin (gIs false) (dVar 3) (dC .non))) (dRet (dTup (dConsA (dC (.str "top")) (dConsA (dBin gIx (dVar 2) (dC (.int 3))) dNilA)))) dSkip)
      (dSeq (dSet 4 (dCall F_label_at (dConsA (dVar 0) (dConsA (dVar 1) (dConsA (dBin gIx (dVar 2) (dC (.int 2))) dNilA)))))
      (dRet (dTup (dConsA (dC (.str "new")) (dConsA (dBin gIx (dVar 3) (dC (.int 0))) (dConsA (dBin gIx (dVar 4) (dC (.int 1))) (dConsA (dBin gIx (dVar 2) (dC (.int 3))) dNilA)))))))))
def F_renamed : DF := (runF 5 3 B_renamed)
theorem ok_renamed (T : Txt K mg) : FnOk P w K mg base CX0 3 T.a_renamed T.d_renamed ["pieces", "starts", "piece"] (spD ⟨K, T.cl⟩ F_renamed) :=
  fnok T.f_renamed sc_renamed fun cdv A outer s H E hr =>
    (ss_cons (ss_let 3 sc_renamed.nd (se_call (ok_label_at T) (hr.mono (by decide)) rfl T.g_label_at T.p_label_at T.n_label_at (sa_cons (se_v 0) (sa_cons (se_v 1) (sa_cons (se_at (se_v 2) se_int) sa_nil)))))
      (ss_cons (ss_if (st_is (se_v 3) se_non) (ss_one (ss_ret (se_tup (sa_cons se_str (sa_cons (se_at (se_v 2) se_int) sa_nil))))) ss_nil)
      (ss_cons (ss_let 4 sc_renamed.nd (se_call (ok_label_at T) (hr.mono (by decide)) rfl T.g_label_at T.p_label_at T.n_label_at (sa_cons (se_v 0) (sa_cons (se_v 1) (sa_cons (se_at (se_v 2) se_int) sa_nil)))))
      (ss_one (ss_ret (se_tup (sa_cons se_str (sa_cons (se_at (se_v 3) se_int) (sa_cons (se_at (se_v 4) se_int) (sa_cons (se_at (se_v 2) se_int) sa_nil))))))))))
theorem sc_joined : FnScope ["one", "other"] ["one", "other"] (defScope s_joined) := ⟨rfl, rfl, rfl, by decide +kernel, rfl, by decide +kernel, by decide +kernel⟩
def B_joined : DS := (dSeq (dIf (dB (dBin (gEq true) (dBin gIx (dVar 0) (dC (.int 0))) (dBin gIx (dVar 1) (dC (.int 0))))) (dRet (dC .non)) dSkip)
      (dSeq (dIf (dB (dBin (gEq false) (dBin gIx (dVar 0) (dC (.int 0))) (dC (.str "top")))) (dRet (dTup (dConsA (dC (.str "top")) (dConsA (dBin gAdd (dBin gIx (dVar 0) (dC (.int 1))) (dBin gIx (dVar 1) (dC (.int 1)))) dNilA)))) dSkip)
      (dSeq (dIf (dB (dBin (gEq false) (dBin gIx (dVar 0) (dC (.int 0))) (dC (.str "old")))) (dRet (dIfE (dB (dBin (gEq false) (dBin gAdd (dBin gIx (dVar 0) (dC (.int 2))) (dC (.int 1))) (dBin gIx (dVar 1) (dC (.int 1))))) (dTup (dConsA (dC (.str "old")) (dConsA (dBin gIx (dVar 0) (dC (.int 1))) (dConsA (dBin gIx (dVar 1) (dC (.int 2))) dNilA)))) (dC .non))) dSkip)
      (dSeq (dIf (dB (dBin (gEq false) (dSl (dVar 0) (dPart (dC (.int 1))) (dPart (dC (.int 3)))) (dSl (dVar 1) (dPart (dC (.int 1))) (dPart (dC (.int 3)))))) (dRet (dTup (dConsA (dC (.str "new")) (dConsA (dBin gIx (dVar 0) (dC (.int 1))) (dConsA (dBin gIx (dVar 0) (dC (.int 2))) (dConsA (dBin gAdd (dBin gIx (dVar 0) (dC (.int 3))) (dBin gIx (dVar 1) (dC (.int 3)))) dNilA)))))) dSkip)
      (dRet (dC .non))))))
def F_joined : DF := (runF 2 2 B_joined)
theorem ok_joined (T : Txt K mg) : FnOk P w K mg base CX0 1 T.a_joined T.d_joined ["one", "other"] (spD ⟨K, T.cl⟩ F_joined) :=
  fnok T.f_joined sc_joined fun cdv A outer s H E hr =>
    (ss_cons (ss_if (st_ne hr (se_at (se_v 0) se_int) (se_at (se_v 1) se_int)) (ss_one (ss_ret se_non)) ss_nil)
      (ss_cons (ss_if (st_eq hr (se_at (se_v 0) se_int) se_str) (ss_one (ss_ret (se_tup (sa_cons se_str (sa_cons (se_add (se_at (se_v 0) se_int) (se_at (se_v 1) se_int)) sa_nil))))) ss_nil)
      (ss_cons (ss_if (st_eq hr (se_at (se_v 0) se_int) se_str) (ss_one (ss_ret (se_if (st_eq hr (se_add (se_at (se_v 0) se_int) se_int) (se_at (se_v 1) se_int)) (se_tup (sa_cons se_str (sa_cons (se_at (se_v 0) se_int) (sa_cons (se_at (se_v 1) se_int) sa_nil)))) se_non))) ss_nil)
      (ss_cons (ss_if (st_eq hr (se_slice (se_v 0) (so_some se_int) (so_some se_int)) (se_slice (se_v 1) (so_some se_int) (so_some se_int))) (ss_one (ss_ret (se_tup (sa_cons se_str (sa_cons (se_at (se_v 0) se_int) (sa_cons (se_at (se_v 0) se_int) (sa_cons (se_add (se_at (se_v 0) se_int) (se_at (se_v 1) se_int)) sa_nil))))))) ss_nil)
      (ss_one (ss_ret se_non))))))
theorem sc_normal_form : FnScope ["pieces", "result", "piece", "both"] ["pieces"] (defScope s_normal_form) := ⟨rfl, rfl, rfl, by decide +kernel, rfl, by decide +kernel, by decide +kernel⟩
def B_normal_form : DS := (dSeq (dSet 1 (dLstC dNilA))
      (dSeq (dForS (tgName 2) (dIter2 (dVar 0)) (dSeq (dSet 3 (dIfE (dTru (dVar 1)) (dCall F_joined (dConsA (dBin gIx (dVar 1) (dUn gNeg (dC (.int 1)))) (dConsA (dVar 2) dNilA))) (dC .non)))
      (dIf (dB (dBin (gIs false) (dVar 3) (dC .non))) (dDrop (dLm gApp (dVar 1) (dConsA (dVar 2) dNilA))) (dSetIx (dVar 1) (dUn gNeg (dC (.int 1))) (dVar 3)))))
      (dRet (dVar 1))))
def F_normal_form : DF := frz (runF 4 1 B_normal_form)
theorem ok_normal_form (T : Txt K mg) : FnOk P w K mg base CX0 2 T.a_normal_form T.d_normal_form ["pieces"] (spD ⟨K, T.cl⟩ F_normal_form) :=
  fn_frz (fnok T.f_normal_form sc_normal_form fun cdv A outer s H E hr =>
    (ss_cons (ss_let 1 sc_normal_form.nd (se_lstC sa_nil))
      (ss_cons (ss_forS PassesOwn.never rfl (si2_iter (se_v 0)) (sg_v 2 sc_normal_form.nd) (ss_cons (ss_let 3 sc_normal_form.nd (se_if (st_val (se_v 1)) (se_call (ok_joined T) (hr.mono (by decide)) rfl T.g_joined T.p_joined T.n_joined (sa_cons (se_at (se_v 1) (se_neg se_int)) (sa_cons (se_v 2) sa_nil))) se_non))
      (ss_one (ss_if (st_is (se_v 3) se_non) (ss_one (ss_expr (se_append (se_v 1) (se_v 2)))) (ss_one (ss_setIx (se_v 1) (se_neg se_int) (se_v 3) (pg_sub (se_v 1) (se_neg se_int) set_list)))))))
      (ss_one (ss_ret (se_v 1))))))
theorem sc_followed : FnScope ["first", "second", "starts", "result", "piece"] ["first", "second"] (defScope s_followed) := ⟨rfl, rfl, rfl, by decide +kernel, rfl, by decide +kernel, by decide +kernel⟩
def B_followed : DS := (dSeq (dSet 2 (dCall F_starts_of (dConsA (dVar 0) dNilA)))
      (dSeq (dSet 3 (dLstC dNilA))
      (dSeq (dForS (tgName 4) (dIter2 (dVar 1)) (dIf (dB (dBin (gEq false) (dBin gIx (dVar 4) (dC (.int 0))) (dC (.str "old")))) (dDrop (dLm gExt (dVar 3) (dConsA (dCall F_part (dConsA (dVar 0) (dConsA (dVar 2) (dConsA (dBin gIx (dVar 4) (dC (.int 1))) (dConsA (dBin gIx (dVar 4) (dC (.int 2))) dNilA))))) dNilA))) (dIf (dB (dBin (gEq false) (dBin gIx (dVar 4) (dC (.int 0))) (dC (.str "new")))) (dDrop (dLm gApp (dVar 3) (dConsA (dCall F_renamed (dConsA (dVar 0) (dConsA (dVar 2) (dConsA (dVar 4) dNilA)))) dNilA))) (dDrop (dLm gApp (dVar 3) (dConsA (dVar 4) dNilA))))))
      (dRet (dCall F_normal_form (dConsA (dVar 3) dNilA))))))
def F_followed : DF := frz (runF 5 2 B_followed)
theorem ok_followed (T : Txt K mg) : FnOk P w K mg base CX0 4 T.a_followed T.d_followed ["first", "second"] (spD ⟨K, T.cl⟩ F_followed) :=
  fn_frz (fnok T.f_followed sc_followed fun cdv A outer s H E hr =>
    (ss_cons (ss_let 2 sc_followed.nd (se_call (ok_starts_of T) (hr.mono (by decide)) rfl T.g_starts_of T.p_starts_of T.n_starts_of (sa_cons (se_v 0) sa_nil)))
      (ss_cons (ss_let 3 sc_followed.nd (se_lstC sa_nil))
      (ss_cons (ss_forS PassesOwn.never rfl (si2_iter (se_v 1)) (sg_v 4 sc_followed.nd) (ss_one (ss_if (st_eq hr (se_at (se_v 4) se_int) se_str) (ss_one (ss_expr (se_extend (se_v 3) (se_call (ok_part T) (hr.mono (by decide)) rfl T.g_part T.p_part T.n_part (sa_cons (se_v 0) (sa_cons (se_v 2) (sa_cons (se_at (se_v 4) se_int) (sa_cons (se_at (se_v 4) se_int) sa_nil)))))))) (ss_one (ss_if (st_eq hr (se_at (se_v 4) se_int) se_str) (ss_one (ss_expr (se_append (se_v 3) (se_call (ok_renamed T) (hr.mono (by decide)) rfl T.g_renamed T.p_renamed T.n_renamed (sa_cons (se_v 0) (sa_cons (se_v 2) (sa_cons (se_v 4) sa_nil))))))) (ss_one (ss_expr (se_append (se_v 3) (se_v 4)))))))))
      (ss_one (ss_ret (se_call (ok_normal_form T) (hr.mono (by decide)) rfl T.g_normal_form T.p_normal_form T.n_normal_form (sa_cons (se_v 3) sa_nil))))))))
theorem sc_pieces_behind : FnScope ["script", "pieces", "command"] ["script", "pieces"] (defScope s_pieces_behind) := ⟨rfl, rfl, rfl, by decide +kernel, rfl, by decide +kernel, by decide +kernel⟩
def B_pieces_behind : DS := (dSeq (dForS (tgName 2) (dIter2 (dVar 0)) (dSet 1 (dCall F_followed (dConsA (dVar 1) (dConsA (dCall F_command_pieces (dConsA (dVar 2) dNilA)) dNilA)))))
      (dRet (dVar 1)))
def F_pieces_behind : DF := (runF 3 2 B_pieces_behind)
theorem ok_pieces_behind (T : Txt K mg) : FnOk P w K mg base CX0 5 T.a_pieces_behind T.d_pieces_behind ["script", "pieces"] (spD ⟨K, T.cl⟩ F_pieces_behind) :=
  fnok T.f_pieces_behind sc_pieces_behind fun cdv A outer s H E hr =>
    (ss_cons (ss_forS PassesOwn.never rfl (si2_iter (se_v 0)) (sg_v 2 sc_pieces_behind.nd) (ss_one (ss_let 1 sc_pieces_behind.nd (se_call (ok_followed T) (hr.mono (by decide)) rfl T.g_followed T.p_followed T.n_followed (sa_cons (se_v 1) (sa_cons (se_call (ok_command_pieces T) (hr.mono (by decide)) rfl T.g_command_pieces T.p_command_pieces T.n_command_pieces (sa_cons (se_v 2) sa_nil)) sa_nil))))))
      (ss_one (ss_ret (se_v 1))))
theorem sc_is_range : FnScope ["pair", "first", "last"] ["pair"] (defScope s_is_range) := ⟨rfl, rfl, rfl, by decide +kernel, rfl, by decide +kernel, by decide +kernel⟩
def B_is_range : DS := (dSeq (dIf (dOr (dNot (dTru (dUn (gIsi "tuple") (dVar 0)))) (dB (dBin (gEq true) (dCallB gLen (dConsA (dVar 0) dNilA)) (dC (.int 2))))) (dRet (dC (.bl false))) dSkip)
      (dSeq (dAsg (tgTup [1, 2]) (dVar 0))
      (dSeq (dIf (dOr (dNot (dTru (dCall F_is_number (dConsA (dVar 1) dNilA)))) (dB (dBin gLt (dVar 1) (dC (.int 0))))) (dRet (dC (.bl false))) dSkip)
      (dRet (dOrV (dBin (gIs false) (dVar 2) (dC .non)) (dAndV (dCall F_is_number (dConsA (dVar 2) dNilA)) (dBin gLe (dVar 1) (dVar 2))))))))
def F_is_range : DF := (runF 3 1 B_is_range)
theorem ok_is_range (T : Txt K mg) : FnOk P w K mg base CX0 2 T.a_is_range T.d_is_range ["pair"] (spD ⟨K, T.cl⟩ F_is_range) :=
  fnok T.f_is_range sc_is_range fun cdv A outer s H E hr =>
    (ss_cons (ss_if (SW.st (sw_or (st_not (st_val (se_isi (T := "tuple") rfl T.b_isinstance rfl T.b_tuple (by decide +kernel) (se_v 0)))) (sw_or1 (st_ne hr (se_callB call_len_seq cs_len rfl T.b_len (by decide +kernel) (sa_cons (se_v 0) sa_nil)) se_int)))) (ss_one (ss_ret se_bl)) ss_nil)
      (ss_cons (ss_asg (se_v 0) (sg_tup (is := [1, 2]) rfl (pgs_cons (pg_name (i := 1) sc_is_range.nd rfl (by first | exact Or.inl rfl | exact Or.inr rfl)) (pgs_cons (pg_name (i := 2) sc_is_range.nd rfl (by first | exact Or.inl rfl | exact Or.inr rfl)) pgs_nil)) rfl))
      (ss_cons (ss_if (SW.st (sw_or (st_not (st_val (se_call (ok_is_number T) (hr.mono (by decide)) rfl T.g_is_number T.p_is_number T.n_is_number (sa_cons (se_v 1) sa_nil)))) (sw_or1 (st_lt (se_v 1) se_int)))) (ss_one (ss_ret se_bl)) ss_nil)
      (ss_one (ss_ret (se_or (se_is (se_v 2) se_non) (se_one (se_and (se_call (ok_is_number T) (hr.mono (by decide)) rfl T.g_is_number T.p_is_number T.n_is_number (sa_cons (se_v 2) sa_nil)) (se_one (se_le (se_v 1) (se_v 2)))))))))))
theorem sc_is_piece : FnScope ["piece", "word", "rest"] ["piece"] (defScope s_is_piece) := ⟨rfl, rfl, rfl, by decide +kernel, rfl, by decide +kernel, by decide +kernel⟩
def B_is_piece : DS := (dSeq (dIf (dOr (dNot (dTru (dUn (gIsi "tuple") (dVar 0)))) (dB (dBin (gEq false) (dCallB gLen (dConsA (dVar 0) dNilA)) (dC (.int 0))))) (dRet (dC (.bl false))) dSkip)
      (dSeq (dPar 1 2 (dConsA (dBin gIx (dVar 0) (dC (.int 0))) (dConsA (dSl (dVar 0) (dPart (dC (.int 1))) dNoPart) dNilA)))
      (dSeq (dIf (dB (dBin (gEq false) (dVar 1) (dC (.str "top")))) (dRet (dAndV (dCall F_are_numbers (dConsA (dVar 2) (dConsA (dC (.int 1)) dNilA))) (dBin gGe (dBin gIx (dVar 2) (dC (.int 0))) (dC (.int 1))))) dSkip)
      (dSeq (dIf (dB (dBin (gEq false) (dVar 1) (dC (.str "old")))) (dRet (dCall F_is_range (dConsA (dVar 2) dNilA))) dSkip)
      (dSeq (dIf (dB (dBin (gEq false) (dVar 1) (dC (.str "new")))) (dRet (dAndV (dCall F_are_numbers (dConsA (dVar 2) (dConsA (dC (.int 3)) dNilA))) (dAndV (dChain gLe gLt (dC (.int 0)) (dBin gIx (dVar 2) (dC (.int 0))) (dBin gIx (dVar 2) (dC (.int 1)))) (dBin gGe (dBin gIx (dVar 2) (dC (.int 2))) (dC (.int 1)))))) dSkip)
      (dRet (dC (.bl false))))))))
def F_is_piece : DF := (runF 3 1 B_is_piece)
theorem ok_is_piece (T : Txt K mg) : FnOk P w K mg base CX0 3 T.a_is_piece T.d_is_piece ["piece"] (spD ⟨K, T.cl⟩ F_is_piece) :=
  fnok T.f_is_piece sc_is_piece fun cdv A outer s H E hr =>
    (ss_cons (ss_if (SW.st (sw_or (st_not (st_val (se_isi (T := "tuple") rfl T.b_isinstance rfl T.b_tuple (by decide +kernel) (se_v 0)))) (sw_or1 (st_eq hr (se_callB call_len_seq cs_len rfl T.b_len (by decide +kernel) (sa_cons (se_v 0) sa_nil)) se_int)))) (ss_one (ss_ret se_bl)) ss_nil)
      (ss_cons (ss_par (i := 1) (j := 2) rfl sc_is_piece.nd rfl rfl (by decide) rfl rfl (sa_cons (se_at (se_v 0) se_int) (sa_cons (se_slice (se_v 0) (so_some se_int) so_none) sa_nil)) (by rfl))
      (ss_cons (ss_if (st_eq hr (se_v 1) se_str) (ss_one (ss_ret (se_and (se_call (ok_are_numbers T) (hr.mono (by decide)) rfl T.g_are_numbers T.p_are_numbers T.n_are_numbers (sa_cons (se_v 2) (sa_cons se_int sa_nil))) (se_one (se_ge (se_at (se_v 2) se_int) se_int))))) ss_nil)
      (ss_cons (ss_if (st_eq hr (se_v 1) se_str) (ss_one (ss_ret (se_call (ok_is_range T) (hr.mono (by decide)) rfl T.g_is_range T.p_is_range T.n_is_range (sa_cons (se_v 2) sa_nil)))) ss_nil)
      (ss_cons (ss_if (st_eq hr (se_v 1) se_str) (ss_one (ss_ret (se_and (se_call (ok_are_numbers T) (hr.mono (by decide)) rfl T.g_are_numbers T.p_are_numbers T.n_are_numbers (sa_cons (se_v 2) (sa_cons se_int sa_nil))) (se_and (se_chain op_le ops_intB op_lt ops_intB se_int (se_at (se_v 2) se_int) (se_at (se_v 2) se_int)) (se_one (se_ge (se_at (se_v 2) se_int) se_int)))))) ss_nil)
      (ss_one (ss_ret se_bl)))))))
theorem sc_is_open : FnScope ["piece"] ["piece"] (defScope s_is_open) := ⟨rfl, rfl, rfl, by decide +kernel, rfl, by decide +kernel, by decide +kernel⟩
def B_is_open : DS := (dRet (dAndV (dBin (gEq false) (dBin gIx (dVar 0) (dC (.int 0))) (dC (.str "old"))) (dBin (gIs false) (dBin gIx (dVar 0) (dC (.int 2))) (dC .non))))
def F_is_open : DF := (runF 1 1 B_is_open)
theorem ok_is_open (T : Txt K mg) : FnOk P w K mg base CX0 1 T.a_is_open T.d_is_open ["piece"] (spD ⟨K, T.cl⟩ F_is_open) :=
  fnok T.f_is_open sc_is_open fun cdv A outer s H E hr =>
    (ss_one (ss_ret (se_and (se_eq hr (se_at (se_v 0) se_int) se_str) (se_one (se_is (se_at (se_v 0) se_int) se_non)))))
theorem sc_first_label : FnScope ["piece"] ["piece"] (defScope s_first_label) := ⟨rfl, rfl, rfl, by decide +kernel, rfl, by decide +kernel, by decide +kernel⟩
def B_first_label : DS := (dRet (dCall F_label_in (dConsA (dVar 0) (dConsA (dC (.int 0)) dNilA))))
def F_first_label : DF := (runF 1 1 B_first_label)
theorem ok_first_label (T : Txt K mg) : FnOk P w K mg base CX0 2 T.a_first_label T.d_first_label ["piece"] (spD ⟨K, T.cl⟩ F_first_label) :=
  fnok T.f_first_label sc_first_label fun cdv A outer s H E hr =>
    (ss_one (ss_ret (se_call (ok_label_in T) (hr.mono (by decide)) rfl T.g_label_in T.p_label_in T.n_label_in (sa_cons (se_v 0) (sa_cons se_int sa_nil)))))
theorem sc_may_follow : FnScope ["before", "piece", "above", "label"] ["before", "piece"] (defScope s_may_follow) := ⟨rfl, rfl, rfl, by decide +kernel, rfl, by decide +kernel, by decide +kernel⟩
def B_may_follow : DS := (dSeq (dIf (dTru (dCall F_is_open (dConsA (dVar 0) dNilA))) (dRet (dC (.bl false))) dSkip)
      (dSeq (dIf (dB (dBin (gEq false) (dBin gIx (dVar 0) (dC (.int 0))) (dC (.str "top")))) (dRet (dC (.bl true))) dSkip)
      (dSeq (dIf (dB (dBin (gEq false) (dBin gIx (dVar 1) (dC (.int 0))) (dC (.str "top")))) (dRet (dC (.bl false))) dSkip)
      (dSeq (dIf (dAnd (dB (dBin (gEq false) (dBin gIx (dVar 0) (dC (.int 0))) (dC (.str "old")))) (dB (dBin (gEq false) (dBin gIx (dVar 1) (dC (.int 0))) (dC (.str "old"))))) (dRet (dBin gLt (dBin gIx (dVar 0) (dC (.int 2))) (dBin gIx (dVar 1) (dC (.int 1))))) dSkip)
      (dSeq (dSet 2 (dCall F_label_in (dConsA (dVar 0) (dConsA (dBin Ip.gSub (dCall F_row_count (dConsA (dVar 0) dNilA)) (dC (.int 1))) dNilA))))
      (dSeq (dSet 3 (dCall F_first_label (dConsA (dVar 1) dNilA)))
      (dRet (dAndV (dBin gLe (dBin gIx (dVar 2) (dC (.int 0))) (dBin gIx (dVar 3) (dC (.int 0)))) (dBin gLe (dBin gIx (dVar 2) (dC (.int 1))) (dBin gIx (dVar 3) (dC (.int 1))))))))))))
def F_may_follow : DF := (runF 4 2 B_may_follow)
theorem ok_may_follow (T : Txt K mg) : FnOk P w K mg base CX0 3 T.a_may_follow T.d_may_follow ["before", "piece"] (spD ⟨K, T.cl⟩ F_may_follow) :=
  fnok T.f_may_follow sc_may_follow fun cdv A outer s H E hr =>
    (ss_cons (ss_if (st_val (se_call (ok_is_open T) (hr.mono (by decide)) rfl T.g_is_open T.p_is_open T.n_is_open (sa_cons (se_v 0) sa_nil))) (ss_one (ss_ret se_bl)) ss_nil)
      (ss_cons (ss_if (st_eq hr (se_at (se_v 0) se_int) se_str) (ss_one (ss_ret se_bl)) ss_nil)
      (ss_cons (ss_if (st_eq hr (se_at (se_v 1) se_int) se_str) (ss_one (ss_ret se_bl)) ss_nil)
      (ss_cons (ss_if (SW.st (sw_and (st_eq hr (se_at (se_v 0) se_int) se_str) (sw_and1 (st_eq hr (se_at (se_v 1) se_int) se_str)))) (ss_one (ss_ret (se_lt (se_at (se_v 0) se_int) (se_at (se_v 1) se_int)))) ss_nil)
      (ss_cons (ss_let 2 sc_may_follow.nd (se_call (ok_label_in T) (hr.mono (by decide)) rfl T.g_label_in T.p_label_in T.n_label_in (sa_cons (se_v 0) (sa_cons (se_sub (se_call (ok_row_count T) (hr.mono (by decide)) rfl T.g_row_count T.p_row_count T.n_row_count (sa_cons (se_v 0) sa_nil)) se_int) sa_nil))))
      (ss_cons (ss_let 3 sc_may_follow.nd (se_call (ok_first_label T) (hr.mono (by decide)) rfl T.g_first_label T.p_first_label T.n_first_label (sa_cons (se_v 1) sa_nil)))
      (ss_one (ss_ret (se_and (se_le (se_at (se_v 2) se_int) (se_at (se_v 3) se_int)) (se_one (se_le (se_at (se_v 2) se_int) (se_at (se_v 3) se_int))))))))))))
theorem sc_first_wrong : FnScope ["pieces", "before", "at", "piece"] ["pieces"] (defScope s_first_wrong) := ⟨rfl, rfl, rfl, by decide +kernel, rfl, by decide +kernel, by decide +kernel⟩
def B_first_wrong : DS := (dSeq (dSet 1 (dC .non))
      (dSeq (dForS (tgTup [2, 3]) (dEnum2 (dVar 0)) (dSeq (dIf (dNot (dTru (dCall F_is_piece (dConsA (dVar 3) dNilA)))) (dRet (dVar 2)) dSkip)
      (dSeq (dIf (dAnd (dB (dBin (gIs true) (dVar 1) (dC .non))) (dNot (dTru (dCall F_may_follow (dConsA (dVar 1) (dConsA (dVar 3) dNilA)))))) (dRet (dVar 2)) dSkip)
      (dSet 1 (dVar 3)))))
      (dSeq (dIf (dOr (dB (dBin (gIs false) (dVar 1) (dC .non))) (dNot (dTru (dCall F_is_open (dConsA (dVar 1) dNilA))))) (dRet (dCallB gLen (dConsA (dVar 0) dNilA))) dSkip)
      (dRet (dC .non)))))
def F_first_wrong : DF := (runF 4 1 B_first_wrong)
theorem ok_first_wrong (T : Txt K mg) : FnOk P w K mg base CX0 4 T.a_first_wrong T.d_first_wrong ["pieces"] (spD ⟨K, T.cl⟩ F_first_wrong) :=
  fnok T.f_first_wrong sc_first_wrong fun cdv A outer s H E hr =>
    (ss_cons (ss_let 1 sc_first_wrong.nd se_non)
      (ss_cons (ss_forS PassesOwn.never rfl (si2_enum rfl T.b_enumerate (se_v 0)) (sg_tup (is := [2, 3]) rfl (pgs_cons (pg_name (i := 2) sc_first_wrong.nd rfl (by first | exact Or.inl rfl | exact Or.inr rfl)) (pgs_cons (pg_name (i := 3) sc_first_wrong.nd rfl (by first | exact Or.inl rfl | exact Or.inr rfl)) pgs_nil)) rfl) (ss_cons (ss_if (st_not (st_val (se_call (ok_is_piece T) (hr.mono (by decide)) rfl T.g_is_piece T.p_is_piece T.n_is_piece (sa_cons (se_v 3) sa_nil)))) (ss_one (ss_ret (se_v 2))) ss_nil)
      (ss_cons (ss_if (SW.st (sw_and (st_isnot (se_v 1) se_non) (sw_and1 (st_not (st_val (se_call (ok_may_follow T) (hr.mono (by decide)) rfl T.g_may_follow T.p_may_follow T.n_may_follow (sa_cons (se_v 1) (sa_cons (se_v 3) sa_nil)))))))) (ss_one (ss_ret (se_v 2))) ss_nil)
      (ss_one (ss_let 1 sc_first_wrong.nd (se_v 3))))))
      (ss_cons (ss_if (SW.st (sw_or (st_is (se_v 1) se_non) (sw_or1 (st_not (st_val (se_call (ok_is_open T) (hr.mono (by decide)) rfl T.g_is_open T.p_is_open T.n_is_open (sa_cons (se_v 1) sa_nil))))))) (ss_one (ss_ret (se_callB call_len_seq cs_len rfl T.b_len (by decide +kernel) (sa_cons (se_v 0) sa_nil)))) ss_nil)
      (ss_one (ss_ret se_non)))))
theorem sc_Layout___init__ : FnScope ["self", "pieces", "wrong", "parts"] ["self", "pieces"] (defScope s_Layout___init__) := ⟨rfl, rfl, rfl, by decide +kernel, rfl, by decide +kernel, by decide +kernel⟩
def B_Layout___init__ : DS := (dSeq (dSet 2 (dCall F_first_wrong (dConsA (dVar 1) dNilA)))
      (dSeq (dIf (dB (dBin (gIs true) (dVar 2) (dC .non))) dBad dSkip)
      (dSeq (dSet 3 (dCall F_normal_form (dConsA (dVar 1) dNilA)))
      (dSeq (dIf (dB (dBin gGt (dCallB gLen (dConsA (dVar 3) dNilA)) (dC (.int 60)))) dBad dSkip)
      (dSeq (dSetFld "Layout" "parts" (dVar 0) (dVar 3))
      (dSetFld "Layout" "starts" (dVar 0) (dCall F_starts_of (dConsA (dVar 3) dNilA))))))))
def F_Layout___init__ : DF := (runF 4 2 B_Layout___init__)
theorem ok_Layout___init__ (T : Txt K mg) : FnOk P w K mg base CX0 5 T.a_Layout___init__ T.d_Layout___init__ ["self", "pieces"] (spD ⟨K, T.cl⟩ F_Layout___init__) :=
  fnok T.f_Layout___init__ sc_Layout___init__ fun cdv A outer s H E hr =>
    (ss_cons (ss_let 2 sc_Layout___init__.nd (se_call (ok_first_wrong T) (hr.mono (by decide)) rfl T.g_first_wrong T.p_first_wrong T.n_first_wrong (sa_cons (se_v 1) sa_nil)))
      (ss_cons (ss_if (st_isnot (se_v 2) se_non) (ss_one ss_never) ss_nil)
      (ss_cons (ss_let 3 sc_Layout___init__.nd (se_call (ok_normal_form T) (hr.mono (by decide)) rfl T.g_normal_form T.p_normal_form T.n_normal_form (sa_cons (se_v 1) sa_nil)))
      (ss_cons (ss_if (st_gt (se_callB call_len_seq cs_len rfl T.b_len (by decide +kernel) (sa_cons (se_v 3) sa_nil)) (se_cval rfl T.g_Layout T.r_Layout T.v_Layout_LIMIT (fun _ _ => .int 60))) (ss_one ss_never) ss_nil)
      (ss_cons (ss_fld (T.cl_Layout) T.k_Layout T.na_Layout_parts (se_v 0) (se_v 3))
      (ss_one (ss_fld (T.cl_Layout) T.k_Layout T.na_Layout_starts (se_v 0) (se_call (ok_starts_of T) (hr.mono (by decide)) rfl T.g_starts_of T.p_starts_of T.n_starts_of (sa_cons (se_v 3) sa_nil)))))))))
theorem sc_run : FnScope ["script", "start"] ["script", "start"] (defScope s_run) := ⟨rfl, rfl, rfl, by decide +kernel, rfl, by decide +kernel, by decide +kernel⟩
def B_run : DS := (dSeq (dDrop (dCall F_check_script (dConsA (dVar 0) dNilA)))
      (dRet (dMake "Layout" F_Layout___init__ (dConsA (dCall F_pieces_behind (dConsA (dVar 0) (dConsA (dIfE (dB (dBin (gIs false) (dVar 1) (dC .non))) (dC (.tup [.tup [.str "old", .int 0, .non]])) (dMeth "Layout" "pieces" F_Layout_pieces (dVar 1) dNilA)) dNilA))) dNilA))))
def F_run : DF := (runF 2 2 B_run)
theorem ok_run (T : Txt K mg) : FnOk P w K mg base CX0 7 T.a_run T.d_run ["script", "start"] (spD ⟨K, T.cl⟩ F_run) :=
  fnok T.f_run sc_run fun cdv A outer s H E hr =>
    (ss_cons (ss_expr (se_call (ok_check_script T) (hr.mono (by decide)) rfl T.g_check_script T.p_check_script T.n_check_script (sa_cons (se_v 0) sa_nil)))
      (ss_one (ss_ret (se_make (T.cl_Layout) T.mk_Layout (ok_Layout___init__ T) (hr.mono (by decide)) rfl T.g_Layout T.n_Layout___init__ (sa_cons (se_call (ok_pieces_behind T) (hr.mono (by decide)) rfl T.g_pieces_behind T.p_pieces_behind T.n_pieces_behind (sa_cons (se_v 0) (sa_cons (se_if (st_is (se_v 1) se_non) (se_const (pe_glob (v := .ref T.p_PLAIN) rfl T.c_PLAIN rfl) (T.w_PLAIN _)) (se_meth0 (T.cl_Layout) (se_v 1) T.k_Layout T.m_Layout_pieces (ok_Layout_pieces T) (hr.mono (by decide)) T.n_Layout_pieces)) sa_nil))) sa_nil)))))
theorem sc_Grid___init__ : FnScope ["self", "rows", "columns"] ["self", "rows", "columns"] (defScope s_Grid___init__) := ⟨rfl, rfl, rfl, by decide +kernel, rfl, by decide +kernel, by decide +kernel⟩
def B_Grid___init__ : DS := (dSeq (dSetFld "Grid" "row_layout" (dVar 0) (dVar 1))
      (dSetFld "Grid" "column_layout" (dVar 0) (dVar 2)))
def F_Grid___init__ : DF := (runF 3 3 B_Grid___init__)
theorem ok_Grid___init__ (T : Txt K mg) : FnOk P w K mg base CX0 1 T.a_Grid___init__ T.d_Grid___init__ ["self", "rows", "columns"] (spD ⟨K, T.cl⟩ F_Grid___init__) :=
  fnok T.f_Grid___init__ sc_Grid___init__ fun cdv A outer s H E hr =>
    (ss_cons (ss_fld (T.cl_Grid) T.k_Grid T.na_Grid_row_layout (se_v 0) (se_v 1))
      (ss_one (ss_fld (T.cl_Grid) T.k_Grid T.na_Grid_column_layout (se_v 0) (se_v 2))))
theorem sc_run_grid : FnScope ["script"] ["script"] (defScope s_run_grid) := ⟨rfl, rfl, rfl, by decide +kernel, rfl, by decide +kernel, by decide +kernel⟩
def B_run_grid : DS := (dSeq (dDrop (dCall F_check_grid_script (dConsA (dVar 0) dNilA)))
      (dRet (dMake "Grid" F_Grid___init__ (dConsA (dCallD 1 F_run (dConsA (dCall F_axis_script (dConsA (dVar 0) (dConsA (dC (.str "rows")) dNilA))) dNilA)) (dConsA (dCallD 1 F_run (dConsA (dCall F_axis_script (dConsA (dVar 0) (dConsA (dC (.str "columns")) dNilA))) dNilA)) dNilA)))))
def F_run_grid : DF := (runF 1 1 B_run_grid)
theorem ok_run_grid (T : Txt K mg) : FnOk P w K mg base CX0 8 T.a_run_grid T.d_run_grid ["script"] (spD ⟨K, T.cl⟩ F_run_grid) :=
  fnok T.f_run_grid sc_run_grid fun cdv A outer s H E hr =>
    (ss_cons (ss_expr (se_call (ok_check_grid_script T) (hr.mono (by decide)) rfl T.g_check_grid_script T.p_check_grid_script T.n_check_grid_script (sa_cons (se_v 0) sa_nil)))
      (ss_one (ss_ret (se_make (T.cl_Grid) T.mk_Grid (ok_Grid___init__ T) (hr.mono (by decide)) rfl T.g_Grid T.n_Grid___init__ (sa_cons (se_callD (ok_run T) (hr.mono (by decide)) rfl T.g_run T.p_run T.n_run (sa_cons (se_call (ok_axis_script T) (hr.mono (by decide)) rfl T.g_axis_script T.p_axis_script T.n_axis_script (sa_cons (se_v 0) (sa_cons se_str sa_nil))) sa_nil)) (sa_cons (se_callD (ok_run T) (hr.mono (by decide)) rfl T.g_run T.p_run T.n_run (sa_cons (se_call (ok_axis_script T) (hr.mono (by decide)) rfl T.g_axis_script T.p_axis_script T.n_axis_script (sa_cons (se_v 0) (sa_cons se_str sa_nil))) sa_nil)) sa_nil))))))
theorem sc_Grid_rows : FnScope ["self"] ["self"] (defScope s_Grid_rows) := ⟨rfl, rfl, rfl, by decide +kernel, rfl, by decide +kernel, by decide +kernel⟩
def B_Grid_rows : DS := (dRet (dFld "Grid" "row_layout" (dVar 0)))
def F_Grid_rows : DF := (runF 1 1 B_Grid_rows)
theorem ok_Grid_rows (T : Txt K mg) : FnOk P w K mg base CX0 1 T.a_Grid_rows T.d_Grid_rows ["self"] (spD ⟨K, T.cl⟩ F_Grid_rows) :=
  fnok T.f_Grid_rows sc_Grid_rows fun cdv A outer s H E hr =>
    (ss_one (ss_ret (se_fld (T.cl_Grid) T.k_Grid T.na_Grid_row_layout (se_v 0))))
theorem sc_old_ranges : FnScope ["pieces", "piece"] ["pieces"] (defScope s_old_ranges) := ⟨rfl, rfl, rfl, by decide +kernel, rfl, by decide +kernel, by decide +kernel⟩
def B_old_ranges : DS := (dRet (dLc [1] (tgName 1) (dIter (dVar 0)) (dB (dBin (gEq false) (dBin gIx (dVar 1) (dC (.int 0))) (dC (.str "old")))) (dTup (dConsA (dBin gIx (dVar 1) (dC (.int 1))) (dConsA (dBin gIx (dVar 1) (dC (.int 2))) dNilA)))))
def F_old_ranges : DF := (runF 2 1 B_old_ranges)
theorem ok_old_ranges (T : Txt K mg) : FnOk P w K mg base CX0 1 T.a_old_ranges T.d_old_ranges ["pieces"] (spD ⟨K, T.cl⟩ F_old_ranges) :=
  fnok T.f_old_ranges sc_old_ranges fun cdv A outer s H E hr =>
    (ss_one (ss_ret (se_lc (own := [("piece", 1)]) rfl sc_old_ranges.nd (si_iter (se_v 0)) (blkOk_by (N := ["pieces", "piece"]) (sc := defScope s_old_ranges) (by decide +kernel)) (fun _ _ _ _ _ => pg_name (i := 1) sc_old_ranges.nd rfl (Or.inl rfl)) (tgok_name (by decide)) (fun _ _ _ _ _ => pts_st (cl := T.cl) (st_eq hr (se_at (se_v 1) se_int) se_str)) (fun _ _ _ _ _ => (se_tup (sa_cons (se_at (se_v 1) se_int) (sa_cons (se_at (se_v 1) se_int) sa_nil)))))))
theorem sc_new_labels : FnScope ["pieces", "piece"] ["pieces"] (defScope s_new_labels) := ⟨rfl, rfl, rfl, by decide +kernel, rfl, by decide +kernel, by decide +kernel⟩
def B_new_labels : DS := (dRet (dLc [1] (tgName 1) (dIter (dVar 0)) (dB (dBin (gEq false) (dBin gIx (dVar 1) (dC (.int 0))) (dC (.str "new")))) (dTup (dConsA (dBin gIx (dVar 1) (dC (.int 1))) (dConsA (dBin gIx (dVar 1) (dC (.int 2))) dNilA)))))
def F_new_labels : DF := (runF 2 1 B_new_labels)
theorem ok_new_labels (T : Txt K mg) : FnOk P w K mg base CX0 1 T.a_new_labels T.d_new_labels ["pieces"] (spD ⟨K, T.cl⟩ F_new_labels) :=
  fnok T.f_new_labels sc_new_labels fun cdv A outer s H E hr =>
    (ss_one (ss_ret (se_lc (own := [("piece", 1)]) rfl sc_new_labels.nd (si_iter (se_v 0)) (blkOk_by (N := ["pieces", "piece"]) (sc := defScope s_new_labels) (by decide +kernel)) (fun _ _ _ _ _ => pg_name (i := 1) sc_new_labels.nd rfl (Or.inl rfl)) (tgok_name (by decide)) (fun _ _ _ _ _ => pts_st (cl := T.cl) (st_eq hr (se_at (se_v 1) se_int) se_str)) (fun _ _ _ _ _ => (se_tup (sa_cons (se_at (se_v 1) se_int) (sa_cons (se_at (se_v 1) se_int) sa_nil)))))))
theorem sc_turning_points : FnScope ["layout", "pairs", "pair", "number", "step"] ["layout"] (defScope s_turning_points) := ⟨rfl, rfl, rfl, by decide +kernel, rfl, by decide +kernel, by decide +kernel⟩
def B_turning_points : DS := (dSeq (dSet 1 (dBin gAdd (dCall F_old_ranges (dConsA (dMeth "Layout" "pieces" F_Layout_pieces (dVar 0) dNilA) dNilA)) (dCall F_new_labels (dConsA (dMeth "Layout" "pieces" F_Layout_pieces (dVar 0) dNilA) dNilA))))
      (dRet (dLc3 [2, 3, 4] (tgName 2) (dIter (dVar 1)) dYes (lvS [3, 4] (tgName 3) (dIter (dVar 2)) (dB (dBin (gIs true) (dVar 3) (dC .non))) (lvS [4] (tgName 4) (dIter (dTup (dConsA (dC (.int 0)) (dConsA (dC (.int 1)) dNilA)))) dYes (lv0 (dBin gAdd (dVar 3) (dVar 4))))))))
def F_turning_points : DF := (runF 5 1 B_turning_points)
theorem ok_turning_points (T : Txt K mg) : FnOk P w K mg base CX0 2 T.a_turning_points T.d_turning_points ["layout"] (spD ⟨K, T.cl⟩ F_turning_points) :=
  fnok T.f_turning_points sc_turning_points fun cdv A outer s H E hr =>
    (ss_cons (ss_let 1 sc_turning_points.nd (se_add (se_call (ok_old_ranges T) (hr.mono (by decide)) rfl T.g_old_ranges T.p_old_ranges T.n_old_ranges (sa_cons (se_meth0 (T.cl_Layout) (se_v 0) T.k_Layout T.m_Layout_pieces (ok_Layout_pieces T) (hr.mono (by decide)) T.n_Layout_pieces) sa_nil)) (se_call (ok_new_labels T) (hr.mono (by decide)) rfl T.g_new_labels T.p_new_labels T.n_new_labels (sa_cons (se_meth0 (T.cl_Layout) (se_v 0) T.k_Layout T.m_Layout_pieces (ok_Layout_pieces T) (hr.mono (by decide)) T.n_Layout_pieces) sa_nil))))
      (ss_one (ss_ret (se_lc3 (own := [("pair", 2), ("number", 3), ("step", 4)]) (vs1 := [3, 4]) (vs2 := [4]) rfl sc_turning_points.nd (si_iter (se_v 1)) (blkOk_by (N := ["layout", "pairs", "pair", "number", "step"]) (sc := defScope s_turning_points) (by decide +kernel)) (by decide) (by decide) (fun _ _ _ _ _ => pg_name (i := 2) sc_turning_points.nd rfl (Or.inl rfl)) (tgok_name (by decide)) (fun _ _ _ _ _ => pts_yes) (fun _ _ _ _ _ => (si_iter (se_v 2))) (fun _ _ _ _ _ => pg_name (i := 3) sc_turning_points.nd rfl (Or.inl rfl)) (tgok_name (by decide)) (fun _ _ _ _ _ => pts_st (cl := T.cl) (st_isnot (se_v 3) se_non)) (fun _ _ _ _ _ => (si_iter (se_tup (sa_cons se_int (sa_cons se_int sa_nil))))) (fun _ _ _ _ _ => pg_name (i := 4) sc_turning_points.nd rfl (Or.inl rfl)) (tgok_name (by decide)) (fun _ _ _ _ _ => pts_yes) (fun _ _ _ _ _ => (se_add (se_v 3) (se_v 4)))))))
theorem sc_is_span : FnScope ["span"] ["span"] (defScope s_is_span) := ⟨rfl, rfl, rfl, by decide +kernel, rfl, by decide +kernel, by decide +kernel⟩
def B_is_span : DS := (dRet (dCall F_is_range (dConsA (dVar 0) dNilA)))
def F_is_span : DF := (runF 1 1 B_is_span)
theorem ok_is_span (T : Txt K mg) : FnOk P w K mg base CX0 3 T.a_is_span T.d_is_span ["span"] (spD ⟨K, T.cl⟩ F_is_span) :=
  fnok T.f_is_span sc_is_span fun cdv A outer s H E hr =>
    (ss_one (ss_ret (se_call (ok_is_range T) (hr.mono (by decide)) rfl T.g_is_range T.p_is_range T.n_is_range (sa_cons (se_v 0) sa_nil))))
theorem sc_check_span : FnScope ["span"] ["span"] (defScope s_check_span) := ⟨rfl, rfl, rfl, by decide +kernel, rfl, by decide +kernel, by decide +kernel⟩
def B_check_span : DS := (dIf (dNot (dTru (dCall F_is_span (dConsA (dVar 0) dNilA)))) dBad dSkip)
def F_check_span : DF := (runF 1 1 B_check_span)
theorem ok_check_span (T : Txt K mg) : FnOk P w K mg base CX0 4 T.a_check_span T.d_check_span ["span"] (spD ⟨K, T.cl⟩ F_check_span) :=
  fnok T.f_check_span sc_check_span fun cdv A outer s H E hr =>
    (ss_one (ss_if (st_not (st_val (se_call (ok_is_span T) (hr.mono (by decide)) rfl T.g_is_span T.p_is_span T.n_is_span (sa_cons (se_v 0) sa_nil)))) (ss_one ss_never) ss_nil))
theorem sc_first_row_from : FnScope ["pieces", "starts", "low", "start", "piece"] ["pieces", "starts", "low"] (defScope s_first_row_from) := ⟨rfl, rfl, rfl, by decide +kernel, rfl, by decide +kernel, by decide +kernel⟩
def B_first_row_from : DS := (dSeq (dFor (tgTup [3, 4]) (dZip (dConsA (dVar 1) (dConsA (dSl (dVar 0) dNoPart (dPart (dUn gNeg (dC (.int 1))))) dNilA))) (dSeq (dIf (dAnd (dB (dBin (gEq false) (dBin gIx (dVar 4) (dC (.int 0))) (dC (.str "new")))) (dB (dBin gGe (dBin gIx (dVar 4) (dC (.int 1))) (dVar 2)))) (dRet (dVar 3)) dSkip)
      (dIf (dAnd (dB (dBin (gEq false) (dBin gIx (dVar 4) (dC (.int 0))) (dC (.str "old")))) (dB (dBin gGe (dBin gIx (dVar 4) (dC (.int 2))) (dVar 2)))) (dRet (dBin gAdd (dVar 3) (dCallB gMax2 (dConsA (dC (.int 0)) (dConsA (dBin Ip.gSub (dVar 2) (dBin gIx (dVar 4) (dC (.int 1)))) dNilA))))) dSkip)))
      (dRet (dBin gAdd (dBin gIx (dVar 1) (dUn gNeg (dC (.int 1)))) (dCallB gMax2 (dConsA (dC (.int 0)) (dConsA (dBin Ip.gSub (dVar 2) (dBin gIx (dBin gIx (dVar 0) (dUn gNeg (dC (.int 1)))) (dC (.int 1)))) dNilA))))))
def F_first_row_from : DF := (runF 5 3 B_first_row_from)
theorem ok_first_row_from (T : Txt K mg) : FnOk P w K mg base CX0 1 T.a_first_row_from T.d_first_row_from ["pieces", "starts", "low"] (spD ⟨K, T.cl⟩ F_first_row_from) :=
  fnok T.f_first_row_from sc_first_row_from fun cdv A outer s H E hr =>
    (ss_cons (ss_for PassesOwn.never rfl (si_zip rfl T.b_zip (sa_cons (se_v 1) (sa_cons (se_slice (se_v 0) so_none (so_some (se_neg se_int))) sa_nil))) (sg_tup (is := [3, 4]) rfl (pgs_cons (pg_name (i := 3) sc_first_row_from.nd rfl (by first | exact Or.inl rfl | exact Or.inr rfl)) (pgs_cons (pg_name (i := 4) sc_first_row_from.nd rfl (by first | exact Or.inl rfl | exact Or.inr rfl)) pgs_nil)) rfl) (ss_cons (ss_if (SW.st (sw_and (st_eq hr (se_at (se_v 4) se_int) se_str) (sw_and1 (st_ge (se_at (se_v 4) se_int) (se_v 2))))) (ss_one (ss_ret (se_v 3))) ss_nil)
      (ss_one (ss_if (SW.st (sw_and (st_eq hr (se_at (se_v 4) se_int) se_str) (sw_and1 (st_ge (se_at (se_v 4) se_int) (se_v 2))))) (ss_one (ss_ret (se_add (se_v 3) (se_callB (call_max2 rfl) cs_max2 rfl T.b_max (by decide +kernel) (sa_cons se_int (sa_cons (se_sub (se_v 2) (se_at (se_v 4) se_int)) sa_nil)))))) ss_nil))))
      (ss_one (ss_ret (se_add (se_at (se_v 1) (se_neg se_int)) (se_callB (call_max2 rfl) cs_max2 rfl T.b_max (by decide +kernel) (sa_cons se_int (sa_cons (se_sub (se_v 2) (se_at (se_at (se_v 0) (se_neg se_int)) se_int)) sa_nil)))))))
theorem sc_lesser : FnScope ["one", "other"] ["one", "other"] (defScope s_lesser) := ⟨rfl, rfl, rfl, by decide +kernel, rfl, by decide +kernel, by decide +kernel⟩
def B_lesser : DS := (dSeq (dIf (dB (dBin (gIs false) (dVar 0) (dC .non))) (dRet (dVar 1)) dSkip)
      (dSeq (dIf (dB (dBin (gIs false) (dVar 1) (dC .non))) (dRet (dVar 0)) dSkip)
      (dRet (dCallB gMin2 (dConsA (dVar 0) (dConsA (dVar 1) dNilA))))))
def F_lesser : DF := (runF 2 2 B_lesser)
theorem ok_lesser (T : Txt K mg) : FnOk P w K mg base CX0 1 T.a_lesser T.d_lesser ["one", "other"] (spD ⟨K, T.cl⟩ F_lesser) :=
  fnok T.f_lesser sc_lesser fun cdv A outer s H E hr =>
    (ss_cons (ss_if (st_is (se_v 0) se_non) (ss_one (ss_ret (se_v 1))) ss_nil)
      (ss_cons (ss_if (st_is (se_v 1) se_non) (ss_one (ss_ret (se_v 0))) ss_nil)
      (ss_one (ss_ret (se_callB (call_min2 rfl) cs_min2 rfl T.b_min (by decide +kernel) (sa_cons (se_v 0) (sa_cons (se_v 1) sa_nil)))))))
theorem sc_last_row_up_to : FnScope ["pieces", "starts", "high", "found", "start", "piece"] ["pieces", "starts", "high"] (defScope s_last_row_up_to) := ⟨rfl, rfl, rfl, by decide +kernel, rfl, by decide +kernel, by decide +kernel⟩
def B_last_row_up_to : DS := (dSeq (dSet 3 (dUn gNeg (dC (.int 1))))
      (dSeq (dFor (tgTup [4, 5]) (dZip (dConsA (dVar 1) (dConsA (dVar 0) dNilA))) (dSeq (dIf (dAnd (dB (dBin (gEq false) (dBin gIx (dVar 5) (dC (.int 0))) (dC (.str "new")))) (dB (dBin gLe (dBin gIx (dVar 5) (dC (.int 2))) (dVar 2)))) (dSet 3 (dBin Ip.gSub (dBin gAdd (dVar 4) (dBin gIx (dVar 5) (dC (.int 3)))) (dC (.int 1)))) dSkip)
      (dIf (dAnd (dB (dBin (gEq false) (dBin gIx (dVar 5) (dC (.int 0))) (dC (.str "old")))) (dB (dBin gLe (dBin gIx (dVar 5) (dC (.int 1))) (dVar 2)))) (dSet 3 (dBin Ip.gSub (dBin gAdd (dVar 4) (dCall F_lesser (dConsA (dVar 2) (dConsA (dBin gIx (dVar 5) (dC (.int 2))) dNilA)))) (dBin gIx (dVar 5) (dC (.int 1))))) dSkip)))
      (dRet (dVar 3))))
def F_last_row_up_to : DF := (runF 6 3 B_last_row_up_to)
theorem ok_last_row_up_to (T : Txt K mg) : FnOk P w K mg base CX0 2 T.a_last_row_up_to T.d_last_row_up_to ["pieces", "starts", "high"] (spD ⟨K, T.cl⟩ F_last_row_up_to) :=
  fnok T.f_last_row_up_to sc_last_row_up_to fun cdv A outer s H E hr =>
    (ss_cons (ss_let 3 sc_last_row_up_to.nd (se_neg se_int))
      (ss_cons (ss_for PassesOwn.never rfl (si_zip rfl T.b_zip (sa_cons (se_v 1) (sa_cons (se_v 0) sa_nil))) (sg_tup (is := [4, 5]) rfl (pgs_cons (pg_name (i := 4) sc_last_row_up_to.nd rfl (by first | exact Or.inl rfl | exact Or.inr rfl)) (pgs_cons (pg_name (i := 5) sc_last_row_up_to.nd rfl (by first | exact Or.inl rfl | exact Or.inr rfl)) pgs_nil)) rfl) (ss_cons (ss_if (SW.st (sw_and (st_eq hr (se_at (se_v 5) se_int) se_str) (sw_and1 (st_le (se_at (se_v 5) se_int) (se_v 2))))) (ss_one (ss_let 3 sc_last_row_up_to.nd (se_sub (se_add (se_v 4) (se_at (se_v 5) se_int)) se_int))) ss_nil)
      (ss_one (ss_if (SW.st (sw_and (st_eq hr (se_at (se_v 5) se_int) se_str) (sw_and1 (st_le (se_at (se_v 5) se_int) (se_v 2))))) (ss_one (ss_let 3 sc_last_row_up_to.nd (se_sub (se_add (se_v 4) (se_call (ok_lesser T) (hr.mono (by decide)) rfl T.g_lesser T.p_lesser T.n_lesser (sa_cons (se_v 2) (sa_cons (se_at (se_v 5) se_int) sa_nil)))) (se_at (se_v 5) se_int)))) ss_nil))))
      (ss_one (ss_ret (se_v 3)))))
theorem sc_carried_by : FnScope ["pieces", "starts", "span", "begin", "end", "first", "last"] ["pieces", "starts", "span"] (defScope s_carried_by) := ⟨rfl, rfl, rfl, by decide +kernel, rfl, by decide +kernel, by decide +kernel⟩
def B_carried_by : DS := (dSeq (dAsg (tgTup [5, 6]) (dVar 2))
      (dSeq (dSet 3 (dCall F_first_row_from (dConsA (dVar 0) (dConsA (dVar 1) (dConsA (dVar 5) dNilA)))))
      (dSeq (dIf (dB (dBin (gIs false) (dVar 6) (dC .non))) (dRet (dTup (dConsA (dVar 3) (dConsA (dC .non) dNilA)))) dSkip)
      (dSeq (dSet 4 (dCall F_last_row_up_to (dConsA (dVar 0) (dConsA (dVar 1) (dConsA (dVar 6) dNilA)))))
      (dRet (dIfE (dB (dBin gLe (dVar 3) (dVar 4))) (dTup (dConsA (dVar 3) (dConsA (dVar 4) dNilA))) (dC .non)))))))
def F_carried_by : DF := (runF 7 3 B_carried_by)
theorem ok_carried_by (T : Txt K mg) : FnOk P w K mg base CX0 3 T.a_carried_by T.d_carried_by ["pieces", "starts", "span"] (spD ⟨K, T.cl⟩ F_carried_by) :=
  fnok T.f_carried_by sc_carried_by fun cdv A outer s H E hr =>
    (ss_cons (ss_asg (se_v 2) (sg_tup (is := [5, 6]) rfl (pgs_cons (pg_name (i := 5) sc_carried_by.nd rfl (by first | exact Or.inl rfl | exact Or.inr rfl)) (pgs_cons (pg_name (i := 6) sc_carried_by.nd rfl (by first | exact Or.inl rfl | exact Or.inr rfl)) pgs_nil)) rfl))
      (ss_cons (ss_let 3 sc_carried_by.nd (se_call (ok_first_row_from T) (hr.mono (by decide)) rfl T.g_first_row_from T.p_first_row_from T.n_first_row_from (sa_cons (se_v 0) (sa_cons (se_v 1) (sa_cons (se_v 5) sa_nil)))))
      (ss_cons (ss_if (st_is (se_v 6) se_non) (ss_one (ss_ret (se_tup (sa_cons (se_v 3) (sa_cons se_non sa_nil))))) ss_nil)
      (ss_cons (ss_let 4 sc_carried_by.nd (se_call (ok_last_row_up_to T) (hr.mono (by decide)) rfl T.g_last_row_up_to T.p_last_row_up_to T.n_last_row_up_to (sa_cons (se_v 0) (sa_cons (se_v 1) (sa_cons (se_v 6) sa_nil)))))
      (ss_one (ss_ret (se_if (st_le (se_v 3) (se_v 4)) (se_tup (sa_cons (se_v 3) (sa_cons (se_v 4) sa_nil))) se_non)))))))
theorem sc_carried : FnScope ["layout", "span"] ["layout", "span"] (defScope s_carried) := ⟨rfl, rfl, rfl, by decide +kernel, rfl, by decide +kernel, by decide +kernel⟩
def B_carried : DS := (dSeq (dDrop (dCall F_check_span (dConsA (dVar 1) dNilA)))
      (dRet (dCall F_carried_by (dConsA (dFld "Layout" "parts" (dVar 0)) (dConsA (dFld "Layout" "starts" (dVar 0)) (dConsA (dVar 1) dNilA))))))
def F_carried : DF := (runF 2 2 B_carried)
theorem ok_carried (T : Txt K mg) : FnOk P w K mg base CX0 5 T.a_carried T.d_carried ["layout", "span"] (spD ⟨K, T.cl⟩ F_carried) :=
  fnok T.f_carried sc_carried fun cdv A outer s H E hr =>
    (ss_cons (ss_expr (se_call (ok_check_span T) (hr.mono (by decide)) rfl T.g_check_span T.p_check_span T.n_check_span (sa_cons (se_v 1) sa_nil)))
      (ss_one (ss_ret (se_call (ok_carried_by T) (hr.mono (by decide)) rfl T.g_carried_by T.p_carried_by T.n_carried_by (sa_cons (se_fld (T.cl_Layout) T.k_Layout T.na_Layout_parts (se_v 0)) (sa_cons (se_fld (T.cl_Layout) T.k_Layout T.na_Layout_starts (se_v 0)) (sa_cons (se_v 1) sa_nil)))))))
theorem sc_is_difference : FnScope ["one", "other", "claimed"] ["one", "other", "claimed"] (defScope s_is_difference) := ⟨rfl, rfl, rfl, by decide +kernel, rfl, by decide +kernel, by decide +kernel⟩
def B_is_difference : DS := (dRet (dAndV (dCall F_is_span (dConsA (dVar 2) dNilA)) (dBin (gEq true) (dCall F_carried (dConsA (dVar 0) (dConsA (dVar 2) dNilA))) (dCall F_carried (dConsA (dVar 1) (dConsA (dVar 2) dNilA))))))
def F_is_difference : DF := (runF 3 3 B_is_difference)
theorem ok_is_difference (T : Txt K mg) : FnOk P w K mg base CX0 6 T.a_is_difference T.d_is_difference ["one", "other", "claimed"] (spD ⟨K, T.cl⟩ F_is_difference) :=
  fnok T.f_is_difference sc_is_difference fun cdv A outer s H E hr =>
    (ss_one (ss_ret (se_and (se_call (ok_is_span T) (hr.mono (by decide)) rfl T.g_is_span T.p_is_span T.n_is_span (sa_cons (se_v 2) sa_nil)) (se_one (se_ne hr (se_call (ok_carried T) (hr.mono (by decide)) rfl T.g_carried T.p_carried T.n_carried (sa_cons (se_v 0) (sa_cons (se_v 2) sa_nil))) (se_call (ok_carried T) (hr.mono (by decide)) rfl T.g_carried T.p_carried T.n_carried (sa_cons (se_v 1) (sa_cons (se_v 2) sa_nil))))))))
theorem sc_difference : FnScope ["one", "other", "numbers", "claimed", "number"] ["one", "other"] (defScope s_difference) := ⟨rfl, rfl, rfl, by decide +kernel, rfl, by decide +kernel, by decide +kernel⟩
def B_difference : DS := (dSeq (dSet 2 (dCallB gSortSet (dConsA (dBin gAdd (dCall F_turning_points (dConsA (dVar 0) dNilA)) (dCall F_turning_points (dConsA (dVar 1) dNilA))) dNilA)))
      (dSeq (dForS (tgName 3) (dIter2 (dBin gAdd (dLc [4] (tgName 4) (dIter (dVar 2)) dYes (dTup (dConsA (dVar 4) (dConsA (dC .non) dNilA)))) (dLc [4] (tgName 4) (dIter (dVar 2)) dYes (dTup (dConsA (dC (.int 0)) (dConsA (dVar 4) dNilA)))))) (dIf (dTru (dCall F_is_difference (dConsA (dVar 0) (dConsA (dVar 1) (dConsA (dVar 3) dNilA))))) (dRet (dVar 3)) dSkip))
      (dRet (dC .non))))
def F_difference : DF := (runF 5 2 B_difference)
theorem ok_difference (T : Txt K mg) : FnOk P w K mg base CX0 7 T.a_difference T.d_difference ["one", "other"] (spD ⟨K, T.cl⟩ F_difference) :=
  fnok T.f_difference sc_difference fun cdv A outer s H E hr =>
    (ss_cons (ss_let 2 sc_difference.nd (se_sortSet rfl rfl T.b_sorted rfl T.b_set (se_add (se_call (ok_turning_points T) (hr.mono (by decide)) rfl T.g_turning_points T.p_turning_points T.n_turning_points (sa_cons (se_v 0) sa_nil)) (se_call (ok_turning_points T) (hr.mono (by decide)) rfl T.g_turning_points T.p_turning_points T.n_turning_points (sa_cons (se_v 1) sa_nil)))))
      (ss_cons (ss_forS PassesOwn.never rfl (si2_iter (se_add (se_lc (own := [("number", 4)]) rfl sc_difference.nd (si_iter (se_v 2)) (blkOk_by (N := ["one", "other", "numbers", "claimed", "number"]) (sc := defScope s_difference) (by decide +kernel)) (fun _ _ _ _ _ => pg_name (i := 4) sc_difference.nd rfl (Or.inl rfl)) (tgok_name (by decide)) (fun _ _ _ _ _ => pts_yes) (fun _ _ _ _ _ => (se_tup (sa_cons (se_v 4) (sa_cons se_non sa_nil))))) (se_lc (own := [("number", 4)]) rfl sc_difference.nd (si_iter (se_v 2)) (blkOk_by (N := ["one", "other", "numbers", "claimed", "number"]) (sc := defScope s_difference) (by decide +kernel)) (fun _ _ _ _ _ => pg_name (i := 4) sc_difference.nd rfl (Or.inl rfl)) (tgok_name (by decide)) (fun _ _ _ _ _ => pts_yes) (fun _ _ _ _ _ => (se_tup (sa_cons se_int (sa_cons (se_v 4) sa_nil))))))) (sg_v 3 sc_difference.nd) (ss_one (ss_if (st_val (se_call (ok_is_difference T) (hr.mono (by decide)) rfl T.g_is_difference T.p_is_difference T.n_is_difference (sa_cons (se_v 0) (sa_cons (se_v 1) (sa_cons (se_v 3) sa_nil))))) (ss_one (ss_ret (se_v 3))) ss_nil)))
      (ss_one (ss_ret se_non))))
theorem sc_Grid_columns : FnScope ["self"] ["self"] (defScope s_Grid_columns) := ⟨rfl, rfl, rfl, by decide +kernel, rfl, by decide +kernel, by decide +kernel⟩
def B_Grid_columns : DS := (dRet (dFld "Grid" "column_layout" (dVar 0)))
def F_Grid_columns : DF := (runF 1 1 B_Grid_columns)
theorem ok_Grid_columns (T : Txt K mg) : FnOk P w K mg base CX0 1 T.a_Grid_columns T.d_Grid_columns ["self"] (spD ⟨K, T.cl⟩ F_Grid_columns) :=
  fnok T.f_Grid_columns sc_Grid_columns fun cdv A outer s H E hr =>
    (ss_one (ss_ret (se_fld (T.cl_Grid) T.k_Grid T.na_Grid_column_layout (se_v 0))))
theorem sc_difference_box : FnScope ["one", "other", "rows", "columns"] ["one", "other"] (defScope s_difference_box) := ⟨rfl, rfl, rfl, by decide +kernel, rfl, by decide +kernel, by decide +kernel⟩
def B_difference_box : DS := (dSeq (dSet 2 (dCall F_difference (dConsA (dProp "Grid" F_Grid_rows (dVar 0)) (dConsA (dProp "Grid" F_Grid_rows (dVar 1)) dNilA))))
      (dSeq (dIf (dB (dBin (gIs true) (dVar 2) (dC .non))) (dRet (dTup (dConsA (dVar 2) (dConsA (dC (.tup [.int 0, .non])) dNilA)))) dSkip)
      (dSeq (dSet 3 (dCall F_difference (dConsA (dProp "Grid" F_Grid_columns (dVar 0)) (dConsA (dProp "Grid" F_Grid_columns (dVar 1)) dNilA))))
      (dRet (dIfE (dB (dBin (gIs false) (dVar 3) (dC .non))) (dC .non) (dTup (dConsA (dC (.tup [.int 0, .non])) (dConsA (dVar 3) dNilA))))))))
def F_difference_box : DF := (runF 4 2 B_difference_box)
theorem ok_difference_box (T : Txt K mg) : FnOk P w K mg base CX0 8 T.a_difference_box T.d_difference_box ["one", "other"] (spD ⟨K, T.cl⟩ F_difference_box) :=
  fnok T.f_difference_box sc_difference_box fun cdv A outer s H E hr =>
    (ss_cons (ss_let 2 sc_difference_box.nd (se_call (ok_difference T) (hr.mono (by decide)) rfl T.g_difference T.p_difference T.n_difference (sa_cons (se_prop (T.cl_Grid) (se_v 0) T.k_Grid T.pr_Grid_rows (ok_Grid_rows T) (hr.mono (by decide)) T.n_Grid_rows) (sa_cons (se_prop (T.cl_Grid) (se_v 1) T.k_Grid T.pr_Grid_rows (ok_Grid_rows T) (hr.mono (by decide)) T.n_Grid_rows) sa_nil))))
      (ss_cons (ss_if (st_isnot (se_v 2) se_non) (ss_one (ss_ret (se_tup (sa_cons (se_v 2) (sa_cons (se_const (pe_glob (v := .ref T.p_ALL_ROWS) rfl T.c_ALL_ROWS rfl) (T.w_ALL_ROWS _)) sa_nil))))) ss_nil)
      (ss_cons (ss_let 3 sc_difference_box.nd (se_call (ok_difference T) (hr.mono (by decide)) rfl T.g_difference T.p_difference T.n_difference (sa_cons (se_prop (T.cl_Grid) (se_v 0) T.k_Grid T.pr_Grid_columns (ok_Grid_columns T) (hr.mono (by decide)) T.n_Grid_columns) (sa_cons (se_prop (T.cl_Grid) (se_v 1) T.k_Grid T.pr_Grid_columns (ok_Grid_columns T) (hr.mono (by decide)) T.n_Grid_columns) sa_nil))))
      (ss_one (ss_ret (se_if (st_is (se_v 3) se_non) se_non (se_tup (sa_cons (se_const (pe_glob (v := .ref T.p_ALL_ROWS) rfl T.c_ALL_ROWS rfl) (T.w_ALL_ROWS _)) (sa_cons (se_v 3) sa_nil)))))))))
theorem sc_Layout___eq__ : FnScope ["self", "other"] ["self", "other"] (defScope s_Layout___eq__) := ⟨rfl, rfl, rfl, by decide +kernel, rfl, by decide +kernel, by decide +kernel⟩
def B_Layout___eq__ : DS := (dRet (dAndV (dUn (gIsiO "Layout") (dVar 1)) (dBin (gEq false) (dFld "Layout" "parts" (dVar 0)) (dFld "Layout" "parts" (dVar 1)))))
def F_Layout___eq__ : DF := (runF 2 2 B_Layout___eq__)
theorem ok_Layout___eq__ (T : Txt K mg) : FnOk P w K mg base CX0 1 T.a_Layout___eq__ T.d_Layout___eq__ ["self", "other"] (spD ⟨K, T.cl⟩ F_Layout___eq__) :=
  fnok T.f_Layout___eq__ sc_Layout___eq__ fun cdv A outer s H E hr =>
    (ss_one (ss_ret (se_and (se_isiO (T.cl_Layout) T.eo_Layout.it T.ty_Layout rfl T.b_isinstance rfl T.g_Layout (se_v 1)) (se_one (se_eq hr (se_fld (T.cl_Layout) T.k_Layout T.na_Layout_parts (se_v 0)) (se_fld (T.cl_Layout) T.k_Layout T.na_Layout_parts (se_v 1)))))))
theorem sc_Grid___eq__ : FnScope ["self", "other"] ["self", "other"] (defScope s_Grid___eq__) := ⟨rfl, rfl, rfl, by decide +kernel, rfl, by decide +kernel, by decide +kernel⟩
def B_Grid___eq__ : DS := (dRet (dAndV (dUn (gIsiO "Grid") (dVar 1)) (dAndV (dEqO "Layout" false F_Layout___eq__ (dFld "Grid" "row_layout" (dVar 0)) (dFld "Grid" "row_layout" (dVar 1))) (dEqO "Layout" false F_Layout___eq__ (dFld "Grid" "column_layout" (dVar 0)) (dFld "Grid" "column_layout" (dVar 1))))))
def F_Grid___eq__ : DF := (runF 2 2 B_Grid___eq__)
theorem ok_Grid___eq__ (T : Txt K mg) : FnOk P w K mg base CX0 3 T.a_Grid___eq__ T.d_Grid___eq__ ["self", "other"] (spD ⟨K, T.cl⟩ F_Grid___eq__) :=
  fnok T.f_Grid___eq__ sc_Grid___eq__ fun cdv A outer s H E hr =>
    (ss_one (ss_ret (se_and (se_isiO (T.cl_Grid) T.eo_Grid.it T.ty_Grid rfl T.b_isinstance rfl T.g_Grid (se_v 1)) (se_and (se_eqO (T.cl_Layout) T.eo_Layout (ok_Layout___eq__ T) (hr.mono (by decide)) T.n_Layout___eq__ (se_fld (T.cl_Grid) T.k_Grid T.na_Grid_row_layout (se_v 0)) (se_fld (T.cl_Grid) T.k_Grid T.na_Grid_row_layout (se_v 1))) (se_one (se_eqO (T.cl_Layout) T.eo_Layout (ok_Layout___eq__ T) (hr.mono (by decide)) T.n_Layout___eq__ (se_fld (T.cl_Grid) T.k_Grid T.na_Grid_column_layout (se_v 0)) (se_fld (T.cl_Grid) T.k_Grid T.na_Grid_column_layout (se_v 1))))))))
theorem sc_carried_box : FnScope ["grid", "box", "rows", "columns"] ["grid", "box"] (defScope s_carried_box) := ⟨rfl, rfl, rfl, by decide +kernel, rfl, by decide +kernel, by decide +kernel⟩
def B_carried_box : DS := (dSeq (dSet 2 (dCall F_carried (dConsA (dProp "Grid" F_Grid_rows (dVar 0)) (dConsA (dBin gIx (dVar 1) (dC (.int 0))) dNilA))))
      (dSeq (dSet 3 (dCall F_carried (dConsA (dProp "Grid" F_Grid_columns (dVar 0)) (dConsA (dBin gIx (dVar 1) (dC (.int 1))) dNilA))))
      (dRet (dIfE (dOr (dB (dBin (gIs false) (dVar 2) (dC .non))) (dB (dBin (gIs false) (dVar 3) (dC .non)))) (dC .non) (dTup (dConsA (dVar 2) (dConsA (dVar 3) dNilA)))))))
def F_carried_box : DF := (runF 4 2 B_carried_box)
theorem ok_carried_box (T : Txt K mg) : FnOk P w K mg base CX0 6 T.a_carried_box T.d_carried_box ["grid", "box"] (spD ⟨K, T.cl⟩ F_carried_box) :=
  fnok T.f_carried_box sc_carried_box fun cdv A outer s H E hr =>
    (ss_cons (ss_let 2 sc_carried_box.nd (se_call (ok_carried T) (hr.mono (by decide)) rfl T.g_carried T.p_carried T.n_carried (sa_cons (se_prop (T.cl_Grid) (se_v 0) T.k_Grid T.pr_Grid_rows (ok_Grid_rows T) (hr.mono (by decide)) T.n_Grid_rows) (sa_cons (se_at (se_v 1) se_int) sa_nil))))
      (ss_cons (ss_let 3 sc_carried_box.nd (se_call (ok_carried T) (hr.mono (by decide)) rfl T.g_carried T.p_carried T.n_carried (sa_cons (se_prop (T.cl_Grid) (se_v 0) T.k_Grid T.pr_Grid_columns (ok_Grid_columns T) (hr.mono (by decide)) T.n_Grid_columns) (sa_cons (se_at (se_v 1) se_int) sa_nil))))
      (ss_one (ss_ret (se_if (SW.st (sw_or (st_is (se_v 2) se_non) (sw_or1 (st_is (se_v 3) se_non)))) se_non (se_tup (sa_cons (se_v 2) (sa_cons (se_v 3) sa_nil))))))))
theorem sc_law : FnScope ["_law_script", "_law_bag_here", "_law_turn", "_law_commands", "_law_other", "_law_told", "_law_one", "_law_two", "_law_pair"] ["_law_script"] (defScope s_law) := ⟨rfl, rfl, rfl, by decide +kernel, rfl, by decide +kernel, by decide +kernel⟩
def B_law : DS := (dSeq (dSet 1 (dCall F__law_bag (dConsA (dVar 0) dNilA)))
      (dSeq (dFor (tgName 2) (dRng1 (dConsA (dC (.int 4)) dNilA)) (dSeq (dSet 3 (dCall F__law_grid_script (dConsA (dVar 1) (dConsA (dC (.int 6)) dNilA))))
      (dSeq (dSet 4 (dCall F__law_of (dConsA (dVar 1) (dConsA (dLst (dConsA (dVar 3) (dConsA (dSl (dVar 3) dNoPart (dPart (dUn gNeg (dC (.int 1))))) (dConsA (dCall F__law_grid_script (dConsA (dVar 1) (dConsA (dC (.int 6)) dNilA))) (dConsA (dBin gAdd (dVar 3) (dLst (dConsA (dTup (dConsA (dC (.str "delete_columns")) (dConsA (dC (.int 4)) (dConsA (dC (.int 4)) dNilA)))) dNilA))) dNilA))))) dNilA))))
      (dSeq (dPar 6 7 (dConsA (dCall F_run_grid (dConsA (dVar 3) dNilA)) (dConsA (dCall F_run_grid (dConsA (dVar 4) dNilA)) dNilA)))
      (dSeq (dSet 5 (dCall F_difference_box (dConsA (dVar 6) (dConsA (dVar 7) dNilA))))
      (dSeq (dIf (dOr (dB (dBin (gEq true) (dBin (gIs false) (dVar 5) (dC .non)) (dEqO "Grid" false F_Grid___eq__ (dVar 6) (dVar 7)))) (dB (dBin (gIs true) (dCall F_difference_box (dConsA (dVar 6) (dConsA (dVar 6) dNilA))) (dC .non)))) (dRet (dC (.bl false))) dSkip)
      (dIf (dB (dBin (gIs true) (dVar 5) (dC .non))) (dSeq (dIf (dOr (dNot (dTru (dUn (gIsi "tuple") (dVar 5)))) (dOr (dB (dBin (gEq true) (dCallB gLen (dConsA (dVar 5) dNilA)) (dC (.int 2)))) (dNot (dTru (dCallB gAll (dConsA (dLc [8] (tgName 8) (dIter (dVar 5)) dYes (dCall F_is_span (dConsA (dVar 8) dNilA))) dNilA)))))) (dRet (dC (.bl false))) dSkip)
      (dIf (dB (dBin (gEq false) (dCall F_carried_box (dConsA (dVar 6) (dConsA (dVar 5) dNilA))) (dCall F_carried_box (dConsA (dVar 7) (dConsA (dVar 5) dNilA))))) (dRet (dC (.bl false))) dSkip)) dSkip)))))))
      (dRet (dC (.bl true)))))
def F_law : DF := (runF 9 1 B_law)
theorem ok_law (T : Txt K mg) : FnOk P w K mg base CX0 9 T.a_law T.d_law ["_law_script"] (spD ⟨K, T.cl⟩ F_law) :=
  fnok T.f_law sc_law fun cdv A outer s H E hr =>
    (ss_cons (ss_let 1 sc_law.nd (se_call (ok__law_bag T) (hr.mono (by decide)) rfl T.g__law_bag T.p__law_bag T.n__law_bag (sa_cons (se_v 0) sa_nil)))
      (ss_cons (ss_for PassesOwn.never rfl (si_range1 rfl T.b_range (sa_cons se_int sa_nil)) (sg_v 2 sc_law.nd) (ss_cons (ss_let 3 sc_law.nd (se_call (ok__law_grid_script T) (hr.mono (by decide)) rfl T.g__law_grid_script T.p__law_grid_script T.n__law_grid_script (sa_cons (se_v 1) (sa_cons se_int sa_nil))))
      (ss_cons (ss_let 4 sc_law.nd (se_call (ok__law_of T) (hr.mono (by decide)) rfl T.g__law_of T.p__law_of T.n__law_of (sa_cons (se_v 1) (sa_cons (se_lst (sa_cons (se_v 3) (sa_cons (se_slice (se_v 3) so_none (so_some (se_neg se_int))) (sa_cons (se_call (ok__law_grid_script T) (hr.mono (by decide)) rfl T.g__law_grid_script T.p__law_grid_script T.n__law_grid_script (sa_cons (se_v 1) (sa_cons se_int sa_nil))) (sa_cons (se_add (se_v 3) (se_lst (sa_cons (se_tup (sa_cons se_str (sa_cons se_int (sa_cons se_int sa_nil)))) sa_nil))) sa_nil))))) sa_nil))))
      (ss_cons (ss_par (i := 6) (j := 7) rfl sc_law.nd rfl rfl (by decide) rfl rfl (sa_cons (se_call (ok_run_grid T) (hr.mono (by decide)) rfl T.g_run_grid T.p_run_grid T.n_run_grid (sa_cons (se_v 3) sa_nil)) (sa_cons (se_call (ok_run_grid T) (hr.mono (by decide)) rfl T.g_run_grid T.p_run_grid T.n_run_grid (sa_cons (se_v 4) sa_nil)) sa_nil)) (by rfl))
      (ss_cons (ss_let 5 sc_law.nd (se_call (ok_difference_box T) (hr.mono (by decide)) rfl T.g_difference_box T.p_difference_box T.n_difference_box (sa_cons (se_v 6) (sa_cons (se_v 7) sa_nil))))
      (ss_cons (ss_if (SW.st (sw_or (st_ne hr (se_is (se_v 5) se_non) (se_eqO (T.cl_Grid) T.eo_Grid (ok_Grid___eq__ T) (hr.mono (by decide)) T.n_Grid___eq__ (se_v 6) (se_v 7))) (sw_or1 (st_isnot (se_call (ok_difference_box T) (hr.mono (by decide)) rfl T.g_difference_box T.p_difference_box T.n_difference_box (sa_cons (se_v 6) (sa_cons (se_v 6) sa_nil))) se_non)))) (ss_one (ss_ret se_bl)) ss_nil)
      (ss_one (ss_if (st_isnot (se_v 5) se_non) (ss_cons (ss_if (SW.st (sw_or (st_not (st_val (se_isi (T := "tuple") rfl T.b_isinstance rfl T.b_tuple (by decide +kernel) (se_v 5)))) (sw_or (st_ne hr (se_callB call_len_seq cs_len rfl T.b_len (by decide +kernel) (sa_cons (se_v 5) sa_nil)) se_int) (sw_or1 (st_not (st_val (se_callB (cr_all rfl) cs_all rfl T.b_all (by decide +kernel) (sa_cons (se_lc (own := [("_law_pair", 8)]) rfl sc_law.nd (si_iter (se_v 5)) (blkOk_by (N := ["_law_script", "_law_bag_here", "_law_turn", "_law_commands", "_law_other", "_law_told", "_law_one", "_law_two", "_law_pair"]) (sc := defScope s_law) (by decide +kernel)) (fun _ _ _ _ _ => pg_name (i := 8) sc_law.nd rfl (Or.inl rfl)) (tgok_name (by decide)) (fun _ _ _ _ _ => pts_yes) (fun _ _ _ _ _ => (se_call (ok_is_span T) (hr.mono (by decide)) rfl T.g_is_span T.p_is_span T.n_is_span (sa_cons (se_v 8) sa_nil)))) sa_nil)))))))) (ss_one (ss_ret se_bl)) ss_nil)
      (ss_one (ss_if (st_eq hr (se_call (ok_carried_box T) (hr.mono (by decide)) rfl T.g_carried_box T.p_carried_box T.n_carried_box (sa_cons (se_v 6) (sa_cons (se_v 5) sa_nil))) (se_call (ok_carried_box T) (hr.mono (by decide)) rfl T.g_carried_box T.p_carried_box T.n_carried_box (sa_cons (se_v 7) (sa_cons (se_v 5) sa_nil)))) (ss_one (ss_ret se_bl)) ss_nil))) ss_nil))))))))
      (ss_one (ss_ret se_bl))))
end
end T
end
section
set_option Elab.async false
set_option linter.all false
set_option maxRecDepth 100000
set_option maxHeartbeats 4000000
namespace T
open PySem PyProof.Rows L2 Ip
def spLaw (K : PySem.W.Frag) : Sp := fun vs H Q _ => ∃ (a : Addr) (ns : List Int), vs = [.ref a] ∧ SqL K H a (ns.map V.int) ∧ ns.length ≤ 63 ∧ ∀ H', Q (.bl true) H'
def Main : Prop := ∀ ns : List Int, ns.length ≤ 63 → ∃ M, F_law [.scr ns] [] = .ok (.bl true) M
theorem spLaw_of {K : PySem.W.Frag} {cl : Str → Option Addr} (hM : Main) {vs : List V} {H : Hp} {Q : VK} {E : XK} (tb : TabR ⟨K, cl⟩ H) (h : spLaw K vs H Q E) : spD ⟨K, cl⟩ F_law vs H Q E := by
  obtain ⟨a, ns, rfl, hs, hl, q⟩ := h
  obtain ⟨M, e⟩ := hM ns hl
  refine ⟨⟨[], []⟩, [], [.scr ns], ⟨rfl, .nil, fun _ z => (nomatch z), fun _ z => (nomatch z), fun n c z => (by simp at z), tb⟩, .one (.scr ?_), ?_⟩
  · rcases hs with z | z
    · exact .inl ⟨z, fun w => by rcases w with w | w <;> cases w⟩
    · exact .inr fun _ => .inr z
  · rw [e]
    intro ρ' v H' _ _ r
    cases r
    exact q H'
theorem Txt.tab {K : PySem.W.Frag} {mg : Str → Option Value} (T : Txt K mg) {H : Hp} : TabR ⟨K, T.cl⟩ H := fun q P hq hc => absurd (T.lam q P hq hc) List.not_mem_nil
theorem all_mk {l : PySem.W.OpenLaw} {w : World} {K : PySem.W.Frag} {h : Heap} {mg : Str → Option Value} {fa A_Layout A_Grid f__law_bag f__law_pull f__law_of f__law_near f__law_grid_script f_without_axis f_is_number f_are_numbers f_is_command f_is_grid_command f_check_grid_script f_axis_script f_check_script f_Layout_pieces f_old_rows_before f_insert_pieces f_delete_pieces f_command_pieces f_row_count f_starts_of f_index_of_row f_first_rows f_without_first_rows f_part f_label_in f_label_at f_renamed f_joined f_normal_form f_followed f_pieces_behind f_is_range f_is_piece f_is_open f_first_label f_may_follow f_first_wrong f_Layout___init__ f_run f_Grid___init__ f_run_grid f_Grid_rows f_old_ranges f_new_labels f_turning_points f_is_span f_check_span f_first_row_from f_lesser f_last_row_up_to f_carried_by f_carried f_is_difference f_difference f_Grid_columns f_difference_box f_Layout___eq__ f_Grid___eq__ f_carried_box f_law : Addr} (hM : Main) (X : K.In h) (G : h.Ns mainGlobals mg) (hfa : mg "law" = some (.ref fa))
    {od__law_bag an__law_bag od__law_pull an__law_pull od__law_of an__law_of od__law_near an__law_near od__law_grid_script an__law_grid_script od_without_axis an_without_axis od_is_number an_is_number od_are_numbers an_are_numbers od_is_command an_is_command od_is_grid_command an_is_grid_command od_check_grid_script an_check_grid_script od_axis_script an_axis_script od_check_script an_check_script od_Layout_pieces an_Layout_pieces od_old_rows_before an_old_rows_before od_insert_pieces an_insert_pieces od_delete_pieces an_delete_pieces od_command_pieces an_command_pieces od_row_count an_row_count od_starts_of an_starts_of od_index_of_row an_index_of_row od_first_rows an_first_rows od_without_first_rows an_without_first_rows od_part an_part od_label_in an_label_in od_label_at an_label_at od_renamed an_renamed od_joined an_joined od_normal_form an_normal_form od_followed an_followed od_pieces_behind an_pieces_behind od_is_range an_is_range od_is_piece an_is_piece od_is_open an_is_open od_first_label an_first_label od_may_follow an_may_follow od_first_wrong an_first_wrong od_Layout___init__ an_Layout___init__ od_run an_run od_Grid___init__ an_Grid___init__ od_run_grid an_run_grid od_Grid_rows an_Grid_rows od_old_ranges an_old_ranges od_new_labels an_new_labels od_turning_points an_turning_points od_is_span an_is_span od_check_span an_check_span od_first_row_from an_first_row_from od_lesser an_lesser od_last_row_up_to an_last_row_up_to od_carried_by an_carried_by od_carried an_carried od_is_difference an_is_difference od_difference an_difference od_Grid_columns an_Grid_columns od_difference_box an_difference_box od_Layout___eq__ an_Layout___eq__ od_Grid___eq__ an_Grid___eq__ od_carried_box an_carried_box od_law an_law : Option Addr} {sl__law_bag sl__law_pull sl__law_of sl__law_near sl__law_grid_script sl_without_axis sl_is_number sl_are_numbers sl_is_command sl_is_grid_command sl_check_grid_script sl_axis_script sl_check_script sl_Layout_pieces sl_old_rows_before sl_insert_pieces sl_delete_pieces sl_command_pieces sl_row_count sl_starts_of sl_index_of_row sl_first_rows sl_without_first_rows sl_part sl_label_in sl_label_at sl_renamed sl_joined sl_normal_form sl_followed sl_pieces_behind sl_is_range sl_is_piece sl_is_open sl_first_label sl_may_follow sl_first_wrong sl_Layout___init__ sl_run sl_Grid___init__ sl_run_grid sl_Grid_rows sl_old_ranges sl_new_labels sl_turning_points sl_is_span sl_check_span sl_first_row_from sl_lesser sl_last_row_up_to sl_carried_by sl_carried sl_is_difference sl_difference sl_Grid_columns sl_difference_box sl_Layout___eq__ sl_Grid___eq__ sl_carried_box sl_law : Array (Option Value)} {oc__law_bag kV__law_bag dc__law_bag pm__law_bag cd__law_bag ct__law_bag oc__law_pull kV__law_pull dc__law_pull pm__law_pull cd__law_pull ct__law_pull oc__law_of kV__law_of dc__law_of pm__law_of cd__law_of ct__law_of oc__law_near kV__law_near dc__law_near pm__law_near cd__law_near ct__law_near oc__law_grid_script kV__law_grid_script dc__law_grid_script pm__law_grid_script cd__law_grid_script ct__law_grid_script oc_without_axis kV_without_axis dc_without_axis pm_without_axis cd_without_axis ct_without_axis oc_is_number kV_is_number dc_is_number pm_is_number cd_is_number ct_is_number oc_are_numbers kV_are_numbers dc_are_numbers pm_are_numbers cd_are_numbers ct_are_numbers oc_is_command kV_is_command dc_is_command pm_is_command cd_is_command ct_is_command oc_is_grid_command kV_is_grid_command dc_is_grid_command pm_is_grid_command cd_is_grid_command ct_is_grid_command oc_check_grid_script kV_check_grid_script dc_check_grid_script pm_check_grid_script cd_check_grid_script ct_check_grid_script oc_axis_script kV_axis_script dc_axis_script pm_axis_script cd_axis_script ct_axis_script oc_check_script kV_check_script dc_check_script pm_check_script cd_check_script ct_check_script oc_Layout_pieces kV_Layout_pieces dc_Layout_pieces pm_Layout_pieces cd_Layout_pieces ct_Layout_pieces oc_old_rows_before kV_old_rows_before dc_old_rows_before pm_old_rows_before cd_old_rows_before ct_old_rows_before oc_insert_pieces kV_insert_pieces dc_insert_pieces pm_insert_pieces cd_insert_pieces ct_insert_pieces oc_delete_pieces kV_delete_pieces dc_delete_pieces pm_delete_pieces cd_delete_pieces ct_delete_pieces oc_command_pieces kV_command_pieces dc_command_pieces pm_command_pieces cd_command_pieces ct_command_pieces oc_row_count kV_row_count dc_row_count pm_row_count cd_row_count ct_row_count oc_starts_of kV_starts_of dc_starts_of pm_starts_of cd_starts_of ct_starts_of oc_index_of_row kV_index_of_row dc_index_of_row pm_index_of_row cd_index_of_row ct_index_of_row oc_first_rows kV_first_rows dc_first_rows pm_first_rows cd_first_rows ct_first_rows oc_without_first_rows kV_without_first_rows dc_without_first_rows pm_without_first_rows cd_without_first_rows ct_without_first_rows oc_part kV_part dc_part pm_part cd_part ct_part oc_label_in kV_label_in dc_label_in pm_label_in cd_label_in ct_label_in oc_label_at kV_label_at dc_label_at pm_label_at cd_label_at ct_label_at oc_renamed kV_renamed dc_renamed pm_renamed cd_renamed ct_renamed oc_joined kV_joined dc_joined pm_joined cd_joined ct_joined oc_normal_form kV_normal_form dc_normal_form pm_normal_form cd_normal_form ct_normal_form oc_followed kV_followed dc_followed pm_followed cd_followed ct_followed oc_pieces_behind kV_pieces_behind dc_pieces_behind pm_pieces_behind cd_pieces_behind ct_pieces_behind oc_is_range kV_is_range dc_is_range pm_is_range cd_is_range ct_is_range oc_is_piece kV_is_piece dc_is_piece pm_is_piece cd_is_piece ct_is_piece oc_is_open kV_is_open dc_is_open pm_is_open cd_is_open ct_is_open oc_first_label kV_first_label dc_first_label pm_first_label cd_first_label ct_first_label oc_may_follow kV_may_follow dc_may_follow pm_may_follow cd_may_follow ct_may_follow oc_first_wrong kV_first_wrong dc_first_wrong pm_first_wrong cd_first_wrong ct_first_wrong oc_Layout___init__ kV_Layout___init__ dc_Layout___init__ pm_Layout___init__ cd_Layout___init__ ct_Layout___init__ oc_run dc_run pm_run cd_run ct_run oc_Grid___init__ kV_Grid___init__ dc_Grid___init__ pm_Grid___init__ cd_Grid___init__ ct_Grid___init__ oc_run_grid kV_run_grid dc_run_grid pm_run_grid cd_run_grid ct_run_grid oc_Grid_rows kV_Grid_rows dc_Grid_rows pm_Grid_rows cd_Grid_rows ct_Grid_rows oc_old_ranges kV_old_ranges dc_old_ranges pm_old_ranges cd_old_ranges ct_old_ranges oc_new_labels kV_new_labels dc_new_labels pm_new_labels cd_new_labels ct_new_labels oc_turning_points kV_turning_points dc_turning_points pm_turning_points cd_turning_points ct_turning_points oc_is_span kV_is_span dc_is_span pm_is_span cd_is_span ct_is_span oc_check_span kV_check_span dc_check_span pm_check_span cd_check_span ct_check_span oc_first_row_from kV_first_row_from dc_first_row_from pm_first_row_from cd_first_row_from ct_first_row_from oc_lesser kV_lesser dc_lesser pm_lesser cd_lesser ct_lesser oc_last_row_up_to kV_last_row_up_to dc_last_row_up_to pm_last_row_up_to cd_last_row_up_to ct_last_row_up_to oc_carried_by kV_carried_by dc_carried_by pm_carried_by cd_carried_by ct_carried_by oc_carried kV_carried dc_carried pm_carried cd_carried ct_carried oc_is_difference kV_is_difference dc_is_difference pm_is_difference cd_is_difference ct_is_difference oc_difference kV_difference dc_difference pm_difference cd_difference ct_difference oc_Grid_columns kV_Grid_columns dc_Grid_columns pm_Grid_columns cd_Grid_columns ct_Grid_columns oc_difference_box kV_difference_box dc_difference_box pm_difference_box cd_difference_box ct_difference_box oc_Layout___eq__ kV_Layout___eq__ dc_Layout___eq__ pm_Layout___eq__ cd_Layout___eq__ ct_Layout___eq__ oc_Grid___eq__ kV_Grid___eq__ dc_Grid___eq__ pm_Grid___eq__ cd_Grid___eq__ ct_Grid___eq__ oc_carried_box kV_carried_box dc_carried_box pm_carried_box cd_carried_box ct_carried_box oc_law kV_law dc_law pm_law cd_law ct_law : Value} {t_Layout_LIMIT : Tok} {P_ALL_ROWS : Addr} {oP_ALL_ROWS : Option Addr} {nP_ALL_ROWS : Nat} {sP_ALL_ROWS : Array (Option Value)} {t0_ALL_ROWS : Tok} {P_PLAIN R_PLAIN : Addr} {oP_PLAIN oR_PLAIN : Option Addr} {nP_PLAIN nR_PLAIN : Nat} {sP_PLAIN sR_PLAIN : Array (Option Value)} {tP_PLAIN tR_PLAIN : Tok} {P_WORDS : Addr} {oP_WORDS : Option Addr} {nP_WORDS : Nat} {sP_WORDS : Array (Option Value)} {t0_WORDS t1_WORDS t2_WORDS t3_WORDS : Tok} {kD_run : Addr} {Q_Grid_rows : Addr} {R_Grid_rows : List Value} {Q_Grid_columns : Addr} {R_Grid_columns : List Value}
    (z_all : PySem.W.nsIn K mainGlobals "all" = some none)
    (z_bool : PySem.W.nsIn K mainGlobals "bool" = some none)
    (z_enumerate : PySem.W.nsIn K mainGlobals "enumerate" = some none)
    (z_int : PySem.W.nsIn K mainGlobals "int" = some none)
    (z_isinstance : PySem.W.nsIn K mainGlobals "isinstance" = some none)
    (z_len : PySem.W.nsIn K mainGlobals "len" = some none)
    (z_list : PySem.W.nsIn K mainGlobals "list" = some none)
    (z_max : PySem.W.nsIn K mainGlobals "max" = some none)
    (z_min : PySem.W.nsIn K mainGlobals "min" = some none)
    (z_range : PySem.W.nsIn K mainGlobals "range" = some none)
    (z_set : PySem.W.nsIn K mainGlobals "set" = some none)
    (z_sorted : PySem.W.nsIn K mainGlobals "sorted" = some none)
    (z_tuple : PySem.W.nsIn K mainGlobals "tuple" = some none)
    (z_zip : PySem.W.nsIn K mainGlobals "zip" = some none)
    (aC_Layout : PySem.W.nsIn K mainGlobals "Layout" = some (some (.ref A_Layout)))
    (pg_Layout : PySem.W.plainGet K A_Layout Str.empty = true)
    (hd_Layout : PySem.W.hasDictIn K A_Layout = true)
    (po_Layout : PySem.W.plainOver K A_Layout = true)
    (sa_Layout : PySem.W.findIn K (.ref A_Layout) "__setattr__" = some (some (.builtin "object.__setattr__")))
    (mk_Layout : PySem.W.makesIn K A_Layout = true)
    (kc_Layout : PySem.W.keepIn K (.ref A_Layout) = true)
    (rd_Layout : PySem.W.readsIn K A_Layout (.type "type") = true)
    (ga_Layout : PySem.W.specialIn K (.ref A_Layout) "__getattribute__" = some (some (.builtin "type.__getattribute__")))
    (na_Layout_parts : PySem.W.findIn K (.ref A_Layout) "parts" = some none)
    (na_Layout_starts : PySem.W.findIn K (.ref A_Layout) "starts" = some none)
    (cv_Layout_LIMIT : PySem.W.findCls K (.ref A_Layout) (.type "type") "LIMIT" = some (.val (.int 60 t_Layout_LIMIT)))
    (aC_Grid : PySem.W.nsIn K mainGlobals "Grid" = some (some (.ref A_Grid)))
    (pg_Grid : PySem.W.plainGet K A_Grid Str.empty = true)
    (hd_Grid : PySem.W.hasDictIn K A_Grid = true)
    (po_Grid : PySem.W.plainOver K A_Grid = true)
    (sa_Grid : PySem.W.findIn K (.ref A_Grid) "__setattr__" = some (some (.builtin "object.__setattr__")))
    (mk_Grid : PySem.W.makesIn K A_Grid = true)
    (kc_Grid : PySem.W.keepIn K (.ref A_Grid) = true)
    (rd_Grid : PySem.W.readsIn K A_Grid (.type "type") = true)
    (ga_Grid : PySem.W.specialIn K (.ref A_Grid) "__getattribute__" = some (some (.builtin "type.__getattribute__")))
    (na_Grid_row_layout : PySem.W.findIn K (.ref A_Grid) "row_layout" = some none)
    (na_Grid_column_layout : PySem.W.findIn K (.ref A_Grid) "column_layout" = some none)
    (gp_ALL_ROWS : PySem.W.nsIn K mainGlobals "ALL_ROWS" = some (some (.ref P_ALL_ROWS)))
    (lp_ALL_ROWS : K.lookup P_ALL_ROWS = some ⟨.type "tuple", oP_ALL_ROWS, .seq #[.int 0 t0_ALL_ROWS, .none] nP_ALL_ROWS, sP_ALL_ROWS⟩)
    (gp_PLAIN : PySem.W.nsIn K mainGlobals "PLAIN" = some (some (.ref P_PLAIN)))
    (lp_PLAIN : K.lookup P_PLAIN = some ⟨.type "tuple", oP_PLAIN, .seq #[.ref R_PLAIN] nP_PLAIN, sP_PLAIN⟩)
    (lr_PLAIN : K.lookup R_PLAIN = some ⟨.type "tuple", oR_PLAIN, .seq #[.str "old" tP_PLAIN, .int 0 tR_PLAIN, .none] nR_PLAIN, sR_PLAIN⟩)
    (gp_WORDS : PySem.W.nsIn K mainGlobals "WORDS" = some (some (.ref P_WORDS)))
    (lp_WORDS : K.lookup P_WORDS = some ⟨.type "tuple", oP_WORDS, .seq #[.str "insert_rows" t0_WORDS, .str "delete_rows" t1_WORDS, .str "insert_columns" t2_WORDS, .str "delete_columns" t3_WORDS] nP_WORDS, sP_WORDS⟩)
    (a__law_bag : PySem.W.nsIn K mainGlobals "_law_bag" = some (some (.ref f__law_bag)))
    (l__law_bag : K.lookup f__law_bag = some ⟨oc__law_bag, od__law_bag, .func (PySem.W.fnOf "_law_bag" "_law_bag" (defArgs s__law_bag) (defBody s__law_bag) (defScope s__law_bag) .none kV__law_bag dc__law_bag pm__law_bag an__law_bag cd__law_bag ct__law_bag), sl__law_bag⟩)
    (c__law_bag : PySem.W.codeIn K cd__law_bag "_law_bag" = true)
    (k__law_bag : PySem.W.keepIn K (.ref f__law_bag) = true)
    (a__law_pull : PySem.W.nsIn K mainGlobals "_law_pull" = some (some (.ref f__law_pull)))
    (l__law_pull : K.lookup f__law_pull = some ⟨oc__law_pull, od__law_pull, .func (PySem.W.fnOf "_law_pull" "_law_pull" (defArgs s__law_pull) (defBody s__law_pull) (defScope s__law_pull) .none kV__law_pull dc__law_pull pm__law_pull an__law_pull cd__law_pull ct__law_pull), sl__law_pull⟩)
    (c__law_pull : PySem.W.codeIn K cd__law_pull "_law_pull" = true)
    (k__law_pull : PySem.W.keepIn K (.ref f__law_pull) = true)
    (a__law_of : PySem.W.nsIn K mainGlobals "_law_of" = some (some (.ref f__law_of)))
    (l__law_of : K.lookup f__law_of = some ⟨oc__law_of, od__law_of, .func (PySem.W.fnOf "_law_of" "_law_of" (defArgs s__law_of) (defBody s__law_of) (defScope s__law_of) .none kV__law_of dc__law_of pm__law_of an__law_of cd__law_of ct__law_of), sl__law_of⟩)
    (c__law_of : PySem.W.codeIn K cd__law_of "_law_of" = true)
    (k__law_of : PySem.W.keepIn K (.ref f__law_of) = true)
    (a__law_near : PySem.W.nsIn K mainGlobals "_law_near" = some (some (.ref f__law_near)))
    (l__law_near : K.lookup f__law_near = some ⟨oc__law_near, od__law_near, .func (PySem.W.fnOf "_law_near" "_law_near" (defArgs s__law_near) (defBody s__law_near) (defScope s__law_near) .none kV__law_near dc__law_near pm__law_near an__law_near cd__law_near ct__law_near), sl__law_near⟩)
    (c__law_near : PySem.W.codeIn K cd__law_near "_law_near" = true)
    (k__law_near : PySem.W.keepIn K (.ref f__law_near) = true)
    (a__law_grid_script : PySem.W.nsIn K mainGlobals "_law_grid_script" = some (some (.ref f__law_grid_script)))
    (l__law_grid_script : K.lookup f__law_grid_script = some ⟨oc__law_grid_script, od__law_grid_script, .func (PySem.W.fnOf "_law_grid_script" "_law_grid_script" (defArgs s__law_grid_script) (defBody s__law_grid_script) (defScope s__law_grid_script) .none kV__law_grid_script dc__law_grid_script pm__law_grid_script an__law_grid_script cd__law_grid_script ct__law_grid_script), sl__law_grid_script⟩)
    (c__law_grid_script : PySem.W.codeIn K cd__law_grid_script "_law_grid_script" = true)
    (k__law_grid_script : PySem.W.keepIn K (.ref f__law_grid_script) = true)
    (a_without_axis : PySem.W.nsIn K mainGlobals "without_axis" = some (some (.ref f_without_axis)))
    (l_without_axis : K.lookup f_without_axis = some ⟨oc_without_axis, od_without_axis, .func (PySem.W.fnOf "without_axis" "without_axis" (defArgs s_without_axis) (defBody s_without_axis) (defScope s_without_axis) .none kV_without_axis dc_without_axis pm_without_axis an_without_axis cd_without_axis ct_without_axis), sl_without_axis⟩)
    (c_without_axis : PySem.W.codeIn K cd_without_axis "without_axis" = true)
    (k_without_axis : PySem.W.keepIn K (.ref f_without_axis) = true)
    (a_is_number : PySem.W.nsIn K mainGlobals "is_number" = some (some (.ref f_is_number)))
    (l_is_number : K.lookup f_is_number = some ⟨oc_is_number, od_is_number, .func (PySem.W.fnOf "is_number" "is_number" (defArgs s_is_number) (defBody s_is_number) (defScope s_is_number) .none kV_is_number dc_is_number pm_is_number an_is_number cd_is_number ct_is_number), sl_is_number⟩)
    (c_is_number : PySem.W.codeIn K cd_is_number "is_number" = true)
    (k_is_number : PySem.W.keepIn K (.ref f_is_number) = true)
    (a_are_numbers : PySem.W.nsIn K mainGlobals "are_numbers" = some (some (.ref f_are_numbers)))
    (l_are_numbers : K.lookup f_are_numbers = some ⟨oc_are_numbers, od_are_numbers, .func (PySem.W.fnOf "are_numbers" "are_numbers" (defArgs s_are_numbers) (defBody s_are_numbers) (defScope s_are_numbers) .none kV_are_numbers dc_are_numbers pm_are_numbers an_are_numbers cd_are_numbers ct_are_numbers), sl_are_numbers⟩)
    (c_are_numbers : PySem.W.codeIn K cd_are_numbers "are_numbers" = true)
    (k_are_numbers : PySem.W.keepIn K (.ref f_are_numbers) = true)
    (a_is_command : PySem.W.nsIn K mainGlobals "is_command" = some (some (.ref f_is_command)))
    (l_is_command : K.lookup f_is_command = some ⟨oc_is_command, od_is_command, .func (PySem.W.fnOf "is_command" "is_command" (defArgs s_is_command) (defBody s_is_command) (defScope s_is_command) .none kV_is_command dc_is_command pm_is_command an_is_command cd_is_command ct_is_command), sl_is_command⟩)
    (c_is_command : PySem.W.codeIn K cd_is_command "is_command" = true)
    (k_is_command : PySem.W.keepIn K (.ref f_is_command) = true)
    (a_is_grid_command : PySem.W.nsIn K mainGlobals "is_grid_command" = some (some (.ref f_is_grid_command)))
    (l_is_grid_command : K.lookup f_is_grid_command = some ⟨oc_is_grid_command, od_is_grid_command, .func (PySem.W.fnOf "is_grid_command" "is_grid_command" (defArgs s_is_grid_command) (defBody s_is_grid_command) (defScope s_is_grid_command) .none kV_is_grid_command dc_is_grid_command pm_is_grid_command an_is_grid_command cd_is_grid_command ct_is_grid_command), sl_is_grid_command⟩)
    (c_is_grid_command : PySem.W.codeIn K cd_is_grid_command "is_grid_command" = true)
    (k_is_grid_command : PySem.W.keepIn K (.ref f_is_grid_command) = true)
    (a_check_grid_script : PySem.W.nsIn K mainGlobals "check_grid_script" = some (some (.ref f_check_grid_script)))
    (l_check_grid_script : K.lookup f_check_grid_script = some ⟨oc_check_grid_script, od_check_grid_script, .func (PySem.W.fnOf "check_grid_script" "check_grid_script" (defArgs s_check_grid_script) (defBody s_check_grid_script) (defScope s_check_grid_script) .none kV_check_grid_script dc_check_grid_script pm_check_grid_script an_check_grid_script cd_check_grid_script ct_check_grid_script), sl_check_grid_script⟩)
    (c_check_grid_script : PySem.W.codeIn K cd_check_grid_script "check_grid_script" = true)
    (k_check_grid_script : PySem.W.keepIn K (.ref f_check_grid_script) = true)
    (a_axis_script : PySem.W.nsIn K mainGlobals "axis_script" = some (some (.ref f_axis_script)))
    (l_axis_script : K.lookup f_axis_script = some ⟨oc_axis_script, od_axis_script, .func (PySem.W.fnOf "axis_script" "axis_script" (defArgs s_axis_script) (defBody s_axis_script) (defScope s_axis_script) .none kV_axis_script dc_axis_script pm_axis_script an_axis_script cd_axis_script ct_axis_script), sl_axis_script⟩)
    (c_axis_script : PySem.W.codeIn K cd_axis_script "axis_script" = true)
    (k_axis_script : PySem.W.keepIn K (.ref f_axis_script) = true)
    (a_check_script : PySem.W.nsIn K mainGlobals "check_script" = some (some (.ref f_check_script)))
    (l_check_script : K.lookup f_check_script = some ⟨oc_check_script, od_check_script, .func (PySem.W.fnOf "check_script" "check_script" (defArgs s_check_script) (defBody s_check_script) (defScope s_check_script) .none kV_check_script dc_check_script pm_check_script an_check_script cd_check_script ct_check_script), sl_check_script⟩)
    (c_check_script : PySem.W.codeIn K cd_check_script "check_script" = true)
    (k_check_script : PySem.W.keepIn K (.ref f_check_script) = true)
    (a_Layout_pieces : PySem.W.findIn K (.ref A_Layout) "pieces" = some (some (.ref f_Layout_pieces)))
    (i_Layout_pieces : PySem.W.isFn K (.ref f_Layout_pieces) = true)
    (l_Layout_pieces : K.lookup f_Layout_pieces = some ⟨oc_Layout_pieces, od_Layout_pieces, .func (PySem.W.fnOf "pieces" "Layout.pieces" (defArgs s_Layout_pieces) (defBody s_Layout_pieces) (defScope s_Layout_pieces) .none kV_Layout_pieces dc_Layout_pieces pm_Layout_pieces an_Layout_pieces cd_Layout_pieces ct_Layout_pieces), sl_Layout_pieces⟩)
    (c_Layout_pieces : PySem.W.codeIn K cd_Layout_pieces "Layout.pieces" = true)
    (k_Layout_pieces : PySem.W.keepIn K (.ref f_Layout_pieces) = true)
    (a_old_rows_before : PySem.W.nsIn K mainGlobals "old_rows_before" = some (some (.ref f_old_rows_before)))
    (l_old_rows_before : K.lookup f_old_rows_before = some ⟨oc_old_rows_before, od_old_rows_before, .func (PySem.W.fnOf "old_rows_before" "old_rows_before" (defArgs s_old_rows_before) (defBody s_old_rows_before) (defScope s_old_rows_before) .none kV_old_rows_before dc_old_rows_before pm_old_rows_before an_old_rows_before cd_old_rows_before ct_old_rows_before), sl_old_rows_before⟩)
    (c_old_rows_before : PySem.W.codeIn K cd_old_rows_before "old_rows_before" = true)
    (k_old_rows_before : PySem.W.keepIn K (.ref f_old_rows_before) = true)
    (a_insert_pieces : PySem.W.nsIn K mainGlobals "insert_pieces" = some (some (.ref f_insert_pieces)))
    (l_insert_pieces : K.lookup f_insert_pieces = some ⟨oc_insert_pieces, od_insert_pieces, .func (PySem.W.fnOf "insert_pieces" "insert_pieces" (defArgs s_insert_pieces) (defBody s_insert_pieces) (defScope s_insert_pieces) .none kV_insert_pieces dc_insert_pieces pm_insert_pieces an_insert_pieces cd_insert_pieces ct_insert_pieces), sl_insert_pieces⟩)
    (c_insert_pieces : PySem.W.codeIn K cd_insert_pieces "insert_pieces" = true)
    (k_insert_pieces : PySem.W.keepIn K (.ref f_insert_pieces) = true)
    (a_delete_pieces : PySem.W.nsIn K mainGlobals "delete_pieces" = some (some (.ref f_delete_pieces)))
    (l_delete_pieces : K.lookup f_delete_pieces = some ⟨oc_delete_pieces, od_delete_pieces, .func (PySem.W.fnOf "delete_pieces" "delete_pieces" (defArgs s_delete_pieces) (defBody s_delete_pieces) (defScope s_delete_pieces) .none kV_delete_pieces dc_delete_pieces pm_delete_pieces an_delete_pieces cd_delete_pieces ct_delete_pieces), sl_delete_pieces⟩)
    (c_delete_pieces : PySem.W.codeIn K cd_delete_pieces "delete_pieces" = true)
    (k_delete_pieces : PySem.W.keepIn K (.ref f_delete_pieces) = true)
    (a_command_pieces : PySem.W.nsIn K mainGlobals "command_pieces" = some (some (.ref f_command_pieces)))
    (l_command_pieces : K.lookup f_command_pieces = some ⟨oc_command_pieces, od_command_pieces, .func (PySem.W.fnOf "command_pieces" "command_pieces" (defArgs s_command_pieces) (defBody s_command_pieces) (defScope s_command_pieces) .none kV_command_pieces dc_command_pieces pm_command_pieces an_command_pieces cd_command_pieces ct_command_pieces), sl_command_pieces⟩)
    (c_command_pieces : PySem.W.codeIn K cd_command_pieces "command_pieces" = true)
    (k_command_pieces : PySem.W.keepIn K (.ref f_command_pieces) = true)
    (a_row_count : PySem.W.nsIn K mainGlobals "row_count" = some (some (.ref f_row_count)))
    (l_row_count : K.lookup f_row_count = some ⟨oc_row_count, od_row_count, .func (PySem.W.fnOf "row_count" "row_count" (defArgs s_row_count) (defBody s_row_count) (defScope s_row_count) .none kV_row_count dc_row_count pm_row_count an_row_count cd_row_count ct_row_count), sl_row_count⟩)
    (c_row_count : PySem.W.codeIn K cd_row_count "row_count" = true)
    (k_row_count : PySem.W.keepIn K (.ref f_row_count) = true)
    (a_starts_of : PySem.W.nsIn K mainGlobals "starts_of" = some (some (.ref f_starts_of)))
    (l_starts_of : K.lookup f_starts_of = some ⟨oc_starts_of, od_starts_of, .func (PySem.W.fnOf "starts_of" "starts_of" (defArgs s_starts_of) (defBody s_starts_of) (defScope s_starts_of) .none kV_starts_of dc_starts_of pm_starts_of an_starts_of cd_starts_of ct_starts_of), sl_starts_of⟩)
    (c_starts_of : PySem.W.codeIn K cd_starts_of "starts_of" = true)
    (k_starts_of : PySem.W.keepIn K (.ref f_starts_of) = true)
    (a_index_of_row : PySem.W.nsIn K mainGlobals "index_of_row" = some (some (.ref f_index_of_row)))
    (l_index_of_row : K.lookup f_index_of_row = some ⟨oc_index_of_row, od_index_of_row, .func (PySem.W.fnOf "index_of_row" "index_of_row" (defArgs s_index_of_row) (defBody s_index_of_row) (defScope s_index_of_row) .none kV_index_of_row dc_index_of_row pm_index_of_row an_index_of_row cd_index_of_row ct_index_of_row), sl_index_of_row⟩)
    (c_index_of_row : PySem.W.codeIn K cd_index_of_row "index_of_row" = true)
    (k_index_of_row : PySem.W.keepIn K (.ref f_index_of_row) = true)
    (a_first_rows : PySem.W.nsIn K mainGlobals "first_rows" = some (some (.ref f_first_rows)))
    (l_first_rows : K.lookup f_first_rows = some ⟨oc_first_rows, od_first_rows, .func (PySem.W.fnOf "first_rows" "first_rows" (defArgs s_first_rows) (defBody s_first_rows) (defScope s_first_rows) .none kV_first_rows dc_first_rows pm_first_rows an_first_rows cd_first_rows ct_first_rows), sl_first_rows⟩)
    (c_first_rows : PySem.W.codeIn K cd_first_rows "first_rows" = true)
    (k_first_rows : PySem.W.keepIn K (.ref f_first_rows) = true)
    (a_without_first_rows : PySem.W.nsIn K mainGlobals "without_first_rows" = some (some (.ref f_without_first_rows)))
    (l_without_first_rows : K.lookup f_without_first_rows = some ⟨oc_without_first_rows, od_without_first_rows, .func (PySem.W.fnOf "without_first_rows" "without_first_rows" (defArgs s_without_first_rows) (defBody s_without_first_rows) (defScope s_without_first_rows) .none kV_without_first_rows dc_without_first_rows pm_without_first_rows an_without_first_rows cd_without_first_rows ct_without_first_rows), sl_without_first_rows⟩)
    (c_without_first_rows : PySem.W.codeIn K cd_without_first_rows "without_first_rows" = true)
    (k_without_first_rows : PySem.W.keepIn K (.ref f_without_first_rows) = true)
    (a_part : PySem.W.nsIn K mainGlobals "part" = some (some (.ref f_part)))
    (l_part : K.lookup f_part = some ⟨oc_part, od_part, .func (PySem.W.fnOf "part" "part" (defArgs s_part) (defBody s_part) (defScope s_part) .none kV_part dc_part pm_part an_part cd_part ct_part), sl_part⟩)
    (c_part : PySem.W.codeIn K cd_part "part" = true)
    (k_part : PySem.W.keepIn K (.ref f_part) = true)
    (a_label_in : PySem.W.nsIn K mainGlobals "label_in" = some (some (.ref f_label_in)))
    (l_label_in : K.lookup f_label_in = some ⟨oc_label_in, od_label_in, .func (PySem.W.fnOf "label_in" "label_in" (defArgs s_label_in) (defBody s_label_in) (defScope s_label_in) .none kV_label_in dc_label_in pm_label_in an_label_in cd_label_in ct_label_in), sl_label_in⟩)
    (c_label_in : PySem.W.codeIn K cd_label_in "label_in" = true)
    (k_label_in : PySem.W.keepIn K (.ref f_label_in) = true)
    (a_label_at : PySem.W.nsIn K mainGlobals "label_at" = some (some (.ref f_label_at)))
    (l_label_at : K.lookup f_label_at = some ⟨oc_label_at, od_label_at, .func (PySem.W.fnOf "label_at" "label_at" (defArgs s_label_at) (defBody s_label_at) (defScope s_label_at) .none kV_label_at dc_label_at pm_label_at an_label_at cd_label_at ct_label_at), sl_label_at⟩)
    (c_label_at : PySem.W.codeIn K cd_label_at "label_at" = true)
    (k_label_at : PySem.W.keepIn K (.ref f_label_at) = true)
    (a_renamed : PySem.W.nsIn K mainGlobals "renamed" = some (some (.ref f_renamed)))
    (l_renamed : K.lookup f_renamed = some ⟨oc_renamed, od_renamed, .func (PySem.W.fnOf "renamed" "renamed" (defArgs s_renamed) (defBody s_renamed) (defScope s_renamed) .none kV_renamed dc_renamed pm_renamed an_renamed cd_renamed ct_renamed), sl_renamed⟩)
    (c_renamed : PySem.W.codeIn K cd_renamed "renamed" = true)
    (k_renamed : PySem.W.keepIn K (.ref f_renamed) = true)
    (a_joined : PySem.W.nsIn K mainGlobals "joined" = some (some (.ref f_joined)))
    (l_joined : K.lookup f_joined = some ⟨oc_joined, od_joined, .func (PySem.W.fnOf "joined" "joined" (defArgs s_joined) (defBody s_joined) (defScope s_joined) .none kV_joined dc_joined pm_joined an_joined cd_joined ct_joined), sl_joined⟩)
    (c_joined : PySem.W.codeIn K cd_joined "joined" = true)
    (k_joined : PySem.W.keepIn K (.ref f_joined) = true)
    (a_normal_form : PySem.W.nsIn K mainGlobals "normal_form" = some (some (.ref f_normal_form)))
    (l_normal_form : K.lookup f_normal_form = some ⟨oc_normal_form, od_normal_form, .func (PySem.W.fnOf "normal_form" "normal_form" (defArgs s_normal_form) (defBody s_normal_form) (defScope s_normal_form) .none kV_normal_form dc_normal_form pm_normal_form an_normal_form cd_normal_form ct_normal_form), sl_normal_form⟩)
    (c_normal_form : PySem.W.codeIn K cd_normal_form "normal_form" = true)
    (k_normal_form : PySem.W.keepIn K (.ref f_normal_form) = true)
    (a_followed : PySem.W.nsIn K mainGlobals "followed" = some (some (.ref f_followed)))
    (l_followed : K.lookup f_followed = some ⟨oc_followed, od_followed, .func (PySem.W.fnOf "followed" "followed" (defArgs s_followed) (defBody s_followed) (defScope s_followed) .none kV_followed dc_followed pm_followed an_followed cd_followed ct_followed), sl_followed⟩)
    (c_followed : PySem.W.codeIn K cd_followed "followed" = true)
    (k_followed : PySem.W.keepIn K (.ref f_followed) = true)
    (a_pieces_behind : PySem.W.nsIn K mainGlobals "pieces_behind" = some (some (.ref f_pieces_behind)))
    (l_pieces_behind : K.lookup f_pieces_behind = some ⟨oc_pieces_behind, od_pieces_behind, .func (PySem.W.fnOf "pieces_behind" "pieces_behind" (defArgs s_pieces_behind) (defBody s_pieces_behind) (defScope s_pieces_behind) .none kV_pieces_behind dc_pieces_behind pm_pieces_behind an_pieces_behind cd_pieces_behind ct_pieces_behind), sl_pieces_behind⟩)
    (c_pieces_behind : PySem.W.codeIn K cd_pieces_behind "pieces_behind" = true)
    (k_pieces_behind : PySem.W.keepIn K (.ref f_pieces_behind) = true)
    (a_is_range : PySem.W.nsIn K mainGlobals "is_range" = some (some (.ref f_is_range)))
    (l_is_range : K.lookup f_is_range = some ⟨oc_is_range, od_is_range, .func (PySem.W.fnOf "is_range" "is_range" (defArgs s_is_range) (defBody s_is_range) (defScope s_is_range) .none kV_is_range dc_is_range pm_is_range an_is_range cd_is_range ct_is_range), sl_is_range⟩)
    (c_is_range : PySem.W.codeIn K cd_is_range "is_range" = true)
    (k_is_range : PySem.W.keepIn K (.ref f_is_range) = true)
    (a_is_piece : PySem.W.nsIn K mainGlobals "is_piece" = some (some (.ref f_is_piece)))
    (l_is_piece : K.lookup f_is_piece = some ⟨oc_is_piece, od_is_piece, .func (PySem.W.fnOf "is_piece" "is_piece" (defArgs s_is_piece) (defBody s_is_piece) (defScope s_is_piece) .none kV_is_piece dc_is_piece pm_is_piece an_is_piece cd_is_piece ct_is_piece), sl_is_piece⟩)
    (c_is_piece : PySem.W.codeIn K cd_is_piece "is_piece" = true)
    (k_is_piece : PySem.W.keepIn K (.ref f_is_piece) = true)
    (a_is_open : PySem.W.nsIn K mainGlobals "is_open" = some (some (.ref f_is_open)))
    (l_is_open : K.lookup f_is_open = some ⟨oc_is_open, od_is_open, .func (PySem.W.fnOf "is_open" "is_open" (defArgs s_is_open) (defBody s_is_open) (defScope s_is_open) .none kV_is_open dc_is_open pm_is_open an_is_open cd_is_open ct_is_open), sl_is_open⟩)
    (c_is_open : PySem.W.codeIn K cd_is_open "is_open" = true)
    (k_is_open : PySem.W.keepIn K (.ref f_is_open) = true)
    (a_first_label : PySem.W.nsIn K mainGlobals "first_label" = some (some (.ref f_first_label)))
    (l_first_label : K.lookup f_first_label = some ⟨oc_first_label, od_first_label, .func (PySem.W.fnOf "first_label" "first_label" (defArgs s_first_label) (defBody s_first_label) (defScope s_first_label) .none kV_first_label dc_first_label pm_first_label an_first_label cd_first_label ct_first_label), sl_first_label⟩)
    (c_first_label : PySem.W.codeIn K cd_first_label "first_label" = true)
    (k_first_label : PySem.W.keepIn K (.ref f_first_label) = true)
    (a_may_follow : PySem.W.nsIn K mainGlobals "may_follow" = some (some (.ref f_may_follow)))
    (l_may_follow : K.lookup f_may_follow = some ⟨oc_may_follow, od_may_follow, .func (PySem.W.fnOf "may_follow" "may_follow" (defArgs s_may_follow) (defBody s_may_follow) (defScope s_may_follow) .none kV_may_follow dc_may_follow pm_may_follow an_may_follow cd_may_follow ct_may_follow), sl_may_follow⟩)
    (c_may_follow : PySem.W.codeIn K cd_may_follow "may_follow" = true)
    (k_may_follow : PySem.W.keepIn K (.ref f_may_follow) = true)
    (a_first_wrong : PySem.W.nsIn K mainGlobals "first_wrong" = some (some (.ref f_first_wrong)))
    (l_first_wrong : K.lookup f_first_wrong = some ⟨oc_first_wrong, od_first_wrong, .func (PySem.W.fnOf "first_wrong" "first_wrong" (defArgs s_first_wrong) (defBody s_first_wrong) (defScope s_first_wrong) .none kV_first_wrong dc_first_wrong pm_first_wrong an_first_wrong cd_first_wrong ct_first_wrong), sl_first_wrong⟩)
    (c_first_wrong : PySem.W.codeIn K cd_first_wrong "first_wrong" = true)
    (k_first_wrong : PySem.W.keepIn K (.ref f_first_wrong) = true)
    (a_Layout___init__ : PySem.W.findIn K (.ref A_Layout) "__init__" = some (some (.ref f_Layout___init__)))
    (i_Layout___init__ : PySem.W.isFn K (.ref f_Layout___init__) = true)
    (l_Layout___init__ : K.lookup f_Layout___init__ = some ⟨oc_Layout___init__, od_Layout___init__, .func (PySem.W.fnOf "__init__" "Layout.__init__" (defArgs s_Layout___init__) (defBody s_Layout___init__) (defScope s_Layout___init__) .none kV_Layout___init__ dc_Layout___init__ pm_Layout___init__ an_Layout___init__ cd_Layout___init__ ct_Layout___init__), sl_Layout___init__⟩)
    (c_Layout___init__ : PySem.W.codeIn K cd_Layout___init__ "Layout.__init__" = true)
    (k_Layout___init__ : PySem.W.keepIn K (.ref f_Layout___init__) = true)
    (a_run : PySem.W.nsIn K mainGlobals "run" = some (some (.ref f_run)))
    (l_run : K.lookup f_run = some ⟨oc_run, od_run, .func (PySem.W.fnOf "run" "run" (defArgs s_run) (defBody s_run) (defScope s_run) .none (.ref kD_run) dc_run pm_run an_run cd_run ct_run), sl_run⟩)
    (w_run : PySem.W.nsIn K kD_run "start" = some (some .none))
    (c_run : PySem.W.codeIn K cd_run "run" = true)
    (k_run : PySem.W.keepIn K (.ref f_run) = true)
    (a_Grid___init__ : PySem.W.findIn K (.ref A_Grid) "__init__" = some (some (.ref f_Grid___init__)))
    (i_Grid___init__ : PySem.W.isFn K (.ref f_Grid___init__) = true)
    (l_Grid___init__ : K.lookup f_Grid___init__ = some ⟨oc_Grid___init__, od_Grid___init__, .func (PySem.W.fnOf "__init__" "Grid.__init__" (defArgs s_Grid___init__) (defBody s_Grid___init__) (defScope s_Grid___init__) .none kV_Grid___init__ dc_Grid___init__ pm_Grid___init__ an_Grid___init__ cd_Grid___init__ ct_Grid___init__), sl_Grid___init__⟩)
    (c_Grid___init__ : PySem.W.codeIn K cd_Grid___init__ "Grid.__init__" = true)
    (k_Grid___init__ : PySem.W.keepIn K (.ref f_Grid___init__) = true)
    (a_run_grid : PySem.W.nsIn K mainGlobals "run_grid" = some (some (.ref f_run_grid)))
    (l_run_grid : K.lookup f_run_grid = some ⟨oc_run_grid, od_run_grid, .func (PySem.W.fnOf "run_grid" "run_grid" (defArgs s_run_grid) (defBody s_run_grid) (defScope s_run_grid) .none kV_run_grid dc_run_grid pm_run_grid an_run_grid cd_run_grid ct_run_grid), sl_run_grid⟩)
    (c_run_grid : PySem.W.codeIn K cd_run_grid "run_grid" = true)
    (k_run_grid : PySem.W.keepIn K (.ref f_run_grid) = true)
    (a_Grid_rows : PySem.W.findIn K (.ref A_Grid) "rows" = some (some (.ref Q_Grid_rows)))
    (r_Grid_rows : PySem.W.recIn K Q_Grid_rows "property" = some (.ref f_Grid_rows :: R_Grid_rows))
    (g_Grid_rows : PySem.W.specialIn K (.ref Q_Grid_rows) "__get__" = some (some (.builtin "property.__get__")))
    (t_Grid_rows : PySem.W.takesIn K (.ref Q_Grid_rows) = some true)
    (l_Grid_rows : K.lookup f_Grid_rows = some ⟨oc_Grid_rows, od_Grid_rows, .func (PySem.W.fnOf "rows" "Grid.rows" (defArgs s_Grid_rows) (defBody s_Grid_rows) (defScope s_Grid_rows) .none kV_Grid_rows dc_Grid_rows pm_Grid_rows an_Grid_rows cd_Grid_rows ct_Grid_rows), sl_Grid_rows⟩)
    (c_Grid_rows : PySem.W.codeIn K cd_Grid_rows "Grid.rows" = true)
    (k_Grid_rows : PySem.W.keepIn K (.ref f_Grid_rows) = true)
    (a_old_ranges : PySem.W.nsIn K mainGlobals "old_ranges" = some (some (.ref f_old_ranges)))
    (l_old_ranges : K.lookup f_old_ranges = some ⟨oc_old_ranges, od_old_ranges, .func (PySem.W.fnOf "old_ranges" "old_ranges" (defArgs s_old_ranges) (defBody s_old_ranges) (defScope s_old_ranges) .none kV_old_ranges dc_old_ranges pm_old_ranges an_old_ranges cd_old_ranges ct_old_ranges), sl_old_ranges⟩)
    (c_old_ranges : PySem.W.codeIn K cd_old_ranges "old_ranges" = true)
    (k_old_ranges : PySem.W.keepIn K (.ref f_old_ranges) = true)
    (a_new_labels : PySem.W.nsIn K mainGlobals "new_labels" = some (some (.ref f_new_labels)))
    (l_new_labels : K.lookup f_new_labels = some ⟨oc_new_labels, od_new_labels, .func (PySem.W.fnOf "new_labels" "new_labels" (defArgs s_new_labels) (defBody s_new_labels) (defScope s_new_labels) .none kV_new_labels dc_new_labels pm_new_labels an_new_labels cd_new_labels ct_new_labels), sl_new_labels⟩)
    (c_new_labels : PySem.W.codeIn K cd_new_labels "new_labels" = true)
    (k_new_labels : PySem.W.keepIn K (.ref f_new_labels) = true)
    (a_turning_points : PySem.W.nsIn K mainGlobals "turning_points" = some (some (.ref f_turning_points)))
    (l_turning_points : K.lookup f_turning_points = some ⟨oc_turning_points, od_turning_points, .func (PySem.W.fnOf "turning_points" "turning_points" (defArgs s_turning_points) (defBody s_turning_points) (defScope s_turning_points) .none kV_turning_points dc_turning_points pm_turning_points an_turning_points cd_turning_points ct_turning_points), sl_turning_points⟩)
    (c_turning_points : PySem.W.codeIn K cd_turning_points "turning_points" = true)
    (k_turning_points : PySem.W.keepIn K (.ref f_turning_points) = true)
    (a_is_span : PySem.W.nsIn K mainGlobals "is_span" = some (some (.ref f_is_span)))
    (l_is_span : K.lookup f_is_span = some ⟨oc_is_span, od_is_span, .func (PySem.W.fnOf "is_span" "is_span" (defArgs s_is_span) (defBody s_is_span) (defScope s_is_span) .none kV_is_span dc_is_span pm_is_span an_is_span cd_is_span ct_is_span), sl_is_span⟩)
    (c_is_span : PySem.W.codeIn K cd_is_span "is_span" = true)
    (k_is_span : PySem.W.keepIn K (.ref f_is_span) = true)
    (a_check_span : PySem.W.nsIn K mainGlobals "check_span" = some (some (.ref f_check_span)))
    (l_check_span : K.lookup f_check_span = some ⟨oc_check_span, od_check_span, .func (PySem.W.fnOf "check_span" "check_span" (defArgs s_check_span) (defBody s_check_span) (defScope s_check_span) .none kV_check_span dc_check_span pm_check_span an_check_span cd_check_span ct_check_span), sl_check_span⟩)
    (c_check_span : PySem.W.codeIn K cd_check_span "check_span" = true)
    (k_check_span : PySem.W.keepIn K (.ref f_check_span) = true)
    (a_first_row_from : PySem.W.nsIn K mainGlobals "first_row_from" = some (some (.ref f_first_row_from)))
    (l_first_row_from : K.lookup f_first_row_from = some ⟨oc_first_row_from, od_first_row_from, .func (PySem.W.fnOf "first_row_from" "first_row_from" (defArgs s_first_row_from) (defBody s_first_row_from) (defScope s_first_row_from) .none kV_first_row_from dc_first_row_from pm_first_row_from an_first_row_from cd_first_row_from ct_first_row_from), sl_first_row_from⟩)
    (c_first_row_from : PySem.W.codeIn K cd_first_row_from "first_row_from" = true)
    (k_first_row_from : PySem.W.keepIn K (.ref f_first_row_from) = true)
    (a_lesser : PySem.W.nsIn K mainGlobals "lesser" = some (some (.ref f_lesser)))
    (l_lesser : K.lookup f_lesser = some ⟨oc_lesser, od_lesser, .func (PySem.W.fnOf "lesser" "lesser" (defArgs s_lesser) (defBody s_lesser) (defScope s_lesser) .none kV_lesser dc_lesser pm_lesser an_lesser cd_lesser ct_lesser), sl_lesser⟩)
    (c_lesser : PySem.W.codeIn K cd_lesser "lesser" = true)
    (k_lesser : PySem.W.keepIn K (.ref f_lesser) = true)
    (a_last_row_up_to : PySem.W.nsIn K mainGlobals "last_row_up_to" = some (some (.ref f_last_row_up_to)))
    (l_last_row_up_to : K.lookup f_last_row_up_to = some ⟨oc_last_row_up_to, od_last_row_up_to, .func (PySem.W.fnOf "last_row_up_to" "last_row_up_to" (defArgs s_last_row_up_to) (defBody s_last_row_up_to) (defScope s_last_row_up_to) .none kV_last_row_up_to dc_last_row_up_to pm_last_row_up_to an_last_row_up_to cd_last_row_up_to ct_last_row_up_to), sl_last_row_up_to⟩)
    (c_last_row_up_to : PySem.W.codeIn K cd_last_row_up_to "last_row_up_to" = true)
    (k_last_row_up_to : PySem.W.keepIn K (.ref f_last_row_up_to) = true)
    (a_carried_by : PySem.W.nsIn K mainGlobals "carried_by" = some (some (.ref f_carried_by)))
    (l_carried_by : K.lookup f_carried_by = some ⟨oc_carried_by, od_carried_by, .func (PySem.W.fnOf "carried_by" "carried_by" (defArgs s_carried_by) (defBody s_carried_by) (defScope s_carried_by) .none kV_carried_by dc_carried_by pm_carried_by an_carried_by cd_carried_by ct_carried_by), sl_carried_by⟩)
    (c_carried_by : PySem.W.codeIn K cd_carried_by "carried_by" = true)
    (k_carried_by : PySem.W.keepIn K (.ref f_carried_by) = true)
    (a_carried : PySem.W.nsIn K mainGlobals "carried" = some (some (.ref f_carried)))
    (l_carried : K.lookup f_carried = some ⟨oc_carried, od_carried, .func (PySem.W.fnOf "carried" "carried" (defArgs s_carried) (defBody s_carried) (defScope s_carried) .none kV_carried dc_carried pm_carried an_carried cd_carried ct_carried), sl_carried⟩)
    (c_carried : PySem.W.codeIn K cd_carried "carried" = true)
    (k_carried : PySem.W.keepIn K (.ref f_carried) = true)
    (a_is_difference : PySem.W.nsIn K mainGlobals "is_difference" = some (some (.ref f_is_difference)))
    (l_is_difference : K.lookup f_is_difference = some ⟨oc_is_difference, od_is_difference, .func (PySem.W.fnOf "is_difference" "is_difference" (defArgs s_is_difference) (defBody s_is_difference) (defScope s_is_difference) .none kV_is_difference dc_is_difference pm_is_difference an_is_difference cd_is_difference ct_is_difference), sl_is_difference⟩)
    (c_is_difference : PySem.W.codeIn K cd_is_difference "is_difference" = true)
    (k_is_difference : PySem.W.keepIn K (.ref f_is_difference) = true)
    (a_difference : PySem.W.nsIn K mainGlobals "difference" = some (some (.ref f_difference)))
    (l_difference : K.lookup f_difference = some ⟨oc_difference, od_difference, .func (PySem.W.fnOf "difference" "difference" (defArgs s_difference) (defBody s_difference) (defScope s_difference) .none kV_difference dc_difference pm_difference an_difference cd_difference ct_difference), sl_difference⟩)
    (c_difference : PySem.W.codeIn K cd_difference "difference" = true)
    (k_difference : PySem.W.keepIn K (.ref f_difference) = true)
    (a_Grid_columns : PySem.W.findIn K (.ref A_Grid) "columns" = some (some (.ref Q_Grid_columns)))
    (r_Grid_columns : PySem.W.recIn K Q_Grid_columns "property" = some (.ref f_Grid_columns :: R_Grid_columns))
    (g_Grid_columns : PySem.W.specialIn K (.ref Q_Grid_columns) "__get__" = some (some (.builtin "property.__get__")))
    (t_Grid_columns : PySem.W.takesIn K (.ref Q_Grid_columns) = some true)
    (l_Grid_columns : K.lookup f_Grid_columns = some ⟨oc_Grid_columns, od_Grid_columns, .func (PySem.W.fnOf "columns" "Grid.columns" (defArgs s_Grid_columns) (defBody s_Grid_columns) (defScope s_Grid_columns) .none kV_Grid_columns dc_Grid_columns pm_Grid_columns an_Grid_columns cd_Grid_columns ct_Grid_columns), sl_Grid_columns⟩)
    (c_Grid_columns : PySem.W.codeIn K cd_Grid_columns "Grid.columns" = true)
    (k_Grid_columns : PySem.W.keepIn K (.ref f_Grid_columns) = true)
    (a_difference_box : PySem.W.nsIn K mainGlobals "difference_box" = some (some (.ref f_difference_box)))
    (l_difference_box : K.lookup f_difference_box = some ⟨oc_difference_box, od_difference_box, .func (PySem.W.fnOf "difference_box" "difference_box" (defArgs s_difference_box) (defBody s_difference_box) (defScope s_difference_box) .none kV_difference_box dc_difference_box pm_difference_box an_difference_box cd_difference_box ct_difference_box), sl_difference_box⟩)
    (c_difference_box : PySem.W.codeIn K cd_difference_box "difference_box" = true)
    (k_difference_box : PySem.W.keepIn K (.ref f_difference_box) = true)
    (a_Layout___eq__ : PySem.W.findIn K (.ref A_Layout) "__eq__" = some (some (.ref f_Layout___eq__)))
    (i_Layout___eq__ : PySem.W.isFn K (.ref f_Layout___eq__) = true)
    (l_Layout___eq__ : K.lookup f_Layout___eq__ = some ⟨oc_Layout___eq__, od_Layout___eq__, .func (PySem.W.fnOf "__eq__" "Layout.__eq__" (defArgs s_Layout___eq__) (defBody s_Layout___eq__) (defScope s_Layout___eq__) .none kV_Layout___eq__ dc_Layout___eq__ pm_Layout___eq__ an_Layout___eq__ cd_Layout___eq__ ct_Layout___eq__), sl_Layout___eq__⟩)
    (c_Layout___eq__ : PySem.W.codeIn K cd_Layout___eq__ "Layout.__eq__" = true)
    (k_Layout___eq__ : PySem.W.keepIn K (.ref f_Layout___eq__) = true)
    (a_Grid___eq__ : PySem.W.findIn K (.ref A_Grid) "__eq__" = some (some (.ref f_Grid___eq__)))
    (i_Grid___eq__ : PySem.W.isFn K (.ref f_Grid___eq__) = true)
    (l_Grid___eq__ : K.lookup f_Grid___eq__ = some ⟨oc_Grid___eq__, od_Grid___eq__, .func (PySem.W.fnOf "__eq__" "Grid.__eq__" (defArgs s_Grid___eq__) (defBody s_Grid___eq__) (defScope s_Grid___eq__) .none kV_Grid___eq__ dc_Grid___eq__ pm_Grid___eq__ an_Grid___eq__ cd_Grid___eq__ ct_Grid___eq__), sl_Grid___eq__⟩)
    (c_Grid___eq__ : PySem.W.codeIn K cd_Grid___eq__ "Grid.__eq__" = true)
    (k_Grid___eq__ : PySem.W.keepIn K (.ref f_Grid___eq__) = true)
    (a_carried_box : PySem.W.nsIn K mainGlobals "carried_box" = some (some (.ref f_carried_box)))
    (l_carried_box : K.lookup f_carried_box = some ⟨oc_carried_box, od_carried_box, .func (PySem.W.fnOf "carried_box" "carried_box" (defArgs s_carried_box) (defBody s_carried_box) (defScope s_carried_box) .none kV_carried_box dc_carried_box pm_carried_box an_carried_box cd_carried_box ct_carried_box), sl_carried_box⟩)
    (c_carried_box : PySem.W.codeIn K cd_carried_box "carried_box" = true)
    (k_carried_box : PySem.W.keepIn K (.ref f_carried_box) = true)
    (a_law : PySem.W.nsIn K mainGlobals "law" = some (some (.ref f_law)))
    (l_law : K.lookup f_law = some ⟨oc_law, od_law, .func (PySem.W.fnOf "law" "law" (defArgs s_law) (defBody s_law) (defScope s_law) .none kV_law dc_law pm_law an_law cd_law ct_law), sl_law⟩)
    (c_law : PySem.W.codeIn K cd_law "law" = true)
    (k_law : PySem.W.keepIn K (.ref f_law) = true)
    (eh_Grid : PySem.W.findIn K (.ref A_Grid) "__class__" = some (some (.builtin "object.__class__")))
    (en_Grid : PySem.W.specialIn K (.builtin "object.__class__") "__get__" = some (some (.builtin "getset_descriptor.__get__")))
    (et_Grid : PySem.W.takesIn K (.builtin "object.__class__") = some true)
    (em_Grid : PySem.W.mroIn K A_Grid (.type "object") = some true)
    (ee_Grid : PySem.W.findIn K (.ref A_Grid) "__ne__" = some (some (.builtin "object.__ne__")))
    (ey_Grid : PySem.W.typeIn K (.ref A_Grid) = some (.type "type"))
    (eh_Layout : PySem.W.findIn K (.ref A_Layout) "__class__" = some (some (.builtin "object.__class__")))
    (en_Layout : PySem.W.specialIn K (.builtin "object.__class__") "__get__" = some (some (.builtin "getset_descriptor.__get__")))
    (et_Layout : PySem.W.takesIn K (.builtin "object.__class__") = some true)
    (em_Layout : PySem.W.mroIn K A_Layout (.type "object") = some true)
    (ee_Layout : PySem.W.findIn K (.ref A_Layout) "__ne__" = some (some (.builtin "object.__ne__")))
    (ey_Layout : PySem.W.typeIn K (.ref A_Layout) = some (.type "type"))
    : ∃ fd : FuncData, (∀ (s : Shared) (v : Value), BindsTo s fd ⟨[v], []⟩ [("_law_script", v)]) ∧ ∀ base : Heap, K.In base → base.Ns mainGlobals mg → FnOk l.prog w K mg base CX0 9 fa fd ["_law_script"] (spLaw K) := by
  have e := hfa.symm.trans (PySem.W.mg_of X G a_law)
  cases e
  let T : Txt K mg := {
    b_all := PySem.W.mg_none_of X G z_all,
    b_bool := PySem.W.mg_none_of X G z_bool,
    b_enumerate := PySem.W.mg_none_of X G z_enumerate,
    b_int := PySem.W.mg_none_of X G z_int,
    b_isinstance := PySem.W.mg_none_of X G z_isinstance,
    b_len := PySem.W.mg_none_of X G z_len,
    b_list := PySem.W.mg_none_of X G z_list,
    b_max := PySem.W.mg_none_of X G z_max,
    b_min := PySem.W.mg_none_of X G z_min,
    b_range := PySem.W.mg_none_of X G z_range,
    b_set := PySem.W.mg_none_of X G z_set,
    b_sorted := PySem.W.mg_none_of X G z_sorted,
    b_tuple := PySem.W.mg_none_of X G z_tuple,
    b_zip := PySem.W.mg_none_of X G z_zip,
    a_Layout := A_Layout,
    mc_Layout := (.type "type"),
    g_Layout := PySem.W.mg_of X G aC_Layout,
    k_Layout := ⟨pg_Layout, hd_Layout, po_Layout, sa_Layout⟩,
    r_Layout := ⟨rd_Layout, ga_Layout⟩,
    na_Layout_parts := na_Layout_parts,
    na_Layout_starts := na_Layout_starts,
    u_Layout_LIMIT := .int 60 t_Layout_LIMIT,
    v_Layout_LIMIT := ⟨cv_Layout_LIMIT, ⟨_, rfl⟩⟩,
    a_Grid := A_Grid,
    mc_Grid := (.type "type"),
    g_Grid := PySem.W.mg_of X G aC_Grid,
    k_Grid := ⟨pg_Grid, hd_Grid, po_Grid, sa_Grid⟩,
    r_Grid := ⟨rd_Grid, ga_Grid⟩,
    na_Grid_row_layout := na_Grid_row_layout,
    na_Grid_column_layout := na_Grid_column_layout,
    p_ALL_ROWS := P_ALL_ROWS,
    c_ALL_ROWS := PySem.W.mg_of X G gp_ALL_ROWS,
    w_ALL_ROWS := fun cl H ρ => rv_all lp_ALL_ROWS H ρ,
    p_PLAIN := P_PLAIN,
    c_PLAIN := PySem.W.mg_of X G gp_PLAIN,
    w_PLAIN := fun cl H ρ => rv_plain lp_PLAIN lr_PLAIN H ρ,
    p_WORDS := P_WORDS,
    c_WORDS := PySem.W.mg_of X G gp_WORDS,
    w_WORDS := fun cl H ρ => rv_words lp_WORDS H ρ,
    a__law_bag := f__law_bag,
    d__law_bag := _,
    g__law_bag := PySem.W.mg_of X G a__law_bag,
    p__law_bag := k__law_bag,
    f__law_bag := fun_mk (st := s__law_bag) l__law_bag c__law_bag k__law_bag,
    n__law_bag := (fun_mk (st := s__law_bag) l__law_bag c__law_bag k__law_bag).binds (ps := ["_law_script"]) fun _ _ _ _ _ _ us hl => match us, hl with | [_], _ => rfl,
    a__law_pull := f__law_pull,
    d__law_pull := _,
    g__law_pull := PySem.W.mg_of X G a__law_pull,
    p__law_pull := k__law_pull,
    f__law_pull := fun_mk (st := s__law_pull) l__law_pull c__law_pull k__law_pull,
    n__law_pull := (fun_mk (st := s__law_pull) l__law_pull c__law_pull k__law_pull).binds (ps := ["_law_bag_here", "_law_size"]) fun _ _ _ _ _ _ us hl => match us, hl with | [_, _], _ => rfl,
    a__law_of := f__law_of,
    d__law_of := _,
    g__law_of := PySem.W.mg_of X G a__law_of,
    p__law_of := k__law_of,
    f__law_of := fun_mk (st := s__law_of) l__law_of c__law_of k__law_of,
    n__law_of := (fun_mk (st := s__law_of) l__law_of c__law_of k__law_of).binds (ps := ["_law_bag_here", "_law_some"]) fun _ _ _ _ _ _ us hl => match us, hl with | [_, _], _ => rfl,
    a__law_near := f__law_near,
    d__law_near := _,
    g__law_near := PySem.W.mg_of X G a__law_near,
    p__law_near := k__law_near,
    f__law_near := fun_mk (st := s__law_near) l__law_near c__law_near k__law_near,
    n__law_near := (fun_mk (st := s__law_near) l__law_near c__law_near k__law_near).binds (ps := ["_law_bag_here"]) fun _ _ _ _ _ _ us hl => match us, hl with | [_], _ => rfl,
    a__law_grid_script := f__law_grid_script,
    d__law_grid_script := _,
    g__law_grid_script := PySem.W.mg_of X G a__law_grid_script,
    p__law_grid_script := k__law_grid_script,
    f__law_grid_script := fun_mk (st := s__law_grid_script) l__law_grid_script c__law_grid_script k__law_grid_script,
    n__law_grid_script := (fun_mk (st := s__law_grid_script) l__law_grid_script c__law_grid_script k__law_grid_script).binds (ps := ["_law_bag_here", "_law_most"]) fun _ _ _ _ _ _ us hl => match us, hl with | [_, _], _ => rfl,
    a_without_axis := f_without_axis,
    d_without_axis := _,
    g_without_axis := PySem.W.mg_of X G a_without_axis,
    p_without_axis := k_without_axis,
    f_without_axis := fun_mk (st := s_without_axis) l_without_axis c_without_axis k_without_axis,
    n_without_axis := (fun_mk (st := s_without_axis) l_without_axis c_without_axis k_without_axis).binds (ps := ["item"]) fun _ _ _ _ _ _ us hl => match us, hl with | [_], _ => rfl,
    a_is_number := f_is_number,
    d_is_number := _,
    g_is_number := PySem.W.mg_of X G a_is_number,
    p_is_number := k_is_number,
    f_is_number := fun_mk (st := s_is_number) l_is_number c_is_number k_is_number,
    n_is_number := (fun_mk (st := s_is_number) l_is_number c_is_number k_is_number).binds (ps := ["value"]) fun _ _ _ _ _ _ us hl => match us, hl with | [_], _ => rfl,
    a_are_numbers := f_are_numbers,
    d_are_numbers := _,
    g_are_numbers := PySem.W.mg_of X G a_are_numbers,
    p_are_numbers := k_are_numbers,
    f_are_numbers := fun_mk (st := s_are_numbers) l_are_numbers c_are_numbers k_are_numbers,
    n_are_numbers := (fun_mk (st := s_are_numbers) l_are_numbers c_are_numbers k_are_numbers).binds (ps := ["values", "many"]) fun _ _ _ _ _ _ us hl => match us, hl with | [_, _], _ => rfl,
    a_is_command := f_is_command,
    d_is_command := _,
    g_is_command := PySem.W.mg_of X G a_is_command,
    p_is_command := k_is_command,
    f_is_command := fun_mk (st := s_is_command) l_is_command c_is_command k_is_command,
    n_is_command := (fun_mk (st := s_is_command) l_is_command c_is_command k_is_command).binds (ps := ["item"]) fun _ _ _ _ _ _ us hl => match us, hl with | [_], _ => rfl,
    a_is_grid_command := f_is_grid_command,
    d_is_grid_command := _,
    g_is_grid_command := PySem.W.mg_of X G a_is_grid_command,
    p_is_grid_command := k_is_grid_command,
    f_is_grid_command := fun_mk (st := s_is_grid_command) l_is_grid_command c_is_grid_command k_is_grid_command,
    n_is_grid_command := (fun_mk (st := s_is_grid_command) l_is_grid_command c_is_grid_command k_is_grid_command).binds (ps := ["item"]) fun _ _ _ _ _ _ us hl => match us, hl with | [_], _ => rfl,
    a_check_grid_script := f_check_grid_script,
    d_check_grid_script := _,
    g_check_grid_script := PySem.W.mg_of X G a_check_grid_script,
    p_check_grid_script := k_check_grid_script,
    f_check_grid_script := fun_mk (st := s_check_grid_script) l_check_grid_script c_check_grid_script k_check_grid_script,
    n_check_grid_script := (fun_mk (st := s_check_grid_script) l_check_grid_script c_check_grid_script k_check_grid_script).binds (ps := ["script"]) fun _ _ _ _ _ _ us hl => match us, hl with | [_], _ => rfl,
    a_axis_script := f_axis_script,
    d_axis_script := _,
    g_axis_script := PySem.W.mg_of X G a_axis_script,
    p_axis_script := k_axis_script,
    f_axis_script := fun_mk (st := s_axis_script) l_axis_script c_axis_script k_axis_script,
    n_axis_script := (fun_mk (st := s_axis_script) l_axis_script c_axis_script k_axis_script).binds (ps := ["script", "axis"]) fun _ _ _ _ _ _ us hl => match us, hl with | [_, _], _ => rfl,
    a_check_script := f_check_script,
    d_check_script := _,
    g_check_script := PySem.W.mg_of X G a_check_script,
    p_check_script := k_check_script,
    f_check_script := fun_mk (st := s_check_script) l_check_script c_check_script k_check_script,
    n_check_script := (fun_mk (st := s_check_script) l_check_script c_check_script k_check_script).binds (ps := ["script"]) fun _ _ _ _ _ _ us hl => match us, hl with | [_], _ => rfl,
    a_Layout_pieces := f_Layout_pieces,
    d_Layout_pieces := _,
    m_Layout_pieces := ⟨a_Layout_pieces, i_Layout_pieces, k_Layout_pieces⟩,
    p_Layout_pieces := k_Layout_pieces,
    f_Layout_pieces := fun_mk (st := s_Layout_pieces) l_Layout_pieces c_Layout_pieces k_Layout_pieces,
    n_Layout_pieces := (fun_mk (st := s_Layout_pieces) l_Layout_pieces c_Layout_pieces k_Layout_pieces).binds (ps := ["self"]) fun _ _ _ _ _ _ us hl => match us, hl with | [_], _ => rfl,
    a_old_rows_before := f_old_rows_before,
    d_old_rows_before := _,
    g_old_rows_before := PySem.W.mg_of X G a_old_rows_before,
    p_old_rows_before := k_old_rows_before,
    f_old_rows_before := fun_mk (st := s_old_rows_before) l_old_rows_before c_old_rows_before k_old_rows_before,
    n_old_rows_before := (fun_mk (st := s_old_rows_before) l_old_rows_before c_old_rows_before k_old_rows_before).binds (ps := ["number"]) fun _ _ _ _ _ _ us hl => match us, hl with | [_], _ => rfl,
    a_insert_pieces := f_insert_pieces,
    d_insert_pieces := _,
    g_insert_pieces := PySem.W.mg_of X G a_insert_pieces,
    p_insert_pieces := k_insert_pieces,
    f_insert_pieces := fun_mk (st := s_insert_pieces) l_insert_pieces c_insert_pieces k_insert_pieces,
    n_insert_pieces := (fun_mk (st := s_insert_pieces) l_insert_pieces c_insert_pieces k_insert_pieces).binds (ps := ["at", "count"]) fun _ _ _ _ _ _ us hl => match us, hl with | [_, _], _ => rfl,
    a_delete_pieces := f_delete_pieces,
    d_delete_pieces := _,
    g_delete_pieces := PySem.W.mg_of X G a_delete_pieces,
    p_delete_pieces := k_delete_pieces,
    f_delete_pieces := fun_mk (st := s_delete_pieces) l_delete_pieces c_delete_pieces k_delete_pieces,
    n_delete_pieces := (fun_mk (st := s_delete_pieces) l_delete_pieces c_delete_pieces k_delete_pieces).binds (ps := ["first", "last"]) fun _ _ _ _ _ _ us hl => match us, hl with | [_, _], _ => rfl,
    a_command_pieces := f_command_pieces,
    d_command_pieces := _,
    g_command_pieces := PySem.W.mg_of X G a_command_pieces,
    p_command_pieces := k_command_pieces,
    f_command_pieces := fun_mk (st := s_command_pieces) l_command_pieces c_command_pieces k_command_pieces,
    n_command_pieces := (fun_mk (st := s_command_pieces) l_command_pieces c_command_pieces k_command_pieces).binds (ps := ["command"]) fun _ _ _ _ _ _ us hl => match us, hl with | [_], _ => rfl,
    a_row_count := f_row_count,
    d_row_count := _,
    g_row_count := PySem.W.mg_of X G a_row_count,
    p_row_count := k_row_count,
    f_row_count := fun_mk (st := s_row_count) l_row_count c_row_count k_row_count,
    n_row_count := (fun_mk (st := s_row_count) l_row_count c_row_count k_row_count).binds (ps := ["piece"]) fun _ _ _ _ _ _ us hl => match us, hl with | [_], _ => rfl,
    a_starts_of := f_starts_of,
    d_starts_of := _,
    g_starts_of := PySem.W.mg_of X G a_starts_of,
    p_starts_of := k_starts_of,
    f_starts_of := fun_mk (st := s_starts_of) l_starts_of c_starts_of k_starts_of,
    n_starts_of := (fun_mk (st := s_starts_of) l_starts_of c_starts_of k_starts_of).binds (ps := ["pieces"]) fun _ _ _ _ _ _ us hl => match us, hl with | [_], _ => rfl,
    a_index_of_row := f_index_of_row,
    d_index_of_row := _,
    g_index_of_row := PySem.W.mg_of X G a_index_of_row,
    p_index_of_row := k_index_of_row,
    f_index_of_row := fun_mk (st := s_index_of_row) l_index_of_row c_index_of_row k_index_of_row,
    n_index_of_row := (fun_mk (st := s_index_of_row) l_index_of_row c_index_of_row k_index_of_row).binds (ps := ["starts", "number"]) fun _ _ _ _ _ _ us hl => match us, hl with | [_, _], _ => rfl,
    a_first_rows := f_first_rows,
    d_first_rows := _,
    g_first_rows := PySem.W.mg_of X G a_first_rows,
    p_first_rows := k_first_rows,
    f_first_rows := fun_mk (st := s_first_rows) l_first_rows c_first_rows k_first_rows,
    n_first_rows := (fun_mk (st := s_first_rows) l_first_rows c_first_rows k_first_rows).binds (ps := ["piece", "many"]) fun _ _ _ _ _ _ us hl => match us, hl with | [_, _], _ => rfl,
    a_without_first_rows := f_without_first_rows,
    d_without_first_rows := _,
    g_without_first_rows := PySem.W.mg_of X G a_without_first_rows,
    p_without_first_rows := k_without_first_rows,
    f_without_first_rows := fun_mk (st := s_without_first_rows) l_without_first_rows c_without_first_rows k_without_first_rows,
    n_without_first_rows := (fun_mk (st := s_without_first_rows) l_without_first_rows c_without_first_rows k_without_first_rows).binds (ps := ["piece", "many"]) fun _ _ _ _ _ _ us hl => match us, hl with | [_, _], _ => rfl,
    a_part := f_part,
    d_part := _,
    g_part := PySem.W.mg_of X G a_part,
    p_part := k_part,
    f_part := fun_mk (st := s_part) l_part c_part k_part,
    n_part := (fun_mk (st := s_part) l_part c_part k_part).binds (ps := ["pieces", "starts", "first", "last"]) fun _ _ _ _ _ _ us hl => match us, hl with | [_, _, _, _], _ => rfl,
    a_label_in := f_label_in,
    d_label_in := _,
    g_label_in := PySem.W.mg_of X G a_label_in,
    p_label_in := k_label_in,
    f_label_in := fun_mk (st := s_label_in) l_label_in c_label_in k_label_in,
    n_label_in := (fun_mk (st := s_label_in) l_label_in c_label_in k_label_in).binds (ps := ["piece", "offset"]) fun _ _ _ _ _ _ us hl => match us, hl with | [_, _], _ => rfl,
    a_label_at := f_label_at,
    d_label_at := _,
    g_label_at := PySem.W.mg_of X G a_label_at,
    p_label_at := k_label_at,
    f_label_at := fun_mk (st := s_label_at) l_label_at c_label_at k_label_at,
    n_label_at := (fun_mk (st := s_label_at) l_label_at c_label_at k_label_at).binds (ps := ["pieces", "starts", "number"]) fun _ _ _ _ _ _ us hl => match us, hl with | [_, _, _], _ => rfl,
    a_renamed := f_renamed,
    d_renamed := _,
    g_renamed := PySem.W.mg_of X G a_renamed,
    p_renamed := k_renamed,
    f_renamed := fun_mk (st := s_renamed) l_renamed c_renamed k_renamed,
    n_renamed := (fun_mk (st := s_renamed) l_renamed c_renamed k_renamed).binds (ps := ["pieces", "starts", "piece"]) fun _ _ _ _ _ _ us hl => match us, hl with | [_, _, _], _ => rfl,
    a_joined := f_joined,
    d_joined := _,
    g_joined := PySem.W.mg_of X G a_joined,
    p_joined := k_joined,
    f_joined := fun_mk (st := s_joined) l_joined c_joined k_joined,
    n_joined := (fun_mk (st := s_joined) l_joined c_joined k_joined).binds (ps := ["one", "other"]) fun _ _ _ _ _ _ us hl => match us, hl with | [_, _], _ => rfl,
    a_normal_form := f_normal_form,
    d_normal_form := _,
    g_normal_form := PySem.W.mg_of X G a_normal_form,
    p_normal_form := k_normal_form,
    f_normal_form := fun_mk (st := s_normal_form) l_normal_form c_normal_form k_normal_form,
    n_normal_form := (fun_mk (st := s_normal_form) l_normal_form c_normal_form k_normal_form).binds (ps := ["pieces"]) fun _ _ _ _ _ _ us hl => match us, hl with | [_], _ => rfl,
    a_followed := f_followed,
    d_followed := _,
    g_followed := PySem.W.mg_of X G a_followed,
    p_followed := k_followed,
    f_followed := fun_mk (st := s_followed) l_followed c_followed k_followed,
    n_followed := (fun_mk (st := s_followed) l_followed c_followed k_followed).binds (ps := ["first", "second"]) fun _ _ _ _ _ _ us hl => match us, hl with | [_, _], _ => rfl,
    a_pieces_behind := f_pieces_behind,
    d_pieces_behind := _,
    g_pieces_behind := PySem.W.mg_of X G a_pieces_behind,
    p_pieces_behind := k_pieces_behind,
    f_pieces_behind := fun_mk (st := s_pieces_behind) l_pieces_behind c_pieces_behind k_pieces_behind,
    n_pieces_behind := (fun_mk (st := s_pieces_behind) l_pieces_behind c_pieces_behind k_pieces_behind).binds (ps := ["script", "pieces"]) fun _ _ _ _ _ _ us hl => match us, hl with | [_, _], _ => rfl,
    a_is_range := f_is_range,
    d_is_range := _,
    g_is_range := PySem.W.mg_of X G a_is_range,
    p_is_range := k_is_range,
    f_is_range := fun_mk (st := s_is_range) l_is_range c_is_range k_is_range,
    n_is_range := (fun_mk (st := s_is_range) l_is_range c_is_range k_is_range).binds (ps := ["pair"]) fun _ _ _ _ _ _ us hl => match us, hl with | [_], _ => rfl,
    a_is_piece := f_is_piece,
    d_is_piece := _,
    g_is_piece := PySem.W.mg_of X G a_is_piece,
    p_is_piece := k_is_piece,
    f_is_piece := fun_mk (st := s_is_piece) l_is_piece c_is_piece k_is_piece,
    n_is_piece := (fun_mk (st := s_is_piece) l_is_piece c_is_piece k_is_piece).binds (ps := ["piece"]) fun _ _ _ _ _ _ us hl => match us, hl with | [_], _ => rfl,
    a_is_open := f_is_open,
    d_is_open := _,
    g_is_open := PySem.W.mg_of X G a_is_open,
    p_is_open := k_is_open,
    f_is_open := fun_mk (st := s_is_open) l_is_open c_is_open k_is_open,
    n_is_open := (fun_mk (st := s_is_open) l_is_open c_is_open k_is_open).binds (ps := ["piece"]) fun _ _ _ _ _ _ us hl => match us, hl with | [_], _ => rfl,
    a_first_label := f_first_label,
    d_first_label := _,
    g_first_label := PySem.W.mg_of X G a_first_label,
    p_first_label := k_first_label,
    f_first_label := fun_mk (st := s_first_label) l_first_label c_first_label k_first_label,
    n_first_label := (fun_mk (st := s_first_label) l_first_label c_first_label k_first_label).binds (ps := ["piece"]) fun _ _ _ _ _ _ us hl => match us, hl with | [_], _ => rfl,
    a_may_follow := f_may_follow,
    d_may_follow := _,
    g_may_follow := PySem.W.mg_of X G a_may_follow,
    p_may_follow := k_may_follow,
    f_may_follow := fun_mk (st := s_may_follow) l_may_follow c_may_follow k_may_follow,
    n_may_follow := (fun_mk (st := s_may_follow) l_may_follow c_may_follow k_may_follow).binds (ps := ["before", "piece"]) fun _ _ _ _ _ _ us hl => match us, hl with | [_, _], _ => rfl,
    a_first_wrong := f_first_wrong,
    d_first_wrong := _,
    g_first_wrong := PySem.W.mg_of X G a_first_wrong,
    p_first_wrong := k_first_wrong,
    f_first_wrong := fun_mk (st := s_first_wrong) l_first_wrong c_first_wrong k_first_wrong,
    n_first_wrong := (fun_mk (st := s_first_wrong) l_first_wrong c_first_wrong k_first_wrong).binds (ps := ["pieces"]) fun _ _ _ _ _ _ us hl => match us, hl with | [_], _ => rfl,
    a_Layout___init__ := f_Layout___init__,
    d_Layout___init__ := _,
    mk_Layout := ⟨mk_Layout, a_Layout___init__, i_Layout___init__, kc_Layout⟩,
    p_Layout___init__ := k_Layout___init__,
    f_Layout___init__ := fun_mk (st := s_Layout___init__) l_Layout___init__ c_Layout___init__ k_Layout___init__,
    n_Layout___init__ := (fun_mk (st := s_Layout___init__) l_Layout___init__ c_Layout___init__ k_Layout___init__).binds (ps := ["self", "pieces"]) fun _ _ _ _ _ _ us hl => match us, hl with | [_, _], _ => rfl,
    a_run := f_run,
    d_run := _,
    g_run := PySem.W.mg_of X G a_run,
    nk_run := kwb_mk fun us ws h1 h2 => match us, h1, ws, h2 with | [_], _, [_], _ => rfl,
    p_run := k_run,
    f_run := fun_mk (st := s_run) l_run c_run k_run,
    n_run := binds_kw1 (st := s_run) (y := "start") (ps := ["script", "start"]) 1 l_run c_run k_run w_run rfl fun D _ _ _ _ _ us ks hl hk => match us, hl, ks, hk with | [_], _, [_], _ => ⟨_, _, _, _, _, _, rfl, rfl, rfl⟩,
    a_Grid___init__ := f_Grid___init__,
    d_Grid___init__ := _,
    mk_Grid := ⟨mk_Grid, a_Grid___init__, i_Grid___init__, kc_Grid⟩,
    p_Grid___init__ := k_Grid___init__,
    f_Grid___init__ := fun_mk (st := s_Grid___init__) l_Grid___init__ c_Grid___init__ k_Grid___init__,
    n_Grid___init__ := (fun_mk (st := s_Grid___init__) l_Grid___init__ c_Grid___init__ k_Grid___init__).binds (ps := ["self", "rows", "columns"]) fun _ _ _ _ _ _ us hl => match us, hl with | [_, _, _], _ => rfl,
    a_run_grid := f_run_grid,
    d_run_grid := _,
    g_run_grid := PySem.W.mg_of X G a_run_grid,
    p_run_grid := k_run_grid,
    f_run_grid := fun_mk (st := s_run_grid) l_run_grid c_run_grid k_run_grid,
    n_run_grid := (fun_mk (st := s_run_grid) l_run_grid c_run_grid k_run_grid).binds (ps := ["script"]) fun _ _ _ _ _ _ us hl => match us, hl with | [_], _ => rfl,
    a_Grid_rows := f_Grid_rows,
    d_Grid_rows := _,
    q_Grid_rows := Q_Grid_rows,
    pr_Grid_rows := ⟨a_Grid_rows, g_Grid_rows, t_Grid_rows, ⟨_, r_Grid_rows⟩⟩,
    p_Grid_rows := k_Grid_rows,
    f_Grid_rows := fun_mk (st := s_Grid_rows) l_Grid_rows c_Grid_rows k_Grid_rows,
    n_Grid_rows := (fun_mk (st := s_Grid_rows) l_Grid_rows c_Grid_rows k_Grid_rows).binds (ps := ["self"]) fun _ _ _ _ _ _ us hl => match us, hl with | [_], _ => rfl,
    a_old_ranges := f_old_ranges,
    d_old_ranges := _,
    g_old_ranges := PySem.W.mg_of X G a_old_ranges,
    p_old_ranges := k_old_ranges,
    f_old_ranges := fun_mk (st := s_old_ranges) l_old_ranges c_old_ranges k_old_ranges,
    n_old_ranges := (fun_mk (st := s_old_ranges) l_old_ranges c_old_ranges k_old_ranges).binds (ps := ["pieces"]) fun _ _ _ _ _ _ us hl => match us, hl with | [_], _ => rfl,
    a_new_labels := f_new_labels,
    d_new_labels := _,
    g_new_labels := PySem.W.mg_of X G a_new_labels,
    p_new_labels := k_new_labels,
    f_new_labels := fun_mk (st := s_new_labels) l_new_labels c_new_labels k_new_labels,
    n_new_labels := (fun_mk (st := s_new_labels) l_new_labels c_new_labels k_new_labels).binds (ps := ["pieces"]) fun _ _ _ _ _ _ us hl => match us, hl with | [_], _ => rfl,
    a_turning_points := f_turning_points,
    d_turning_points := _,
    g_turning_points := PySem.W.mg_of X G a_turning_points,
    p_turning_points := k_turning_points,
    f_turning_points := fun_mk (st := s_turning_points) l_turning_points c_turning_points k_turning_points,
    n_turning_points := (fun_mk (st := s_turning_points) l_turning_points c_turning_points k_turning_points).binds (ps := ["layout"]) fun _ _ _ _ _ _ us hl => match us, hl with | [_], _ => rfl,
    a_is_span := f_is_span,
    d_is_span := _,
    g_is_span := PySem.W.mg_of X G a_is_span,
    p_is_span := k_is_span,
    f_is_span := fun_mk (st := s_is_span) l_is_span c_is_span k_is_span,
    n_is_span := (fun_mk (st := s_is_span) l_is_span c_is_span k_is_span).binds (ps := ["span"]) fun _ _ _ _ _ _ us hl => match us, hl with | [_], _ => rfl,
    a_check_span := f_check_span,
    d_check_span := _,
    g_check_span := PySem.W.mg_of X G a_check_span,
    p_check_span := k_check_span,
    f_check_span := fun_mk (st := s_check_span) l_check_span c_check_span k_check_span,
    n_check_span := (fun_mk (st := s_check_span) l_check_span c_check_span k_check_span).binds (ps := ["span"]) fun _ _ _ _ _ _ us hl => match us, hl with | [_], _ => rfl,
    a_first_row_from := f_first_row_from,
    d_first_row_from := _,
    g_first_row_from := PySem.W.mg_of X G a_first_row_from,
    p_first_row_from := k_first_row_from,
    f_first_row_from := fun_mk (st := s_first_row_from) l_first_row_from c_first_row_from k_first_row_from,
    n_first_row_from := (fun_mk (st := s_first_row_from) l_first_row_from c_first_row_from k_first_row_from).binds (ps := ["pieces", "starts", "low"]) fun _ _ _ _ _ _ us hl => match us, hl with | [_, _, _], _ => rfl,
    a_lesser := f_lesser,
    d_lesser := _,
    g_lesser := PySem.W.mg_of X G a_lesser,
    p_lesser := k_lesser,
    f_lesser := fun_mk (st := s_lesser) l_lesser c_lesser k_lesser,
    n_lesser := (fun_mk (st := s_lesser) l_lesser c_lesser k_lesser).binds (ps := ["one", "other"]) fun _ _ _ _ _ _ us hl => match us, hl with | [_, _], _ => rfl,
    a_last_row_up_to := f_last_row_up_to,
    d_last_row_up_to := _,
    g_last_row_up_to := PySem.W.mg_of X G a_last_row_up_to,
    p_last_row_up_to := k_last_row_up_to,
    f_last_row_up_to := fun_mk (st := s_last_row_up_to) l_last_row_up_to c_last_row_up_to k_last_row_up_to,
    n_last_row_up_to := (fun_mk (st := s_last_row_up_to) l_last_row_up_to c_last_row_up_to k_last_row_up_to).binds (ps := ["pieces", "starts", "high"]) fun _ _ _ _ _ _ us hl => match us, hl with | [_, _, _], _ => rfl,
    a_carried_by := f_carried_by,
    d_carried_by := _,
    g_carried_by := PySem.W.mg_of X G a_carried_by,
    p_carried_by := k_carried_by,
    f_carried_by := fun_mk (st := s_carried_by) l_carried_by c_carried_by k_carried_by,
    n_carried_by := (fun_mk (st := s_carried_by) l_carried_by c_carried_by k_carried_by).binds (ps := ["pieces", "starts", "span"]) fun _ _ _ _ _ _ us hl => match us, hl with | [_, _, _], _ => rfl,
    a_carried := f_carried,
    d_carried := _,
    g_carried := PySem.W.mg_of X G a_carried,
    p_carried := k_carried,
    f_carried := fun_mk (st := s_carried) l_carried c_carried k_carried,
    n_carried := (fun_mk (st := s_carried) l_carried c_carried k_carried).binds (ps := ["layout", "span"]) fun _ _ _ _ _ _ us hl => match us, hl with | [_, _], _ => rfl,
    a_is_difference := f_is_difference,
    d_is_difference := _,
    g_is_difference := PySem.W.mg_of X G a_is_difference,
    p_is_difference := k_is_difference,
    f_is_difference := fun_mk (st := s_is_difference) l_is_difference c_is_difference k_is_difference,
    n_is_difference := (fun_mk (st := s_is_difference) l_is_difference c_is_difference k_is_difference).binds (ps := ["one", "other", "claimed"]) fun _ _ _ _ _ _ us hl => match us, hl with | [_, _, _], _ => rfl,
    a_difference := f_difference,
    d_difference := _,
    g_difference := PySem.W.mg_of X G a_difference,
    p_difference := k_difference,
    f_difference := fun_mk (st := s_difference) l_difference c_difference k_difference,
    n_difference := (fun_mk (st := s_difference) l_difference c_difference k_difference).binds (ps := ["one", "other"]) fun _ _ _ _ _ _ us hl => match us, hl with | [_, _], _ => rfl,
    a_Grid_columns := f_Grid_columns,
    d_Grid_columns := _,
    q_Grid_columns := Q_Grid_columns,
    pr_Grid_columns := ⟨a_Grid_columns, g_Grid_columns, t_Grid_columns, ⟨_, r_Grid_columns⟩⟩,
    p_Grid_columns := k_Grid_columns,
    f_Grid_columns := fun_mk (st := s_Grid_columns) l_Grid_columns c_Grid_columns k_Grid_columns,
    n_Grid_columns := (fun_mk (st := s_Grid_columns) l_Grid_columns c_Grid_columns k_Grid_columns).binds (ps := ["self"]) fun _ _ _ _ _ _ us hl => match us, hl with | [_], _ => rfl,
    a_difference_box := f_difference_box,
    d_difference_box := _,
    g_difference_box := PySem.W.mg_of X G a_difference_box,
    p_difference_box := k_difference_box,
    f_difference_box := fun_mk (st := s_difference_box) l_difference_box c_difference_box k_difference_box,
    n_difference_box := (fun_mk (st := s_difference_box) l_difference_box c_difference_box k_difference_box).binds (ps := ["one", "other"]) fun _ _ _ _ _ _ us hl => match us, hl with | [_, _], _ => rfl,
    a_Layout___eq__ := f_Layout___eq__,
    d_Layout___eq__ := _,
    m_Layout___eq__ := ⟨a_Layout___eq__, i_Layout___eq__, k_Layout___eq__⟩,
    p_Layout___eq__ := k_Layout___eq__,
    f_Layout___eq__ := fun_mk (st := s_Layout___eq__) l_Layout___eq__ c_Layout___eq__ k_Layout___eq__,
    n_Layout___eq__ := (fun_mk (st := s_Layout___eq__) l_Layout___eq__ c_Layout___eq__ k_Layout___eq__).binds (ps := ["self", "other"]) fun _ _ _ _ _ _ us hl => match us, hl with | [_, _], _ => rfl,
    a_Grid___eq__ := f_Grid___eq__,
    d_Grid___eq__ := _,
    m_Grid___eq__ := ⟨a_Grid___eq__, i_Grid___eq__, k_Grid___eq__⟩,
    p_Grid___eq__ := k_Grid___eq__,
    f_Grid___eq__ := fun_mk (st := s_Grid___eq__) l_Grid___eq__ c_Grid___eq__ k_Grid___eq__,
    n_Grid___eq__ := (fun_mk (st := s_Grid___eq__) l_Grid___eq__ c_Grid___eq__ k_Grid___eq__).binds (ps := ["self", "other"]) fun _ _ _ _ _ _ us hl => match us, hl with | [_, _], _ => rfl,
    a_carried_box := f_carried_box,
    d_carried_box := _,
    g_carried_box := PySem.W.mg_of X G a_carried_box,
    p_carried_box := k_carried_box,
    f_carried_box := fun_mk (st := s_carried_box) l_carried_box c_carried_box k_carried_box,
    n_carried_box := (fun_mk (st := s_carried_box) l_carried_box c_carried_box k_carried_box).binds (ps := ["grid", "box"]) fun _ _ _ _ _ _ us hl => match us, hl with | [_, _], _ => rfl,
    a_law := fa,
    d_law := _,
    g_law := PySem.W.mg_of X G a_law,
    p_law := k_law,
    f_law := fun_mk (st := s_law) l_law c_law k_law,
    n_law := (fun_mk (st := s_law) l_law c_law k_law).binds (ps := ["_law_script"]) fun _ _ _ _ _ _ us hl => match us, hl with | [_], _ => rfl,
    eo_Grid := ⟨⟨⟨pg_Grid, hd_Grid, po_Grid, sa_Grid⟩, eh_Grid, en_Grid, et_Grid, em_Grid⟩, a_Grid___eq__, i_Grid___eq__, ee_Grid⟩,
    ty_Grid := ey_Grid,
    eo_Layout := ⟨⟨⟨pg_Layout, hd_Layout, po_Layout, sa_Layout⟩, eh_Layout, en_Layout, et_Layout, em_Layout⟩, a_Layout___eq__, i_Layout___eq__, ee_Layout⟩,
    ty_Layout := ey_Layout }
  exact ⟨_, fun s v => .of_eq rfl, fun base _ _ => (ok_law (P := l.prog) (w := w) (base := base) T).imp fun _ _ _ _ z => spLaw_of hM T.tab z⟩
theorem walk {l : PySem.W.OpenLaw} {q : Program} {loose : List Str} {XP : (Str → Option Value) → Heap → Prop} {YP : World → Heap → Prop} {d : DefRec} {K : Params → PySem.W.Frag} (hn : l.most = some 63) (hdf : d.params.defaults = [])
    (hY : ∀ (w : World) (h : Heap), YP w h → (K w.params).In h)
    (F : ∀ (w : World) (mg : Str → Option Value) (fa : Addr) (h : Heap), (K w.params).In h → h.Ns mainGlobals mg → mg d.name = some (.ref fa) →
      ∃ fd : FuncData, (∀ (s : Shared) (u : Value), BindsTo s fd ⟨[u], []⟩ [("_law_script", u)]) ∧ ∀ base : Heap, (K w.params).In base → base.Ns mainGlobals mg → FnOk l.prog w (K w.params) mg base CX0 9 fa fd ["_law_script"] (spLaw (K w.params))) :
    PySem.W.WalkO q loose XP YP l.row.toRowW d [] (fun f vs => PySem.call f vs) :=
  L2.walk_of (n := 63) (k := 9) (x := "_law_script") (CX := fun _ => CX0) (sp := fun w => spLaw (K w.params)) hn (by decide) hdf ⟨rfl, by decide, by decide⟩ hY F (fun _ _ a ns hl _ hS => ⟨a, ns, rfl, hS, hl, fun _ => rfl⟩) fun _ _ _ _ _ z => z
end T
end
namespace T
open PySem L2 Ip
set_option maxHeartbeats 1000000
theorem app_set (M : Sto) (c c' : Cell) : (M ++ [c]).set M.length c' = M ++ [c'] := by simp
theorem app_at (M : Sto) (c : Cell) : (M ++ [c])[M.length]? = some c := by simp
theorem atn2 (a b : D) : atI [a, b] (-1) = some b := rfl
theorem atn3 (a b c : D) : atI [a, b, c] (-1) = some c := rfl
theorem atn4 (a b c d : D) : atI [a, b, c, d] (-1) = some d := rfl
theorem ar1 (a b : Int) : a + (b - a + 1 - 1) = b := by omega
theorem ar2 (a : Int) : a + 0 = a := by omega
theorem nc0 : ((0 : Nat) : Int) = 0 := rfl
theorem nc1 : ((1 : Nat) : Int) = 1 := rfl
theorem nc2 : ((2 : Nat) : Int) = 2 := rfl
theorem nc3 : ((3 : Nat) : Int) = 3 := rfl
theorem nc4 : ((4 : Nat) : Int) = 4 := rfl
theorem nc5 : ((5 : Nat) : Int) = 5 := rfl
theorem w_tt : decide (Str.ofString "top" = Str.ofString "top") = true := by decide
theorem w_to : decide (Str.ofString "top" = Str.ofString "old") = false := by decide
theorem w_tn : decide (Str.ofString "top" = Str.ofString "new") = false := by decide
theorem w_ot : decide (Str.ofString "old" = Str.ofString "top") = false := by decide
theorem w_oo : decide (Str.ofString "old" = Str.ofString "old") = true := by decide
theorem w_on : decide (Str.ofString "old" = Str.ofString "new") = false := by decide
theorem w_nt : decide (Str.ofString "new" = Str.ofString "top") = false := by decide
theorem w_no : decide (Str.ofString "new" = Str.ofString "old") = false := by decide
theorem w_nn : decide (Str.ofString "new" = Str.ofString "new") = true := by decide
theorem w_et : decide (Str.ofString "" = Str.ofString "top") = false := by decide
theorem w_eo : decide (Str.ofString "" = Str.ofString "old") = false := by decide
theorem sl_13 (a b c d : D) : Ip.cutD [a, b, c, d] (some 1) (some 3) = [b, c] := rfl
theorem sl_03 (a b c d : D) : Ip.cutD [a, b, c, d] none (some 3) = [a, b, c] := rfl
theorem sl_1_2 (a b : D) : Ip.cutD [a, b] (some 1) none = [b] := rfl
theorem sl_1_3 (a b c : D) : Ip.cutD [a, b, c] (some 1) none = [b, c] := rfl
theorem sl_1_4 (a b c d : D) : Ip.cutD [a, b, c, d] (some 1) none = [b, c, d] := rfl
theorem sl_03b (a b c : D) : Ip.cutD [a, b, c] none (some 3) = [a, b, c] := rfl
theorem sl_03c (a b : D) : Ip.cutD [a, b] none (some 3) = [a, b] := rfl
def jn : Pc → Pc → Option Pc
  | .top n, .top m => some (.top (n + m))
  | .old a b, .old c d => if b + 1 = c then some (.old a d) else none
  | .old a b, .opn c => if b + 1 = c then some (.opn a) else none
  | .new a b n, .new c d m => if a = c ∧ b = d then some (.new a b (n + m)) else none
  | _, _ => none
def optD : Option Pc → D
  | some p => p.d
  | none => .non
def isOpn : Pc → Bool
  | .opn _ => true
  | _ => false
theorem appL_ok (y : D) (l : List D) (h : l.length < 16777216) : appL y l = some (l ++ [y]) := if_pos h
local macro_rules | `(tactic| walk_at "evm_33af6a") => `(tactic| simp only [ev_runF, ev_kRun_rt, ev_kRun_nx, ev_seq, ev_kSeq_nx, ev_kSeq_rt, ev_kSeq_bk, ev_kSeq_ct, ev_skip, ev_set, ev_kSet, ev_drop, ev_kDrop, ev_ret, ev_kRet, ev_retN, ev_if, ev_kIf_t, ev_kIf_f, ev_bad, ev_asg, ev_kAsg, ev_asgO, ev_par, ev_kPar, ev_for, ev_kFor, ev_go_nil, ev_go_cons, ev_goO, ev_kGo_nx, ev_kGo_ct, ev_kGo_rt, ev_iter, ev_kIter_l, ev_kIter_t, ev_kIter_s, ev_rng1, ev_rng2, ev_enum, ev_kEnum_l, ev_kEnum_t,
  ev_var, ev_varO, celL_l, asL_ref, asL_lst, ev_c, ev_bin, ev_kBin, ev_kBin2, ev_un, ev_kUn, ev_nilA, ev_consA, ev_kCons, ev_kCons2, ev_tup, ev_lst, ev_lstC, ev_kTup, ev_kLst, ev_kLstC, ev_callB, ev_kCallB, ev_call, ev_kCall, ev_ifE, ev_kIfE_t, ev_kIfE_f, ev_andV, ev_orV, ev_notV, ev_kAndV_t, ev_kAndV_f, ev_kOrV_t, ev_kOrV_f, ev_kNotV, ev_and, ev_or, ev_not, ev_kAnd_t, ev_kAnd_f, ev_kOr_t, ev_kOr_f, ev_kNot, ev_tru, ev_b, ev_kTru_bl, ev_kTru_lst, ev_kTru_tup, ev_kTru_ref, ev_truO, ev_kB, ev_yes,
  ev_chain, ev_kCh0, ev_kCh1, ev_kCh2_t, ev_kCh2_f, ev_kCh3, ev_sl, ev_kSl1, ev_kSl2, ev_kSl3, ev_part, ev_kPart, ev_noPart, ev_fld, ev_kFld, ev_fldO, ev_lm, ev_kLm, ev_lmO, ev_kLm2, g_app, g_clear, ev_setIx, ev_kSetIx3, ev_setO, ev_kSetIx1, ev_kSetIx2,
  bind_ok, bind_bad, liftM_some, liftM_none, noex_ok, noex_bad, g_ixT, g_ixL, g_ixR, g_add_i, g_sub, g_lt, g_le, g_gt, g_ge, g_is_n, g_isnot_n, g_is_i, g_isnot_i, g_is_t, g_isnot_t, g_eq, g_ne, eq_int, eq_str, eq_bl, eq_nn, eq_ni, eq_in, eq_t2, g_lenT, g_lenL, g_lenR, g_slT, g_slL, g_slS, at0, at1, at2, at3, at4, atm1,
  ev_setFld, ev_kSetFld1, ev_make, ev_kMake, ev_kMake2, ev_meth, ev_kMeth2, ev_lenO, ev_kLenO, ev_reprO, ev_kReprO, ev_kReprO2, ev_fmt, ev_js_nil, ev_js_cons, g_listC, g_tupleR, ev_forS, ev_kForS, ev_iter2, ev_enum2, ev_kIter2_l, ev_kIter2_t, ev_kIter2_s, ev_kEnum2_l, ev_kEnum2_t, ev_lc, ev_kLc, ev_kLcEnd, ev_lc_nil, ev_lc_cons, ev_lcO, ev_kLcT_t, ev_kLcT_f, ev_kLcE, wipeE, g_isi_n, g_isi_b, g_isi_i, g_isi_s, g_isi_t, g_isi_l, isA_ii, isA_ib, isA_it, isA_il, isA_bi, isA_bb, isA_bt, isA_bll, isA_ni, isA_nb, isA_nt, isA_nl, isA_si, isA_sb, isA_st, isA_sl, isA_tt, isA_tl, isA_ti, isA_tb, isA_lt, isA_ll, isA_li, isA_lb, g_neg, g_all, bls_nil, bls_cons, List.all_cons, List.all_nil, id_eq, Bool.and_true, Bool.true_and, Nat.reduceLT,
  app_at, app_set, atn2, atn3, atn4, ar1, ar2, nc0, nc1, nc2, nc3, nc4, nc5, Int.reduceEq, Int.reduceNeg, Int.reduceLT, Int.reduceLE, w_tt, w_to, w_tn, w_ot, w_oo, w_on, w_nt, w_no, w_nn, w_et, w_eo, sl_13, sl_03, sl_1_2, sl_1_3, sl_1_4, sl_03b, sl_03c, tgName, tgTup, tgAll,
  List.length_cons, List.length_nil, List.map_cons, List.map_nil, List.cons_append, List.nil_append, List.getElem?_cons_zero, List.getElem?_cons_succ, List.set_cons_zero, List.set_cons_succ, List.replicate, Option.map_some, Option.map_none, Option.bind_some, Option.bind_none, Bool.not_true, Bool.not_false, and_self, true_and, and_true, Bool.false_eq_true, decide_true, decide_false, reduceIte, Nat.reduceAdd, Nat.reduceSub, Nat.reduceLeDiff, Nat.zero_add, List.isEmpty_cons, List.isEmpty_nil])
theorem joined_eq (p q : Pc) (h : isOpn p = false) (M : Sto) : F_joined [p.d, q.d] M = .ok (optD (jn p q)) M := by
  unfold F_joined B_joined
  cases p <;> cases q <;> simp only [Pc.d, isOpn] at h ⊢
  all_goals (try (cases h; done))
  all_goals walk_at "evm_33af6a"
  all_goals (try (simp only [jn, optD, Pc.d]; done))
  all_goals (simp only [jn]; split)
  all_goals (rename_i hc; simp only [hc, optD, Pc.d]; try walk_at "evm_33af6a")
theorem is_open_eq (p : Pc) (M : Sto) : F_is_open [p.d] M = .ok (.bl (isOpn p)) M := by
  unfold F_is_open B_is_open
  cases p <;> simp only [Pc.d, isOpn] <;> walk_at "evm_33af6a"
def pok : Pc → Prop
  | .top n => 1 ≤ n
  | .old a b => 0 ≤ a ∧ a ≤ b
  | .opn a => 0 ≤ a
  | .new a b n => 0 ≤ a ∧ a < b ∧ 1 ≤ n
theorem is_piece_ok (p : Pc) (h : pok p) (M : Sto) : F_is_piece [p.d] M = .ok (.bl true) M := by
  unfold F_is_piece B_is_piece
  cases p with
  | top n =>
    simp only [pok] at h
    simp only [Pc.d, F_are_numbers, B_are_numbers, F_is_number, B_is_number]
    walk_at "evm_33af6a"
    simp only [h, decide_true]
  | old a b =>
    simp only [pok] at h
    have h1 : ¬ a < 0 := by omega
    simp only [Pc.d, F_is_range, B_is_range, F_is_number, B_is_number]
    walk_at "evm_33af6a"
    simp only [h1, h.2, decide_false, decide_true]
    walk_at "evm_33af6a"
    simp only [h1, h.2, decide_false, decide_true]
  | opn a =>
    simp only [pok] at h
    have h1 : ¬ a < 0 := by omega
    simp only [Pc.d, F_is_range, B_is_range, F_is_number, B_is_number]
    walk_at "evm_33af6a"
    simp only [h1, decide_false]
    walk_at "evm_33af6a"
  | new a b n =>
    simp only [pok] at h
    simp only [Pc.d, F_are_numbers, B_are_numbers, F_is_number, B_is_number]
    walk_at "evm_33af6a"
    simp only [h.1, h.2.1, h.2.2, decide_true]
    walk_at "evm_33af6a"
    simp only [h.1, h.2.1, h.2.2, decide_true]
    walk_at "evm_33af6a"
    simp only [h.2.2, decide_true]
def mf : Pc → Pc → Bool
  | .opn _, _ => false
  | .top _, _ => true
  | _, .top _ => false
  | .old _ b, .old c _ => decide (b < c)
  | .old _ b, .opn c => decide (b < c)
  | .old _ b, .new c d _ => decide (b ≤ c) && decide (b ≤ d)
  | .new a b _, .old c _ => decide (a ≤ c) && decide (b ≤ c)
  | .new a b _, .opn c => decide (a ≤ c) && decide (b ≤ c)
  | .new a b _, .new c d _ => decide (a ≤ c) && decide (b ≤ d)
theorem may_follow_eq (p q : Pc) (M : Sto) : F_may_follow [p.d, q.d] M = .ok (.bl (mf p q)) M := by
  unfold F_may_follow B_may_follow
  cases p <;> cases q <;> simp only [Pc.d, mf, F_is_open, B_is_open, F_label_in, B_label_in, F_row_count, B_row_count, F_first_label, B_first_label] <;> walk_at "evm_33af6a"
  · rename_i a b c d n
    by_cases h : b ≤ c
    · simp only [h, decide_true]; walk_at "evm_33af6a"
    · simp only [h, decide_false]; walk_at "evm_33af6a"; simp only [Bool.false_and]
  · rename_i a b n c d
    by_cases h : a ≤ c
    · simp only [h, decide_true]; walk_at "evm_33af6a"
    · simp only [h, decide_false]; walk_at "evm_33af6a"; simp only [Bool.false_and]
  · rename_i a b n c
    by_cases h : a ≤ c
    · simp only [h, decide_true]; walk_at "evm_33af6a"
    · simp only [h, decide_false]; walk_at "evm_33af6a"; simp only [Bool.false_and]
  · rename_i a b n c d m
    by_cases h : a ≤ c
    · simp only [h, decide_true]; walk_at "evm_33af6a"
    · simp only [h, decide_false]; walk_at "evm_33af6a"; simp only [Bool.false_and]
def chain : Pc → List Pc → Prop
  | _, [] => True
  | p, q :: r => pok q ∧ mf p q = true ∧ chain q r
def lastOf : Pc → List Pc → Pc
  | p, [] => p
  | _, q :: r => lastOf q r
def fwBody : DS := (dSeq (dIf (dNot (dTru (dCall F_is_piece (dConsA (dVar 3) dNilA)))) (dRet (dVar 2)) dSkip)
      (dSeq (dIf (dAnd (dB (dBin (gIs true) (dVar 1) (dC .non))) (dNot (dTru (dCall F_may_follow (dConsA (dVar 1) (dConsA (dVar 3) dNilA)))))) (dRet (dVar 2)) dSkip)
      (dSet 1 (dVar 3))))
theorem is_tup (p : Pc) : ∃ l, p.d = .tup l := by cases p <;> exact ⟨_, rfl⟩
theorem fw_step (X : D) (p q : Pc) (a b : Option D) (k : Nat) (M : Sto) (hq : pok q) (hm : mf p q = true) : fwBody [some X, some p.d, some (.int (k : Nat)), some q.d] M = .ok (.nx [some X, some q.d, some (.int (k : Nat)), some q.d]) M := by
  obtain ⟨l, hl⟩ := is_tup p
  have e := may_follow_eq p q M
  unfold fwBody
  walk_at "evm_33af6a"
  rw [is_piece_ok q hq]
  walk_at "evm_33af6a"
  rw [hl]
  walk_at "evm_33af6a"
  rw [hl] at e
  rw [e, hm]
  walk_at "evm_33af6a"
/-- pieces that a layout is made of -/
def valid : List Pc → Prop
  | [] => False
  | p :: r => pok p ∧ chain p r ∧ isOpn (lastOf p r) = true
def lined : List Pc → Prop
  | [] => False
  | p :: r => pok p ∧ chain p r
theorem valid.lined {ps : List Pc} (h : valid ps) : lined ps := by
  cases ps with
  | nil => exact h.elim
  | cons p r => exact ⟨h.1, h.2.1⟩
/-- a sequence of pieces: a list, a tuple, or the list in a cell -/
def isSeq (x : D) (ps : List Pc) (M : Sto) : Prop := x = .lst (ps.map Pc.d) ∨ x = .tup (ps.map Pc.d) ∨ ∃ n, x = .ref n ∧ n < M.length ∧ M[n]? = some (.lst (ps.map Pc.d))
def prevD (ps : List Pc) : Nat → D
  | 0 => .non
  | i + 1 => optD ps[i]?
theorem chain_ix : ∀ (r : List Pc) (p : Pc), chain p r → ∀ (i : Nat) (q : Pc), r[i]? = some q → pok q ∧ ∀ b, (p :: r)[i]? = some b → mf b q = true
  | [], p, _, i, q, h => by simp at h
  | s :: r, p, h, 0, q, hq => by
    have e : s = q := by simpa using hq
    subst e
    exact ⟨h.1, fun b hb => by have e : p = b := by simpa using hb
                               subst e; exact h.2.1⟩
  | s :: r, p, h, i + 1, q, hq => by
    obtain ⟨a, b⟩ := chain_ix r s h.2.2 i q (by simpa using hq)
    exact ⟨a, fun c hc => b c (by simpa using hc)⟩
theorem lastOf_ix : ∀ (r : List Pc) (p : Pc), (p :: r)[r.length]? = some (lastOf p r)
  | [], p => rfl
  | s :: r, p => by
    have := lastOf_ix r s
    simpa [lastOf] using this
theorem enum_at (ps : List Pc) (i : Nat) (M : Sto) : (Src.items (enumD 0 (ps.map Pc.d))).at_ i M = some ((ps[i]?).map fun p => .tup [.int (i : Nat), p.d]) := by
  show some _ = _
  rw [enumD_get]
  simp only [List.getElem?_map, Option.map_map, Nat.zero_add]
  rfl
theorem ecell_at (ps : List Pc) (i n : Nat) (M : Sto) (h : M[n]? = some (.lst (ps.map Pc.d))) : (Src.ecell n).at_ i M = some ((ps[i]?).map fun p => .tup [.int (i : Nat), p.d]) := by
  show (celL M[n]?).map _ = _
  rw [h, celL_l]
  simp only [List.getElem?_map, Option.map_map, Option.map_some]
  rfl
theorem fw_run (x : D) (ps : List Pc) (src : Src) (h : lined ps) (hs : ps.length < 10000000) (M : Sto) (hat : ∀ i, src.at_ i M = some ((ps[i]?).map fun p => .tup [.int (i : Nat), p.d])) :
    ∃ a b, forS (tgTup [2, 3]) fwBody src 20000000 0 [some x, some .non, none, none] M = .ok (.nx [some x, some (prevD ps ps.length), a, b]) M := by
  cases ps with
  | nil => exact h.elim
  | cons p r =>
    obtain ⟨hp, hc⟩ := h
    obtain ⟨e, M', h1, h2, a, b, h3⟩ := forS_inv (t := tgTup [2, 3]) (fb := fwBody) (src := src) (p :: r).length (fun i env M' => M' = M ∧ ∃ a b, env = [some x, some (prevD (p :: r) i), a, b])
      (fun env M' ⟨e, _⟩ => by rw [e, hat]; simp) (fun i env M' hi ⟨e, a, b, ev⟩ => by
        subst e ev
        have hq : (p :: r)[i]? = some (p :: r)[i] := List.getElem?_eq_getElem hi
        refine ⟨_, _, [some x, some (prevD (p :: r) (i + 1)), some (.int (i : Nat)), some ((p :: r)[i]).d], M', by rw [hat, hq]; rfl, rfl, ?_, rfl, _, _, rfl⟩
        show fwBody [some x, some (prevD (p :: r) i), some (.int (i : Nat)), some ((p :: r)[i]).d] M' = _
        cases i with
        | zero =>
          have st : fwBody [some x, some .non, some (.int ((0 : Nat) : Int)), some p.d] M' = .ok (.nx [some x, some p.d, some (.int ((0 : Nat) : Int)), some p.d]) M' := by
            unfold fwBody
            walk_at "evm_33af6a"
            rw [is_piece_ok p hp]
            walk_at "evm_33af6a"
          exact st
        | succ i =>
          have hr : r[i]? = some (p :: r)[i + 1] := by simpa using hq
          obtain ⟨k1, k2⟩ := chain_ix r p hc i _ hr
          have hb : (p :: r)[i]? = some ((p :: r)[i]'(by omega)) := List.getElem?_eq_getElem _
          have st := fw_step x ((p :: r)[i]'(by omega)) (p :: r)[i + 1] none none (i + 1) M' k1 (k2 _ hb)
          have e1 : prevD (p :: r) (i + 1) = ((p :: r)[i]'(by omega)).d := by
            show optD (p :: r)[i]? = _
            rw [hb]; rfl
          have e2 : prevD (p :: r) (i + 1 + 1) = ((p :: r)[i + 1]).d := by
            show optD (p :: r)[i + 1]? = _
            rw [hq]; rfl
          rw [e1, e2]
          exact st) (p :: r).length 0 20000000 [some x, some .non, none, none] M (by simp) (by omega) ⟨rfl, none, none, rfl⟩
    subst h2 h3
    exact ⟨a, b, h1⟩
theorem first_wrong_ok (x : D) (ps : List Pc) (M : Sto) (hx : isSeq x ps M) (h : valid ps) (hs : ps.length < 10000000) : F_first_wrong [x] M = .ok .non M := by
  have hl : ∃ q, prevD ps ps.length = q.d ∧ isOpn q = true := by
    cases ps with
    | nil => exact h.elim
    | cons p r => exact ⟨lastOf p r, by show optD (p :: r)[r.length]? = _; rw [lastOf_ix]; rfl, h.2.2⟩
  obtain ⟨q, e1, ho⟩ := hl
  obtain ⟨l, hl⟩ := is_tup q
  have eo := is_open_eq q M
  rw [ho, hl] at eo
  have fin : ∀ a b src, forS (tgTup [2, 3]) fwBody src 20000000 0 [some x, some .non, none, none] M = .ok (.nx [some x, some (prevD ps ps.length), a, b]) M → kEnum2 x M = .ok src M → F_first_wrong [x] M = .ok .non M := by
    intro a b src e2 e3
    unfold F_first_wrong B_first_wrong
    walk_at "evm_33af6a"
    rw [e3]
    walk_at "evm_33af6a"
    rw [show (dSeq _ _ : DS) = fwBody from rfl, e2, e1, hl]
    walk_at "evm_33af6a"
    rw [eo]
    walk_at "evm_33af6a"
  rcases hx with rfl | rfl | ⟨n, rfl, hn, hm⟩
  · obtain ⟨a, b, e2⟩ := fw_run _ ps (.items (enumD 0 (ps.map Pc.d))) h.lined hs M (fun i => enum_at ps i M)
    exact fin a b _ e2 rfl
  · obtain ⟨a, b, e2⟩ := fw_run _ ps (.items (enumD 0 (ps.map Pc.d))) h.lined hs M (fun i => enum_at ps i M)
    exact fin a b _ e2 rfl
  · obtain ⟨a, b, e2⟩ := fw_run _ ps (.ecell n) h.lined hs M (fun i => ecell_at ps i n M hm)
    exact fin a b _ e2 (ev_kEnum2_r M n _ hm)
def nfS (acc : List Pc) (p : Pc) : List Pc := match acc.getLast? with
  | none => acc ++ [p]
  | some l => match jn l p with
    | none => acc ++ [p]
    | some r => acc.dropLast ++ [r]
def nf (ps : List Pc) : List Pc := ps.foldl nfS []
def nfBody : DS := (dSeq (dSet 3 (dIfE (dTru (dVar 1)) (dCall F_joined (dConsA (dBin gIx (dVar 1) (dUn gNeg (dC (.int 1)))) (dConsA (dVar 2) dNilA))) (dC .non)))
      (dIf (dB (dBin (gIs false) (dVar 3) (dC .non))) (dDrop (dLm gApp (dVar 1) (dConsA (dVar 2) dNilA))) (dSetIx (dVar 1) (dUn gNeg (dC (.int 1))) (dVar 3))))
theorem ix_last {α : Type} (l : List α) (x : α) : ixN (l ++ [x]).length (-1) = some l.length := by
  simp [ixN]
  omega
theorem nf_step (X : D) (b : Option D) (M : Sto) (acc : List Pc) (q : Pc) (ha : ∀ l, acc.getLast? = some l → isOpn l = false) (hl : acc.length < 16777216) :
    ∃ b', nfBody [some X, some (.ref M.length), some q.d, b] (M ++ [.lst (acc.map Pc.d)]) = .ok (.nx [some X, some (.ref M.length), some q.d, b']) (M ++ [.lst ((nfS acc q).map Pc.d)]) := by
  unfold nfBody
  cases hacc : acc.getLast? with
  | none =>
    have e : acc = [] := List.getLast?_eq_none_iff.mp hacc
    subst e
    refine ⟨some .non, ?_⟩
    walk_at "evm_33af6a"
    rw [appL_ok _ _ (by simp)]
    walk_at "evm_33af6a"
    simp [nfS]
  | some l =>
    obtain ⟨t, rfl⟩ : ∃ t, acc = t ++ [l] := ⟨acc.dropLast, by
      have hne : acc ≠ [] := fun z => by subst z; cases hacc
      rw [List.getLast?_eq_some_getLast hne] at hacc
      have := List.dropLast_concat_getLast hne
      rw [Option.some.inj hacc] at this
      exact this.symm⟩
    have hj := joined_eq l q (ha l hacc) (M ++ [.lst ((t ++ [l]).map Pc.d)])
    have em : (t ++ [l]).map Pc.d = t.map Pc.d ++ [l.d] := by simp
    have ne : (t.map Pc.d ++ [l.d]).isEmpty = false := by simp
    cases hjn : jn l q with
    | none =>
      rw [hjn] at hj
      refine ⟨some .non, ?_⟩
      rw [em] at hj ⊢
      walk_at "evm_33af6a"
      simp only [ne]
      walk_at "evm_33af6a"
      rw [hj]
      simp only [optD]
      walk_at "evm_33af6a"
      rw [appL_ok _ _ (by simpa using hl)]
      walk_at "evm_33af6a"
      simp [nfS, hacc, hjn]
    | some r =>
      rw [hjn] at hj
      obtain ⟨lr, hr⟩ := is_tup r
      refine ⟨some r.d, ?_⟩
      rw [em] at hj ⊢
      walk_at "evm_33af6a"
      simp only [ne]
      walk_at "evm_33af6a"
      rw [hj]
      simp only [optD, hr]
      walk_at "evm_33af6a"
      simp only [putL, ix_last]
      walk_at "evm_33af6a"
      simp [nfS, hacc, hjn, hr]
section
set_option Elab.async false
set_option linter.all false
set_option maxRecDepth 100000
set_option maxHeartbeats 4000000
theorem jn_opn {l q r : Pc} (h : jn l q = some r) : isOpn r = isOpn q := by
  cases l <;> cases q <;> simp only [jn] at h <;> first | (cases h; done) | skip
  · cases h; rfl
  all_goals (split at h; all_goals first | (cases h; rfl) | (cases h; done))
theorem nfS_last (acc : List Pc) (q : Pc) : ∃ r, (nfS acc q).getLast? = some r ∧ isOpn r = isOpn q := by
  unfold nfS
  cases h : acc.getLast? with
  | none => exact ⟨q, by simp, rfl⟩
  | some l =>
    cases hj : jn l q with
    | none => exact ⟨q, by simp [hj], rfl⟩
    | some r => exact ⟨r, by simp [hj], jn_opn hj⟩
theorem nfS_len (acc : List Pc) (q : Pc) : (nfS acc q).length ≤ acc.length + 1 := by
  unfold nfS
  split
  · simp
  · split
    · simp
    · simp
theorem nf_take_last (ps : List Pc) (i : Nat) (l : Pc) (h : (nf (ps.take i)).getLast? = some l) (hi : i ≤ ps.length) : ∃ q, (ps.take i).getLast? = some q ∧ isOpn l = isOpn q := by
  cases e : (ps.take i).getLast? with
  | none =>
    rw [List.getLast?_eq_none_iff] at e
    rw [e] at h
    cases h
  | some q =>
    obtain ⟨t, ht⟩ : ∃ t, ps.take i = t ++ [q] := ⟨(ps.take i).dropLast, by
      have hne : ps.take i ≠ [] := fun z => by rw [z] at e; cases e
      rw [List.getLast?_eq_some_getLast hne] at e
      have := List.dropLast_concat_getLast hne
      rw [Option.some.inj e] at this
      exact this.symm⟩
    refine ⟨q, rfl, ?_⟩
    rw [ht] at h
    unfold nf at h
    rw [List.foldl_append] at h
    obtain ⟨r, hr, ho⟩ := nfS_last (t.foldl nfS []) q
    have h' : (nfS (t.foldl nfS []) q).getLast? = some l := h
    rw [hr] at h'; cases h'
    exact ho
theorem nf_len : ∀ (ps acc : List Pc), (ps.foldl nfS acc).length ≤ acc.length + ps.length
  | [], acc => by simp
  | q :: r, acc => by
    have h1 := nf_len r (nfS acc q)
    have h2 := nfS_len acc q
    simp only [List.foldl_cons, List.length_cons]
    omega
theorem nf_run (x : D) (ps : List Pc) (src : Src) (M : Sto) (h : ∀ p ∈ ps.dropLast, isOpn p = false) (hl : ps.length < 10000000) (hat : ∀ i c, src.at_ i (M ++ [c]) = some ((ps[i]?).map Pc.d)) :
    ∃ a b, forS (tgName 2) nfBody src 20000000 0 [some x, some (.ref M.length), none, none] (M ++ [.lst []]) = .ok (.nx [some x, some (.ref M.length), a, b]) (M ++ [.lst ((nf ps).map Pc.d)]) := by
  obtain ⟨e, M', h1, ⟨a, b, h2⟩, h3⟩ := forS_inv (t := tgName 2) (fb := nfBody) (src := src) ps.length (fun i env M' => (∃ a b, env = [some x, some (.ref M.length), a, b]) ∧ M' = M ++ [.lst ((nf (ps.take i)).map Pc.d)])
    (fun env M' ⟨_, e⟩ => by rw [e, hat]; simp) (fun i env M' hi ⟨⟨a, b, e1⟩, e2⟩ => by
      subst e1 e2
      have hq : ps[i]? = some ps[i] := List.getElem?_eq_getElem hi
      have hlen : (nf (ps.take i)).length < 16777216 := by
        have := nf_len (ps.take i) []
        unfold nf
        simp at this
        omega
      obtain ⟨b', st⟩ := nf_step x b M (nf (ps.take i)) ps[i] (fun l hl => by
        obtain ⟨q, hq1, hq2⟩ := nf_take_last ps i l hl (by omega)
        rw [hq2]
        refine h q ?_
        have hm : q ∈ ps.take i := List.mem_of_getLast? hq1
        rw [List.dropLast_eq_take]
        exact (List.take_subset_take_left ps (by omega)) hm) hlen
      refine ⟨_, _, _, _, by rw [hat, hq]; rfl, rfl, st, ⟨_, _, rfl⟩, ?_⟩
      have et : ps.take (i + 1) = ps.take i ++ [ps[i]] := by rw [List.take_succ, hq]; rfl
      rw [et]
      unfold nf
      rw [List.foldl_append]
      rfl) ps.length 0 20000000 [some x, some (.ref M.length), none, none] (M ++ [.lst []]) (by simp) (by omega) ⟨⟨none, none, rfl⟩, rfl⟩
  subst h2 h3
  rw [List.take_length] at h1
  exact ⟨a, b, h1⟩
theorem closed_pc (k : Nat) (p : Pc) : closed k p.d = true := by cases p <;> simp [Pc.d, closed, closedAll]
theorem closed_pcs (k : Nat) : ∀ ps : List Pc, closedAll k (ps.map Pc.d) = true
  | [] => rfl
  | p :: r => by simp [closedAll, closed_pc, closed_pcs k r]
theorem closed_ints (k : Nat) : ∀ ns : List Int, closedAll k (ns.map D.int) = true
  | [] => rfl
  | n :: r => by simp [closedAll, closed, closed_ints k r]
theorem frz_new {M : Sto} (hM : PureS M) {L : List D} (hL : closedAll M.length L = true) : frzO M.length (.ref M.length) (M ++ [.lst L]) = .ok (.lst L) M := by
  unfold frzO thaw
  simp only [Nat.lt_irrefl, if_false, app_at, hL, if_true, List.take_left, hM M.length]
theorem normal_form_eq (x : D) (ps : List Pc) (M : Sto) (hx : isSeq x ps M) (h : ∀ p ∈ ps.dropLast, isOpn p = false) (hl : ps.length < 10000000) (hM : PureS M) :
    F_normal_form [x] M = .ok (.lst ((nf ps).map Pc.d)) M := by
  have fz : frzO M.length (.ref M.length) (M ++ [.lst ((nf ps).map Pc.d)]) = .ok (.lst ((nf ps).map Pc.d)) M := frz_new hM (closed_pcs _ _)
  have fin : ∀ a b src, forS (tgName 2) nfBody src 20000000 0 [some x, some (.ref M.length), none, none] (M ++ [.lst []]) = .ok (.nx [some x, some (.ref M.length), a, b]) (M ++ [.lst ((nf ps).map Pc.d)]) → kIter2 x (M ++ [.lst []]) = .ok src (M ++ [.lst []]) → F_normal_form [x] M = .ok (.lst ((nf ps).map Pc.d)) M := by
    intro a b src e e2
    unfold F_normal_form frz B_normal_form
    walk_at "evm_33af6a"
    rw [e2]
    walk_at "evm_33af6a"
    rw [show (dSeq _ _ : DS) = nfBody from rfl, e]
    walk_at "evm_33af6a"
    exact fz
  rcases hx with rfl | rfl | ⟨n, rfl, hn, hm⟩
  · obtain ⟨a, b, e⟩ := nf_run (.lst (ps.map Pc.d)) ps (.items (ps.map Pc.d)) M h hl (fun i c => by show some _ = _; rw [List.getElem?_map])
    exact fin a b _ e rfl
  · obtain ⟨a, b, e⟩ := nf_run (.tup (ps.map Pc.d)) ps (.items (ps.map Pc.d)) M h hl (fun i c => by show some _ = _; rw [List.getElem?_map])
    exact fin a b _ e rfl
  · have hm' : ∀ c : Cell, (M ++ [c])[n]? = some (.lst (ps.map Pc.d)) := fun c => by rw [List.getElem?_append_left hn]; exact hm
    obtain ⟨a, b, e⟩ := nf_run (.ref n) ps (.cell n) M h hl (fun i c => by
      show (celL (M ++ [c])[n]?).map _ = _
      rw [hm' c, celL_l]
      simp only [List.getElem?_map, Option.map_some])
    exact fin a b _ e (ev_kIter2_r _ n _ (hm' _))
theorem forS_items (t : DG) (fb : DS) (l : List D) : ∀ (f i : Nat) (env : En) (M : Sto), l.length < f + i → i ≤ l.length → forS t fb (.items l) f i env M = forGo t fb (l.drop i) env M
  | 0, i, env, M, h1, h2 => absurd h1 (by omega)
  | f + 1, i, env, M, h1, h2 => by
    unfold forS
    rw [show (Src.items l).at_ i M = some l[i]? from rfl]
    by_cases hi : i < l.length
    · have hq : l[i]? = some l[i] := List.getElem?_eq_getElem hi
      have hd : l.drop i = l[i] :: l.drop (i + 1) := List.drop_eq_getElem_cons hi
      rw [hq, hd]
      unfold forGo
      simp only
      cases t l[i] env with
      | none => rfl
      | some env1 =>
        show (fb env1 M).bind _ = (fb env1 M).bind _
        cases fb env1 M with
        | bad => rfl
        | exc _ _ _ => rfl
        | ok fl M1 =>
          cases fl with
          | nx e => exact forS_items t fb l f (i + 1) e M1 (by omega) hi
          | ct e => exact forS_items t fb l f (i + 1) e M1 (by omega) hi
          | bk e => rfl
          | rt d => rfl
    · have hq : l[i]? = none := List.getElem?_eq_none_iff.mpr (by omega)
      have hd : l.drop i = [] := List.drop_eq_nil_of_le (by omega)
      rw [hq, hd]
      rfl
def rc : Pc → Int
  | .top n => n
  | .old a b => b - a + 1
  | .opn _ => 0
  | .new _ _ n => n
theorem row_count_eq (p : Pc) (h : isOpn p = false) (M : Sto) : F_row_count [p.d] M = .ok (.int (rc p)) M := by
  unfold F_row_count B_row_count
  cases p <;> simp only [Pc.d, rc, isOpn] at h ⊢
  all_goals (try (cases h; done))
  all_goals walk_at "evm_33af6a"
def soBody : DS := (dDrop (dLm gApp (dVar 1) (dConsA (dBin gAdd (dBin gIx (dVar 1) (dUn gNeg (dC (.int 1)))) (dCall F_row_count (dConsA (dVar 2) dNilA))) dNilA)))
/-- where the pieces begin, the first at s -/
def stsF : Int → List Pc → List Int
  | s, [] => [s]
  | s, p :: r => s :: stsF (s + rc p) r
theorem stsF_len : ∀ (s : Int) (ps : List Pc), (stsF s ps).length = ps.length + 1
  | _, [] => rfl
  | s, p :: r => by simp [stsF, stsF_len]
theorem so_loop (X : D) (M : Sto) : ∀ (ps : List Pc) (acc : List Int) (s : Int) (a : Option D), (∀ p ∈ ps, isOpn p = false) → acc.length + ps.length < 16777215 →
    ∃ (a' : Option D), forGo (tgName 2) soBody (ps.map Pc.d) [some X, some (.ref M.length), a] (M ++ [.lst ((acc ++ [s]).map D.int)]) = .ok (.nx [some X, some (.ref M.length), a']) (M ++ [.lst ((acc ++ stsF s ps).map D.int)])
  | [], acc, s, a, _, _ => ⟨a, rfl⟩
  | q :: r, acc, s, a, h, hl => by
    simp only [List.length_cons] at hl
    obtain ⟨a', e⟩ := so_loop X M r (acc ++ [s]) (s + rc q) (some q.d) (fun p hp => h p (List.mem_cons_of_mem _ hp)) (by simp; omega)
    refine ⟨a', ?_⟩
    have em : (acc ++ [s]).map D.int = acc.map D.int ++ [.int s] := by simp
    have st : soBody [some X, some (.ref M.length), some q.d] (M ++ [.lst ((acc ++ [s]).map D.int)]) = .ok (.nx [some X, some (.ref M.length), some q.d]) (M ++ [.lst ((acc ++ [s] ++ [s + rc q]).map D.int)]) := by
      unfold soBody
      rw [em]
      walk_at "evm_33af6a"
      rw [row_count_eq q (h q List.mem_cons_self)]
      walk_at "evm_33af6a"
      rw [appL_ok _ _ (by simp; omega)]
      walk_at "evm_33af6a"
      simp
    simp only [List.map_cons, ev_go_cons, tgName, List.set_cons_zero, List.set_cons_succ, ev_goO]
    rw [st]
    simp only [bind_ok, ev_kGo_nx]
    rw [e]
    simp [stsF]
theorem cut_m1 (l : List D) : Ip.cutD l none (some (-1)) = l.dropLast := by
  unfold Ip.cutD HT.sIx
  simp only [List.drop_zero, Nat.sub_zero]
  rw [List.dropLast_eq_take]
  congr 1
  rw [if_pos (by decide)]
  omega
theorem starts_of_eq' (ps : List Pc) (h : ∀ p ∈ ps.dropLast, isOpn p = false) (hl : ps.length < 10000000) (M : Sto) (hM : PureS M) : F_starts_of [.lst (ps.map Pc.d)] M = .ok (.lst ((stsF 0 ps.dropLast).map D.int)) M := by
  obtain ⟨a', e⟩ := so_loop (.lst (ps.map Pc.d)) M ps.dropLast [] 0 none h (by simp; omega)
  have fz : frzO M.length (.ref M.length) (M ++ [.lst ((stsF 0 ps.dropLast).map D.int)]) = .ok (.lst ((stsF 0 ps.dropLast).map D.int)) M := frz_new hM (closed_ints _ _)
  unfold F_starts_of frz B_starts_of
  have ed : (ps.map Pc.d).dropLast = ps.dropLast.map Pc.d := by simp [List.map_dropLast]
  simp only [List.nil_append, List.map_cons, List.map_nil] at e
  walk_at "evm_33af6a"
  rw [cut_m1, ed]
  rw [show (dDrop _ : DS) = soBody from rfl, forS_items _ _ _ _ _ _ _ (by simp; omega) (Nat.zero_le _), List.drop_zero, e]
  walk_at "evm_33af6a"
  exact fz
end
section
set_option Elab.async false
set_option linter.all false
set_option maxRecDepth 100000
set_option maxHeartbeats 4000000
theorem mf_opn {p q : Pc} (h : mf p q = true) : isOpn p = false := by cases p <;> first | rfl | (cases h; done)
theorem chain_drop : ∀ (ps : List Pc) (p : Pc), chain p ps → ∀ q ∈ (p :: ps).dropLast, isOpn q = false
  | [], p, _, q, hq => by simp at hq
  | r :: ps, p, h, q, hq => by
    simp only [List.dropLast_cons₂, List.mem_cons] at hq
    rcases hq with rfl | hq
    · exact mf_opn h.2.1
    · exact chain_drop ps r h.2.2 q hq
theorem valid_drop {ps : List Pc} (h : valid ps) : ∀ q ∈ ps.dropLast, isOpn q = false := by
  cases ps with
  | nil => exact h.elim
  | cons p r => exact chain_drop r p h.2.1
abbrev lks : List Str := ["parts", "starts"]
def lay (qs : List Pc) (ss : List Int) : D := .obj "Layout" lks [.lst (qs.map Pc.d), .lst (ss.map D.int)]
theorem pureS_ins {M : Sto} (h : PureS M) {c : Str} {ks : List Str} {ds : List D} (hd : ∀ k, closedAll k ds = true) : PureS (M ++ [.ins c ks ds]) := fun k => by
  rw [List.all_append, h k]; simp [cellClosed, hd k]
theorem init_eq' (x : D) (ps qs : List Pc) (M : Sto) (hx : isSeq x ps M) (hv : valid ps) (hq : nf ps = qs) (hqd : ∀ q ∈ qs.dropLast, isOpn q = false) (hl : ps.length ≤ 1000000) (hn : qs.length ≤ 60) (hM : PureS M) :
    F_Layout___init__ [.ref M.length, x] (M ++ [.ins "Layout" [] []]) = .ok .non (M ++ [.ins "Layout" lks [.lst (qs.map Pc.d), .lst ((stsF 0 qs.dropLast).map D.int)]]) := by
  have h1 : PureS (M ++ [.ins "Layout" [] []]) := pureS_ins hM fun _ => rfl
  have h2 : PureS (M ++ [.ins "Layout" ["parts"] [.lst (qs.map Pc.d)]]) := pureS_ins hM fun k => by simp [closedAll, closed, closed_pcs]
  have es := starts_of_eq' qs hqd (by omega) _ h2
  unfold F_Layout___init__ B_Layout___init__
  have hx1 : isSeq x ps (M ++ [.ins "Layout" [] []]) := by
    rcases hx with h | h | ⟨n, h, hn, hm⟩
    · exact .inl h
    · exact .inr (.inl h)
    · exact .inr (.inr ⟨n, h, by simp; omega, by rw [List.getElem?_append_left hn]; exact hm⟩)
  have hgt : ¬ (60 : Int) < ((qs.map Pc.d).length : Nat) := by rw [List.length_map]; omega
  walk_at "evm_33af6a"
  rw [first_wrong_ok x ps _ hx1 hv (by omega)]
  walk_at "evm_33af6a"
  rw [normal_form_eq x ps _ hx1 (valid_drop hv) (by omega) h1, hq]
  walk_at "evm_33af6a"
  simp only [hgt, decide_false]
  walk_at "evm_33af6a"
  rw [ev_kSetFld2 (h := app_at _ _) (hk := by decide)]
  walk_at "evm_33af6a"
  simp only [putKs, putVs]
  rw [es]
  walk_at "evm_33af6a"
  rw [ev_kSetFld2 (h := app_at _ _) (hk := by decide)]
  walk_at "evm_33af6a"
  rfl
theorem make_eq' (x : D) (ps qs : List Pc) (M : Sto) (hx : isSeq x ps M) (hv : valid ps) (hq : nf ps = qs) (hqd : ∀ q ∈ qs.dropLast, isOpn q = false) (hl : ps.length ≤ 1000000) (hn : qs.length ≤ 60) (hM : PureS M) :
    kMake "Layout" F_Layout___init__ [x] M = .ok (lay qs (stsF 0 qs.dropLast)) M := by
  have e := init_eq' x ps qs M hx hv hq hqd hl hn hM
  rw [ev_kMake, e, noex_ok, bind_ok, ev_kMake2]
  unfold frzO thaw
  have hc : closedAll M.length [D.lst (qs.map Pc.d), .lst ((stsF 0 qs.dropLast).map D.int)] = true := by simp [closedAll, closed, closed_pcs, closed_ints]
  simp only [Nat.lt_irrefl, if_false, app_at, hc, if_true, List.take_left, hM M.length]
  rfl
end
theorem p1 (a b c d e y : D) : putL 1 y [a, b, c, d, e] = some [a, y, c, d, e] := rfl
theorem p2 (a b c d e y : D) : putL 2 y [a, b, c, d, e] = some [a, b, y, d, e] := rfl
theorem p3 (a b c d e y : D) : putL 3 y [a, b, c, d, e] = some [a, b, c, y, e] := rfl
theorem p4 (a b c d e y : D) : putL 4 y [a, b, c, d, e] = some [a, b, c, d, y] := rfl
theorem gp (M : Sto) : gPow (.int 10) (.int 18) M = some (.int 1000000000000000000, M) := by
  simp [gPow, gIntC]
theorem gm1 (i : Int) (M : Sto) : gMul (.int i) (.int 48271) M = some (.int (i * 48271), M) := g_mul M i 48271 (Or.inr (by decide))
theorem gm2 (i : Int) (M : Sto) : gMul (.int i) (.int 69621) M = some (.int (i * 69621), M) := g_mul M i 69621 (Or.inr (by decide))
theorem gm3 (i : Int) (M : Sto) : gMul (.int i) (.int 5) M = some (.int (i * 5), M) := g_mul M i 5 (Or.inr (by decide))
theorem gm4 (i : Int) (M : Sto) : gMul (.int i) (.int 39373) M = some (.int (i * 39373), M) := g_mul M i 39373 (Or.inr (by decide))
theorem gm5 (i : Int) (M : Sto) : gMul (.int 1013904223) (.int i) M = some (.int (1013904223 * i), M) := g_mul M 1013904223 i (Or.inl (by decide))
theorem gmd (i : Int) (M : Sto) : gMod (.int i) (.int 2147483563) M = some (.int (i % 2147483563), M) := g_mod M i 2147483563 (by decide)
theorem gdv (i : Int) (M : Sto) : gDiv (.int i) (.int 37) M = some (.int (i / 37), M) := g_div M i 37 (by decide) (by decide)
local macro_rules | `(tactic| walk_at "evm_621bba") => `(tactic| simp only [ev_runF, ev_kRun_rt, ev_kRun_nx, ev_seq, ev_kSeq_nx, ev_kSeq_rt, ev_kSeq_bk, ev_kSeq_ct, ev_skip, ev_set, ev_kSet, ev_drop, ev_kDrop, ev_ret, ev_kRet, ev_retN, ev_if, ev_kIf_t, ev_kIf_f, ev_bad, ev_asg, ev_kAsg, ev_asgO, ev_par, ev_kPar, ev_for, ev_kFor, ev_go_nil, ev_go_cons, ev_goO, ev_kGo_nx, ev_kGo_ct, ev_kGo_rt, ev_iter, ev_kIter_l, ev_kIter_t, ev_kIter_s, ev_rng1, ev_rng2, ev_enum, ev_kEnum_l, ev_kEnum_t,
  ev_var, ev_varO, celL_l, asL_ref, asL_lst, ev_c, ev_bin, ev_kBin, ev_kBin2, ev_un, ev_kUn, ev_nilA, ev_consA, ev_kCons, ev_kCons2, ev_tup, ev_lst, ev_lstC, ev_kTup, ev_kLst, ev_kLstC, ev_callB, ev_kCallB, ev_call, ev_kCall, ev_ifE, ev_kIfE_t, ev_kIfE_f, ev_andV, ev_orV, ev_notV, ev_kAndV_t, ev_kAndV_f, ev_kOrV_t, ev_kOrV_f, ev_kNotV, ev_and, ev_or, ev_not, ev_kAnd_t, ev_kAnd_f, ev_kOr_t, ev_kOr_f, ev_kNot, ev_tru, ev_b, ev_kTru_bl, ev_kTru_lst, ev_kTru_tup, ev_kTru_ref, ev_truO, ev_kB, ev_yes,
  ev_chain, ev_kCh0, ev_kCh1, ev_kCh2_t, ev_kCh2_f, ev_kCh3, ev_sl, ev_kSl1, ev_kSl2, ev_kSl3, ev_part, ev_kPart, ev_noPart, ev_fld, ev_kFld, ev_fldO, ev_lm, ev_kLm, ev_lmO, ev_kLm2, g_app, g_clear, ev_setIx, ev_kSetIx3, ev_setO, ev_kSetIx1, ev_kSetIx2,
  bind_ok, bind_bad, liftM_some, liftM_none, noex_ok, noex_bad, g_ixT, g_ixL, g_ixR, g_add_i, g_sub, g_lt, g_le, g_gt, g_ge, g_is_n, g_isnot_n, g_is_i, g_isnot_i, g_is_t, g_isnot_t, g_eq, g_ne, eq_int, eq_str, eq_bl, eq_nn, eq_ni, eq_in, eq_t2, g_lenT, g_lenL, g_lenR, g_slT, g_slL, g_slS, at0, at1, at2, at3, at4, atm1,
  ev_setFld, ev_kSetFld1, ev_make, ev_kMake, ev_kMake2, ev_meth, ev_kMeth2, ev_lenO, ev_kLenO, ev_reprO, ev_kReprO, ev_kReprO2, ev_fmt, ev_js_nil, ev_js_cons, g_listC, g_tupleR, ev_forS, ev_kForS, ev_iter2, ev_enum2, ev_kIter2_l, ev_kIter2_t, ev_kIter2_s, ev_kEnum2_l, ev_kEnum2_t, ev_lc, ev_kLc, ev_kLcEnd, ev_lc_nil, ev_lc_cons, ev_lcO, ev_kLcT_t, ev_kLcT_f, ev_kLcE, wipeE, g_isi_n, g_isi_b, g_isi_i, g_isi_s, g_isi_t, g_isi_l, isA_ii, isA_ib, isA_it, isA_il, isA_bi, isA_bb, isA_bt, isA_bll, isA_ni, isA_nb, isA_nt, isA_nl, isA_si, isA_sb, isA_st, isA_sl, isA_tt, isA_tl, isA_ti, isA_tb, isA_lt, isA_ll, isA_li, isA_lb, g_neg, g_all, bls_nil, bls_cons, List.all_cons, List.all_nil, id_eq, Bool.and_true, Bool.true_and, Nat.reduceLT,
  app_at, app_set, atn2, atn3, atn4, ar1, ar2, nc0, nc1, nc2, nc3, nc4, nc5, Int.reduceEq, Int.reduceNeg, Int.reduceLT, Int.reduceLE, w_tt, w_to, w_tn, w_ot, w_oo, w_on, w_nt, w_no, w_nn, w_et, w_eo, sl_13, sl_03, sl_1_2, sl_1_3, sl_1_4, sl_03b, sl_03c, tgName, tgTup, tgAll,
  List.length_cons, List.length_nil, List.map_cons, List.map_nil, List.cons_append, List.nil_append, List.getElem?_cons_zero, List.getElem?_cons_succ, List.set_cons_zero, List.set_cons_succ, List.replicate, Option.map_some, Option.map_none, Option.bind_some, Option.bind_none, Bool.not_true, Bool.not_false, and_self, true_and, and_true, Bool.false_eq_true, decide_true, decide_false, reduceIte, Nat.reduceAdd, Nat.reduceSub, Nat.reduceLeDiff, Nat.zero_add, List.isEmpty_cons, List.isEmpty_nil, p1, p2, p3, p4, gp, gm1, gm2, gm3, gm4, gm5, gmd, gdv, List.length_map])
theorem in64_small {m : Int} (h : 0 ≤ m) (h' : m < 2147483563) : in64 m = true := by
  unfold in64
  simp only [Bool.and_eq_true, decide_eq_true_eq]
  constructor <;> omega
def plA : DS := (dSetIx (dVar 0) (dC (.int 4)) (dBin gAdd (dBin gIx (dVar 0) (dC (.int 4))) (dC (.int 1))))
def plB : DS := (dIf (dAnd (dB (dBin (gEq false) (dBin gIx (dVar 0) (dC (.int 2))) (dC (.int 0)))) (dB (dBin gLt (dBin gIx (dVar 0) (dC (.int 1))) (dCallB gLen (dConsA (dBin gIx (dVar 0) (dC (.int 0))) dNilA))))) (dSeq (dSet 3 (dBin gIx (dBin gIx (dVar 0) (dC (.int 0))) (dBin gIx (dVar 0) (dC (.int 1)))))
      (dSeq (dSetIx (dVar 0) (dC (.int 1)) (dBin gAdd (dBin gIx (dVar 0) (dC (.int 1))) (dC (.int 1))))
      (dIf (dB (dBin gGe (dVar 3) (dBin gPow (dC (.int 10)) (dC (.int 18))))) (dSetIx (dVar 0) (dC (.int 2)) (dVar 3)) (dSeq (dSet 2 (dBin gAdd (dBin gMul (dBin gIx (dVar 0) (dC (.int 3))) (dC (.int 48271))) (dBin gMul (dBin gMod (dVar 3) (dC (.int 2147483563))) (dC (.int 69621)))))
      (dSetIx (dVar 0) (dC (.int 3)) (dBin gMod (dBin gAdd (dVar 2) (dC (.int 11))) (dC (.int 2147483563)))))))) dSkip)
/-- the draw itself, once the number to draw from is there -/
def plTail : DS := (dSeq (dIf (dB (dBin gGt (dBin gIx (dVar 0) (dC (.int 2))) (dC (.int 0)))) (dSeq (dSet 4 (dBin gMod (dBin gIx (dVar 0) (dC (.int 2))) (dVar 1)))
      (dSeq (dSetIx (dVar 0) (dC (.int 2)) (dBin gDiv (dBin gIx (dVar 0) (dC (.int 2))) (dVar 1)))
      (dRet (dVar 4)))) dSkip)
      (dSeq (dSet 2 (dBin gAdd (dBin gMul (dBin gMul (dBin gIx (dVar 0) (dC (.int 3))) (dBin gIx (dVar 0) (dC (.int 3)))) (dC (.int 5))) (dBin gMul (dBin gIx (dVar 0) (dC (.int 3))) (dC (.int 39373)))))
      (dSeq (dSetIx (dVar 0) (dC (.int 3)) (dBin gMod (dBin gAdd (dVar 2) (dBin gMul (dC (.int 1013904223)) (dBin gIx (dVar 0) (dC (.int 4))))) (dC (.int 2147483563))))
      (dRet (dBin gMod (dBin gDiv (dBin gIx (dVar 0) (dC (.int 3))) (dC (.int 37))) (dVar 1))))))
theorem tail_ok (ns : List Int) (i j m c n : Int) (a b d : Option D) (G : Sto) (hi : 0 ≤ i) (hj : 0 ≤ j) (hm : 0 ≤ m) (hm' : m < 2147483563) (hc : 0 ≤ c) (hn : 0 < n) (hn' : n < 1073741824) :
    ∃ r l', plTail [some (.ref 0), some (.int n), a, b, d] (.lst (bagD ns i j m c) :: G) = .ok (.rt (.int r)) (.lst l' :: G) ∧ 0 ≤ r ∧ r < n ∧ BagOk l' := by
  unfold plTail bagD
  by_cases h : 0 < j
  · refine ⟨j % n, bagD ns i (j / n) m c, ?_, Int.emod_nonneg _ (by omega), Int.emod_lt_of_pos _ hn, ns, i, j / n, m, c, rfl, hi, Int.ediv_nonneg hj (by omega), hm, hm', hc⟩
    walk_at "evm_621bba"
    simp only [h, decide_true]
    walk_at "evm_621bba"
    rw [g_mod _ _ _ hn]
    walk_at "evm_621bba"
    rw [g_div _ _ _ hn hn']
    walk_at "evm_621bba"
    simp only [bagD]
  · refine ⟨(m * m * 5 + m * 39373 + 1013904223 * c) % 2147483563 / 37 % n, bagD ns i j ((m * m * 5 + m * 39373 + 1013904223 * c) % 2147483563) c, ?_, Int.emod_nonneg _ (by omega), Int.emod_lt_of_pos _ hn, ns, i, j, _, c, rfl, hi, hj, Int.emod_nonneg _ (by decide), Int.emod_lt_of_pos _ (by decide), hc⟩
    walk_at "evm_621bba"
    simp only [h, decide_false]
    walk_at "evm_621bba"
    rw [g_mul _ m m (Or.inl (in64_small hm hm'))]
    walk_at "evm_621bba"
    rw [g_mod _ _ _ hn]
    walk_at "evm_621bba"
    rfl
theorem at_ints {ns : List Int} {i : Int} (h : 0 ≤ i) (h' : i < ns.length) : ∃ f, atI (ns.map D.int) i = some (.int f) := by
  obtain ⟨k, rfl⟩ : ∃ k : Nat, i = k := ⟨i.toNat, by omega⟩
  have hk : k < ns.length := by omega
  exact ⟨ns[k], atI_nat (by simp [hk])⟩
theorem pull_ok (l : List D) (G : Sto) (n : Int) (hl : BagOk l) (hn : 0 < n) (hn' : n < 1073741824) :
    ∃ r l', F__law_pull [.ref 0, .int n] (.lst l :: G) = .ok (.int r) (.lst l' :: G) ∧ 0 ≤ r ∧ r < n ∧ BagOk l' := by
  obtain ⟨ns, i, j, m, c, rfl, hi, hj, hm, hm', hc⟩ := hl
  -- the counter goes up
  have body : ∀ (a b d : Option D) (i j m : Int), 0 ≤ i → 0 ≤ j → 0 ≤ m → m < 2147483563 → ∃ r l', (plTail [some (.ref 0), some (.int n), a, b, d] (.lst (bagD ns i j m (c + 1)) :: G)).bind kRun = .ok (.int r) (.lst l' :: G) ∧ 0 ≤ r ∧ r < n ∧ BagOk l' := by
    intro a b d i j m h1 h2 h3 h4
    obtain ⟨r, l', e, q⟩ := tail_ok ns i j m (c + 1) n a b d G h1 h2 h3 h4 (by omega) hn hn'
    exact ⟨r, l', by rw [e]; rfl, q⟩
  unfold F__law_pull
  rw [show B__law_pull = dSeq plA (dSeq plB plTail) from rfl]
  unfold plA plB
  by_cases h : j = 0 ∧ i < ns.length
  · obtain ⟨h1, h2⟩ := h
    obtain ⟨f, hf⟩ := at_ints hi h2
    by_cases hb : 1000000000000000000 ≤ f
    · obtain ⟨r, l', e, q⟩ := body none (some (.int f)) none (i + 1) f m (by omega) (by omega) hm hm'
      refine ⟨r, l', ?_, q⟩
      rw [← e]
      unfold bagD
      walk_at "evm_621bba"
      simp only [h1, decide_true]
      walk_at "evm_621bba"
      simp only [decide_true, List.length_map, h2]
      walk_at "evm_621bba"
      rw [hf]
      walk_at "evm_621bba"
      simp only [hb, decide_true]
      walk_at "evm_621bba"
    · obtain ⟨r, l', e, q⟩ := body (some (.int (m * 48271 + f % 2147483563 * 69621))) (some (.int f)) none (i + 1) j ((m * 48271 + f % 2147483563 * 69621 + 11) % 2147483563) (by omega) hj (Int.emod_nonneg _ (by decide)) (Int.emod_lt_of_pos _ (by decide))
      refine ⟨r, l', ?_, q⟩
      rw [← e]
      unfold bagD
      walk_at "evm_621bba"
      simp only [h1, decide_true]
      walk_at "evm_621bba"
      simp only [decide_true, List.length_map, h2]
      walk_at "evm_621bba"
      rw [hf]
      walk_at "evm_621bba"
      simp only [hb, decide_false]
      walk_at "evm_621bba"
  · obtain ⟨r, l', e, q⟩ := body none none none i j m hi hj hm hm'
    refine ⟨r, l', ?_, q⟩
    rw [← e]
    unfold bagD
    by_cases hj0 : j = 0
    · have h2 : ¬ i < ns.length := fun z => h ⟨hj0, z⟩
      walk_at "evm_621bba"
      simp only [hj0, decide_true]
      walk_at "evm_621bba"
      simp only [decide_false, List.length_map, h2]
      walk_at "evm_621bba"
    · walk_at "evm_621bba"
      simp only [hj0, decide_false]
      walk_at "evm_621bba"
section
set_option Elab.async false
set_option linter.all false
set_option maxRecDepth 100000
set_option maxHeartbeats 4000000
theorem of_ok (l L : List D) (G : Sto) (hl : BagOk l) (hL : L ≠ []) (hs : L.length < 1073741824) :
    ∃ d l', F__law_of [.ref 0, .lst L] (.lst l :: G) = .ok d (.lst l' :: G) ∧ d ∈ L ∧ BagOk l' := by
  have h0 : 0 < L.length := List.length_pos_iff.mpr hL
  obtain ⟨r, l', e, r0, r1, hb⟩ := pull_ok l G (L.length : Nat) hl (by omega) (by omega)
  obtain ⟨k, rfl⟩ : ∃ k : Nat, r = k := ⟨r.toNat, by omega⟩
  have hr : k < L.length := by omega
  refine ⟨L[k], l', ?_, List.getElem_mem _, hb⟩
  have ea : atI L (k : Int) = some L[k] := atI_nat (by simp [hr])
  unfold F__law_of B__law_of
  walk_at "evm_621bba"
  rw [e]
  walk_at "evm_621bba"
  rw [ea]
  walk_at "evm_621bba"
end
def bgBody : DS := (dSet 1 (dBin gMod (dBin gAdd (dBin gAdd (dBin gMul (dVar 1) (dC (.int 39373))) (dBin gMod (dVar 2) (dC (.int 2147483563)))) (dC (.int 29))) (dC (.int 2147483563))))
theorem cut_ints (ns : List Int) (lo hi : Option Int) : Ip.cutD (ns.map D.int) lo hi = (Ip.cutD ns lo hi).map D.int := by
  unfold Ip.cutD
  simp only [List.length_map, List.map_drop, List.map_take]
theorem cut_le {α : Type} (ns : List α) (lo hi : Option Int) : (Ip.cutD ns lo hi).length ≤ ns.length := by
  unfold Ip.cutD
  simp only [List.length_take, List.length_drop]
  omega
theorem g_listL (l : List D) (M : Sto) : gList [.lst l] M = some (.lst l, M) := rfl
theorem bag_ok (ns : List Int) (h : ns.length ≤ 63) : ∃ l, F__law_bag [.scr ns] [] = .ok (.ref 0) [.lst l] ∧ BagOk l := by
  have hl := cut_le ns none (some 63)
  generalize hk : Ip.cutD ns none (some 63) = ks at hl
  obtain ⟨e, M', h1, h2, m, a, h3, hm, hm'⟩ := forS_inv (t := tgName 2) (fb := bgBody) (src := .items (ks.map D.int)) ks.length (fun i env M' => M' = [] ∧ ∃ m a, env = [some (.scr ns), some (.int m), a] ∧ 0 ≤ m ∧ m < 2147483563)
    (fun env M' _ => by show some _ = _; simp) (fun i env M' hi ⟨e, m, a, e2, hm, hm'⟩ => by
      subst e e2
      refine ⟨.int ks[i], _, _, _, by show some _ = _; simp [hi], rfl, ?_, rfl, (m * 39373 + ks[i] % 2147483563 + 29) % 2147483563, some (.int ks[i]), rfl, Int.emod_nonneg _ (by decide), Int.emod_lt_of_pos _ (by decide)⟩
      show bgBody [some (.scr ns), some (.int m), some (.int ks[i])] [] = _
      unfold bgBody
      walk_at "evm_621bba") ks.length 0 20000000 [some (.scr ns), some (.int 3804), none] [] (by simp) (by omega) ⟨rfl, 3804, none, rfl, by decide, by decide⟩
  subst h2 h3
  refine ⟨bagD ks 0 0 m 0, ?_, ks, 0, 0, m, 0, rfl, by decide, by decide, hm, hm', by decide⟩
  unfold F__law_bag B__law_bag
  walk_at "evm_621bba"
  rw [cut_ints, hk]
  rw [show (dSet 1 _ : DS) = bgBody from rfl, h1]
  walk_at "evm_621bba"
  rw [cut_ints, hk, g_listL]
  walk_at "evm_621bba"
  rfl
section
set_option Elab.async false
set_option linter.all false
set_option maxRecDepth 100000
set_option maxHeartbeats 4000000
def adj (R : Pc → Pc → Prop) : List Pc → Prop
  | [] => True
  | p :: r => (∀ q, r.head? = some q → R p q) ∧ adj R r
theorem adj_app {R : Pc → Pc → Prop} : ∀ (l m : List Pc), adj R l → adj R m → (∀ x y, l.getLast? = some x → m.head? = some y → R x y) → adj R (l ++ m)
  | [], m, _, hm, _ => by simpa using hm
  | p :: r, m, hl, hm, h => by
    refine ⟨fun q hq => ?_, adj_app r m hl.2 hm fun x y hx hy => ?_⟩
    · cases r with
      | nil => exact h p q rfl (by simpa using hq)
      | cons s r => exact hl.1 q (by simpa using hq)
    · cases r with
      | nil => cases hx
      | cons s r => exact h x y (by simpa using hx) hy
theorem adj_left {R : Pc → Pc → Prop} : ∀ (l m : List Pc), adj R (l ++ m) → adj R l
  | [], m, _ => trivial
  | p :: r, m, h => ⟨fun q hq => h.1 q (by cases r with
      | nil => cases hq
      | cons s r => simpa using hq), adj_left r m h.2⟩
theorem adj_mid {R : Pc → Pc → Prop} : ∀ (l : List Pc) (y : Pc) (m : List Pc) (x : Pc), adj R (l ++ y :: m) → l.getLast? = some x → R x y
  | [], y, m, x, _, hx => by cases hx
  | p :: r, y, m, x, h, hx => by
    cases r with
    | nil => cases hx; exact h.1 y rfl
    | cons s r => exact adj_mid (s :: r) y m x h.2 (by simpa using hx)
abbrev mfT (p q : Pc) : Prop := mf p q = true
abbrev jnN (p q : Pc) : Prop := jn p q = none
def okp (l : List Pc) : Prop := (∀ p ∈ l, pok p) ∧ adj mfT l
theorem okp_nil : okp [] := ⟨fun _ h => (by cases h), trivial⟩
theorem okp_app {l m : List Pc} (hl : okp l) (hm : okp m) (h : ∀ x y, l.getLast? = some x → m.head? = some y → mf x y = true) : okp (l ++ m) :=
  ⟨fun p hp => (List.mem_append.mp hp).elim (hl.1 p) (hm.1 p), adj_app l m hl.2 hm.2 h⟩
theorem okp_one {p : Pc} (h : pok p) : okp [p] := ⟨fun q hq => by rw [List.mem_singleton.mp hq]; exact h, fun q hq => (by cases hq), trivial⟩
theorem okp_two {p q : Pc} (h : pok p) (h' : pok q) (hm : mf p q = true) : okp [p, q] :=
  okp_app (l := [p]) (m := [q]) (okp_one h) (okp_one h') fun x y hx hy => by cases hx; cases hy; exact hm
theorem okp_snoc {l : List Pc} {q : Pc} (hl : okp l) (hq : pok q) (h : ∀ x, l.getLast? = some x → mf x q = true) : okp (l ++ [q]) :=
  okp_app hl (okp_one hq) fun x y hx hy => by cases hy; exact h x hx
theorem okp_left {l m : List Pc} (h : okp (l ++ m)) : okp l := ⟨fun p hp => h.1 p (List.mem_append.mpr (.inl hp)), adj_left l m h.2⟩
theorem jn_pok {l q r : Pc} (h : jn l q = some r) (hl : pok l) (hq : pok q) : pok r := by
  cases l <;> cases q <;> simp only [jn] at h <;> first | (cases h; done) | skip
  · cases h; simp only [pok] at *; omega
  · split at h <;> cases h; simp only [pok] at *; omega
  · split at h <;> cases h; simp only [pok] at *; omega
  · split at h <;> cases h; simp only [pok] at *; omega
theorem jn_pre {l q r : Pc} (h : jn l q = some r) (x : Pc) : mf x r = mf x l := by
  cases l <;> cases q <;> simp only [jn] at h <;> first | (cases h; done) | skip
  · cases h; cases x <;> rfl
  · split at h <;> cases h; cases x <;> rfl
  · split at h <;> cases h; cases x <;> rfl
  · split at h <;> cases h; cases x <;> rfl
theorem jn_post {l q r : Pc} (h : jn l q = some r) (x : Pc) : mf r x = mf q x := by
  cases l <;> cases q <;> simp only [jn] at h <;> first | (cases h; done) | skip
  · cases h; cases x <;> rfl
  · split at h <;> cases h; cases x <;> rfl
  · split at h <;> cases h; cases x <;> rfl
  · split at h <;> cases h; rename_i hc; rw [hc.1, hc.2]; cases x <;> rfl
theorem jn_pre_n {l q r : Pc} (h : jn l q = some r) (x : Pc) (hx : jn x l = none) : jn x r = none := by
  cases l <;> cases q <;> simp only [jn] at h <;> first | (cases h; done) | skip
  · cases h; cases x <;> first | rfl | (cases hx; done)
  · split at h <;> cases h; cases x <;> first | rfl | (simp only [jn] at hx ⊢; split at hx <;> simp_all)
  · split at h <;> cases h; cases x <;> first | rfl | (simp only [jn] at hx ⊢; split at hx <;> simp_all)
  · split at h <;> cases h; cases x <;> first | rfl | (simp only [jn] at hx ⊢; split at hx <;> simp_all)
theorem nfS_none {acc : List Pc} {q : Pc} (h : ∀ l, acc.getLast? = some l → jn l q = none) : nfS acc q = acc ++ [q] := by
  unfold nfS
  cases hl : acc.getLast? with
  | none => rfl
  | some l => simp only [h l hl]
theorem nfS_some {acc : List Pc} {l q r : Pc} (h : jn l q = some r) : nfS (acc ++ [l]) q = acc ++ [r] := by
  unfold nfS
  simp only [List.getLast?_append, List.getLast?_singleton, Option.some_or, h, List.dropLast_concat]
theorem snoc_of {l : List Pc} {x : Pc} (h : l.getLast? = some x) : ∃ m, l = m ++ [x] := by
  have hne : l ≠ [] := fun e => by rw [e] at h; cases h
  refine ⟨l.dropLast, ?_⟩
  have := List.dropLast_concat_getLast hne
  rw [List.getLast?_eq_some_getLast hne] at h
  cases h
  exact this.symm
/-- what the rows so far and their normal form have in common -/
structure NF (ps acc : List Pc) : Prop where
  ok : okp acc
  nrm : adj jnN acc
  post : ∀ x y, ps.getLast? = some x → acc.getLast? = some y → ∀ q, mf y q = mf x q
  emp : ps = [] ↔ acc = []
theorem NF.nil : NF [] [] := ⟨okp_nil, trivial, fun _ _ h => (by cases h), Iff.rfl⟩
theorem NF.step {ps acc : List Pc} {q : Pc} (h : NF ps acc) (hq : pok q) (hm : ∀ x, ps.getLast? = some x → mf x q = true) : NF (ps ++ [q]) (nfS acc q) := by
  have hy : ∀ y, acc.getLast? = some y → mf y q = true := fun y hy => by
    cases hp : ps.getLast? with
    | none =>
      rw [List.getLast?_eq_none_iff] at hp
      rw [h.emp.mp hp] at hy; cases hy
    | some x => rw [h.post x y hp hy]; exact hm x hp
  by_cases hj : ∀ l, acc.getLast? = some l → jn l q = none
  · rw [nfS_none hj]
    refine ⟨okp_snoc h.ok hq hy, adj_app _ _ h.nrm ⟨fun _ z => (by cases z), trivial⟩ fun x y hx hy => (by cases hy; exact hj x hx), fun x y hx hy => ?_, by simp⟩
    simp at hx hy
    subst hx hy
    exact fun _ => rfl
  · obtain ⟨l, hl, r, hr⟩ : ∃ l, acc.getLast? = some l ∧ ∃ r, jn l q = some r := by
      cases hl : acc.getLast? with
      | none => exact absurd (fun l z => by rw [hl] at z; cases z) hj
      | some l => cases hr : jn l q with
        | none => exact absurd (fun l' z => by rw [hl] at z; cases z; exact hr) hj
        | some r => exact ⟨l, rfl, r, hr⟩
    obtain ⟨m, rfl⟩ := snoc_of hl
    rw [nfS_some hr]
    have okm := okp_left h.ok
    refine ⟨okp_snoc okm (jn_pok hr (h.ok.1 l (by simp)) hq) fun x hx => ?_, adj_app _ _ (adj_left _ _ h.nrm) ⟨fun _ z => (by cases z), trivial⟩ fun x y hx hy => ?_, fun x y hx hy => ?_, by simp⟩
    · rw [jn_pre hr]; exact adj_mid m l [] x h.ok.2 hx
    · cases hy; exact jn_pre_n hr x (adj_mid m l [] x h.nrm hx)
    · simp at hx hy
      subst hx hy
      exact jn_post hr
theorem NF.run : ∀ (qs ps acc : List Pc), NF ps acc → okp (ps ++ qs) → NF (ps ++ qs) (qs.foldl nfS acc)
  | [], ps, acc, h, _ => by simpa using h
  | q :: qs, ps, acc, h, ho => by
    have e : ps ++ q :: qs = (ps ++ [q]) ++ qs := by simp
    rw [e] at ho ⊢
    refine NF.run qs (ps ++ [q]) (nfS acc q) (h.step (ho.1 q (by simp)) fun x hx => ?_) ho
    exact adj_mid ps q [] x (okp_left ho).2 hx
theorem nf_NF {ps : List Pc} (h : okp ps) : NF ps (nf ps) := NF.run ps [] [] NF.nil (by simpa using h)
/-- one piece, or two that make it -/
def splits (p : Pc) (gs : List Pc) : Prop := gs = [p] ∨ ∃ a b, gs = [a, b] ∧ jn a b = some p ∧ pok a ∧ pok b ∧ mf a b = true
structure SC (P gs : List Pc) : Prop where
  ok : okp gs
  nf_ : nf gs = P
  post : ∀ x y, P.getLast? = some x → gs.getLast? = some y → ∀ q, mf y q = mf x q
  emp : P = [] ↔ gs = []
  opn : ∀ a, P.getLast? = some (.opn a) → ∃ b, gs.getLast? = some (.opn b)
theorem SC.nil : SC [] [] := ⟨okp_nil, rfl, fun _ _ h => (by cases h), Iff.rfl, fun _ h => (by cases h)⟩
theorem mf_jn_pre {a b p : Pc} (h : jn a b = some p) (x : Pc) (hx : mf x p = true) : mf x a = true := by rw [← jn_pre h]; exact hx
theorem jn_jn_pre {a b p : Pc} (h : jn a b = some p) (x : Pc) (hx : jn x p = none) : jn x a = none := by
  cases a <;> cases b <;> simp only [jn] at h <;> first | (cases h; done) | skip
  · cases h; cases x <;> first | rfl | (cases hx; done)
  · split at h <;> cases h; cases x <;> first | rfl | (simp only [jn] at hx ⊢; split at hx <;> simp_all)
  · split at h <;> cases h; cases x <;> first | rfl | (simp only [jn] at hx ⊢; split at hx <;> simp_all)
  · split at h <;> cases h; cases x <;> first | rfl | (simp only [jn] at hx ⊢; split at hx <;> simp_all)
theorem SC.step {P gs hs : List Pc} {p : Pc} (h : SC P gs) (hP : okp (P ++ [p])) (hN : adj jnN (P ++ [p])) (hs_ : splits p hs) : SC (P ++ [p]) (gs ++ hs) := by
  have hmf : ∀ y, gs.getLast? = some y → mf y p = true := fun y hy => by
    cases hp : P.getLast? with
    | none =>
      rw [List.getLast?_eq_none_iff] at hp
      rw [h.emp.mp hp] at hy; cases hy
    | some x => rw [h.post x y hp hy]; exact adj_mid P p [] x hP.2 hp
  have hjn : ∀ x, P.getLast? = some x → jn x p = none := fun x hx => adj_mid P p [] x hN hx
  have hnf : nf (gs ++ hs) = hs.foldl nfS P := by
    have := h.nf_
    unfold nf at this ⊢
    rw [List.foldl_append, this]
  rcases hs_ with rfl | ⟨a, b, rfl, hj, pa, pb, mab⟩
  · refine ⟨okp_snoc h.ok (hP.1 p (by simp)) hmf, ?_, fun x y hx hy => ?_, by simp, fun a ha => ?_⟩
    · rw [hnf]; exact nfS_none hjn
    · simp at hx hy; subst hx hy; exact fun _ => rfl
    · simp at ha; exact ⟨a, by simp [ha]⟩
  · refine ⟨okp_app h.ok (okp_two pa pb mab) fun x y hx hy => ?_, ?_, fun x y hx hy => ?_, by simp, fun c hc => ?_⟩
    · cases hy; exact mf_jn_pre hj x (hmf x hx)
    · rw [hnf]
      show nfS (nfS P a) b = _
      rw [nfS_none fun x hx => jn_jn_pre hj x (hjn x hx), nfS_some hj]
    · simp at hx hy
      subst hx hy
      exact fun q => (jn_post hj q).symm
    · simp at hc
      subst hc
      cases a <;> cases b <;> simp only [jn] at hj <;> first | (cases hj; done) | skip
      · split at hj <;> cases hj
      · exact ⟨_, by simp; rfl⟩
      · split at hj <;> cases hj
end
section
set_option Elab.async false
set_option linter.all false
set_option maxRecDepth 100000
set_option maxHeartbeats 1000000
theorem ft__law_pull (n : Int) : FB F__law_pull [en n] (Pr.pull n) := fun b G hb hG => ⟨fun Q E ⟨h0, h1, q⟩ => by
  obtain ⟨r, l', e, r0, r1, hb'⟩ := pull_ok b G n hb h0 h1
  rw [show F__law_pull (.ref 0 :: [en n]) (.lst b :: G) = .ok (.int r) (.lst l' :: G) from e]
  exact ⟨r, q r r0 r1, rfl, l', hb', rfl⟩⟩
def mkLay (qs : List Pc) : Lay := ⟨qs, stsF 0 qs.dropLast⟩
def t_Layout (q : Sq Pc) : Pr Lay := fun Q _ => valid q.l ∧ (∀ p ∈ (nf q.l).dropLast, isOpn p = false) ∧ q.l.length ≤ 1000000 ∧ (nf q.l).length ≤ 60 ∧ Q (mkLay (nf q.l))
theorem ft_Layout (q : Sq Pc) : FM "Layout" F_Layout___init__ [en q] (t_Layout q) := fun M hM => ⟨fun Q E ⟨h1, h2, h3, h4, z⟩ => by
  have hx : isSeq (en q) q.l M := by
    obtain ⟨t, l⟩ := q
    cases t
    · exact .inl rfl
    · exact .inr (.inl rfl)
  rw [make_eq' (en q) q.l (nf q.l) M hx h1 rfl h2 h3 h4 hM]
  exact ⟨mkLay (nf q.l), z, rfl, rfl⟩⟩
end
section
set_option Elab.async false
set_option linter.all false
set_option maxRecDepth 100000
set_option maxHeartbeats 1000000
theorem ft__law_of {α : Type} [Enc α] (l : List α) : FB F__law_of [en l] (Pr.of l) := fun b G hb hG => ⟨fun Q E ⟨h0, h1, q⟩ => by
  obtain ⟨d, l', e, hd, hb'⟩ := of_ok b (l.map en) G hb (by simpa using h0) (by simpa using h1)
  obtain ⟨x, hx, rfl⟩ := List.mem_map.mp hd
  rw [show F__law_of (.ref 0 :: [en l]) (.lst b :: G) = .ok (en x) (.lst l' :: G) from e]
  exact ⟨x, q x hx, rfl, l', hb', rfl⟩⟩
abbrev Cmd := T3 Str Int Int
end
section
set_option Elab.async false
set_option linter.all false
set_option maxRecDepth 100000
set_option maxHeartbeats 1000000
def t_normal_form (l : List Pc) : Pr (List Pc) := fun Q _ => (∀ p ∈ l.dropLast, isOpn p = false) ∧ l.length < 10000000 ∧ Q (nf l)
theorem isSeq_as {x : D} {l : List Pc} {M : Sto} (h : asL x M = some (l.map en)) : isSeq x l M := by
  cases x <;> simp only [asL] at h <;> first | (cases h; done) | skip
  · cases h; exact .inl rfl
  · rename_i n
    split at h
    · rename_i l' e
      cases h
      exact .inr (.inr ⟨n, rfl, (List.getElem?_eq_some_iff.mp e).1, e⟩)
    · cases h
theorem ftl_normal_form (l : List Pc) : FPL F_normal_form l (t_normal_form l) := fun M x hM hx => ⟨fun Q E ⟨h1, h2, q⟩ => by
  rw [normal_form_eq x l M (isSeq_as hx) h1 h2 hM]
  exact ⟨nf l, q, rfl, rfl⟩⟩
def t_first_rows (p : Pc) (k : Int) : Pr Pc := match p with
  | .old a _ => Pr.ok (.old a (a + k - 1))
  | .opn a => Pr.ok (.old a (a + k - 1))
  | .top _ => Pr.ok (.top k)
  | .new a b _ => Pr.ok (.new a b k)
theorem sl_m4 (a b c d : D) : Ip.cutD [a, b, c, d] none (some (-1)) = [a, b, c] := rfl
theorem sl_m2 (a b : D) : Ip.cutD [a, b] none (some (-1)) = [a] := rfl
theorem g_addT (a b : List D) (M : Sto) (h : a.length + b.length ≤ 16777216) : gAdd (.tup a) (.tup b) M = some (.tup (a ++ b), M) := by
  unfold gAdd orG gStr gCat asL gCatT
  simp only [h, if_true]
theorem fp_of {α : Type} [Enc α] {F : DF} {ds : List D} {a : α} (h : ∀ M, F ds M = .ok (en a) M) : FP F ds (Pr.ok a) := fun M _ => by rw [h M]; exact .ok ⟨rfl, rfl⟩
theorem ft_first_rows (p : Pc) (k : Int) : FP F_first_rows [en p, en k] (t_first_rows p k) := by
  have e : ∀ M, F_first_rows [p.d, .int k] M = .ok (match p with | .old a _ => (Pc.old a (a + k - 1)).d | .opn a => (Pc.old a (a + k - 1)).d | .top _ => (Pc.top k).d | .new a b _ => (Pc.new a b k).d) M := fun M => by
    unfold F_first_rows B_first_rows
    cases p with
    | top n =>
      simp only [Pc.d]
      walk_at "evm_621bba"
      rw [sl_m2, g_addT _ _ _ (Nat.le_of_ble_eq_true rfl)]
      rfl
    | old a b =>
      simp only [Pc.d]
      walk_at "evm_621bba"
    | opn a =>
      simp only [Pc.d]
      walk_at "evm_621bba"
    | new a b n =>
      simp only [Pc.d]
      walk_at "evm_621bba"
      rw [sl_m4, g_addT _ _ _ (Nat.le_of_ble_eq_true rfl)]
      rfl
  cases p with
  | _ => exact fp_of e
def t_without_first_rows (p : Pc) (k : Int) : Pr Pc := match p with
  | .old a b => Pr.ok (.old (a + k) b)
  | .opn a => Pr.ok (.opn (a + k))
  | .top n => Pr.ok (.top (n - k))
  | .new a b n => Pr.ok (.new a b (n - k))
theorem ft_without_first_rows (p : Pc) (k : Int) : FP F_without_first_rows [en p, en k] (t_without_first_rows p k) := by
  have e : ∀ M, F_without_first_rows [p.d, .int k] M = .ok (match p with | .old a b => (Pc.old (a + k) b).d | .opn a => (Pc.opn (a + k)).d | .top n => (Pc.top (n - k)).d | .new a b n => (Pc.new a b (n - k)).d) M := fun M => by
    unfold F_without_first_rows B_without_first_rows
    cases p with
    | top n =>
      simp only [Pc.d]
      walk_at "evm_621bba"
      rw [sl_m2, g_addT _ _ _ (Nat.le_of_ble_eq_true rfl)]
      rfl
    | old a b =>
      simp only [Pc.d]
      walk_at "evm_621bba"
    | opn a =>
      simp only [Pc.d]
      walk_at "evm_621bba"
    | new a b n =>
      simp only [Pc.d]
      walk_at "evm_621bba"
      rw [sl_m4, g_addT _ _ _ (Nat.le_of_ble_eq_true rfl)]
      rfl
  cases p with
  | _ => exact fp_of e
end
section
set_option Elab.async false
set_option linter.all false
set_option maxRecDepth 100000
set_option maxHeartbeats 1000000
theorem ft_Grid (a b : Lay) : FM "Grid" F_Grid___init__ [en a, en b] (Pr.ok (⟨a, b⟩ : Gr)) := fun M hM => ⟨fun Q E q => by
  have e : F_Grid___init__ [.ref M.length, en a, en b] (M ++ [.ins "Grid" [] []]) = .ok .non (M ++ [.ins "Grid" gks [en a, en b]]) := by
    unfold F_Grid___init__ B_Grid___init__
    walk_at "evm_621bba"
    rw [ev_kSetFld2 (h := app_at _ _) (hk := by decide)]
    walk_at "evm_621bba"
    simp only [putKs, putVs]
    rw [ev_kSetFld2 (h := app_at _ _) (hk := by decide)]
    walk_at "evm_621bba"
    rfl
  have e2 : kMake "Grid" F_Grid___init__ [en a, en b] M = .ok (en (⟨a, b⟩ : Gr)) M := by
    rw [ev_kMake, e, noex_ok, bind_ok, ev_kMake2]
    unfold frzO thaw
    have hc : closedAll M.length [en a, en b] = true := by simp [closedAll, Enc.cls]
    simp only [Nat.lt_irrefl, if_false, app_at, hc, if_true, List.take_left, hM M.length]
    rfl
  rw [e2]
  exact ⟨_, q, rfl, rfl⟩⟩
end
section
set_option Elab.async false
set_option linter.all false
set_option maxRecDepth 100000
set_option maxHeartbeats 1000000
def t__law_near  : Pr (T3 Str Int Int) :=
  ((Pr.pull (5 : Int)).bind fun (at_3 : Int) =>
  (((Pr.pull (2 : Int)).bind fun (a8 : Int) => (Pr.ok (decide (a8 = (0 : Int))))).bind fun c => if c then ((Pr.of ([(1 : Int), (1 : Int), (2 : Int)] : (List Int))).bind fun (a16 : Int) => (Pr.ok ((T3.mk ("insert" : Str) at_3 a16) : (T3 Str Int Int)))) else
  (((Pr.of ([(0 : Int), (0 : Int), (1 : Int)] : (List Int))).bind fun (b27 : Int) => (Pr.ok (at_3 + b27))).bind fun (a30 : Int) => (Pr.ok ((T3.mk ("delete" : Str) at_3 a30) : (T3 Str Int Int))))))
theorem ft__law_near  : FB F__law_near [] (t__law_near ) := run_b (env0 := [some (.ref 0), none]) rfl rfl (fun G M hM => by
  unfold B__law_near t__law_near
  exact (seq_setx (env1 := fun (at_3 : Int) => [some (.ref 0), some (en (α := Int) at_3)]) (fun _ => rfl) (fun M1 h2 => (arg_p (pv (d := .ref 0) rfl) h2 (arg_p pv_c h2 (arg_nil (callB (ft__law_pull (5 : Int)) h2))))) hM (fun (at_3 : Int) M4 h5 =>
  (seq_ifx (b_x (bin_ep (γ := Bool) (fun M6 h7 => (arg_p (pv (d := .ref 0) rfl) h7 (arg_p pv_c h7 (arg_nil (callB (ft__law_pull (2 : Int)) h7))))) pv_c (fun a8 => (gs_ok (c := (decide (a8 = (0 : Int)))) fun M _ => geqI _ _ M)))) h5 (fun M10 h11 => (seq_retx' (fun M14 h15 => (arg_p pv_c h15 (arg_p (pv (d := (en (α := Int) at_3)) rfl) h15 (arg_e (fun M12 h13 => (arg_p (pv (d := .ref 0) rfl) h13 (arg_p (lst_v (av_cons (x := (en (α := Int) (1 : Int))) pv_c (av_cons (x := (en (α := Int) (1 : Int))) pv_c (av_cons (x := (en (α := Int) (2 : Int))) pv_c av_nil)))) h13 (arg_nil (callB (ft__law_of ([(1 : Int), (1 : Int), (2 : Int)] : (List Int))) h13))))) h15 (fun (a16 : Int) M17 h18 => (arg_nil (seq_end (mk := D.tup) (a := ((T3.mk ("insert" : Str) at_3 a16) : (T3 Str Int Int))) rfl h18))))))) h11 (fun r19 M20 h21 => ⟨rfl, h21⟩)))
  (fun M22 h23 => (seq_skip (last_of (seq_retx' (fun M28 h29 => (arg_p pv_c h29 (arg_p (pv (d := (en (α := Int) at_3)) rfl) h29 (arg_e (bin_pe (γ := Int) (pv (d := (en (α := Int) at_3)) rfl) (fun M24 h25 => (arg_p (pv (d := .ref 0) rfl) h25 (arg_p (lst_v (av_cons (x := (en (α := Int) (0 : Int))) pv_c (av_cons (x := (en (α := Int) (0 : Int))) pv_c (av_cons (x := (en (α := Int) (1 : Int))) pv_c av_nil)))) h25 (arg_nil (callB (ft__law_of ([(0 : Int), (0 : Int), (1 : Int)] : (List Int))) h25))))) (fun b27 => (gs_ok (c := (at_3 + b27)) fun M _ => rfl))) h29 (fun (a30 : Int) M31 h32 => (arg_nil (seq_end (mk := D.tup) (a := ((T3.mk ("delete" : Str) at_3 a30) : (T3 Str Int Int))) rfl h32))))))) h23 (fun r33 M34 h35 => ⟨rfl, h35⟩)))))))))
def t__law_grid_script (p_most : Int) : Pr (List (T3 Str Int Int)) :=
  ((((Pr.pull (p_most + (1 : Int))).bind fun (n6 : Int) => Pr.need (sm n6) (Pr.ok (rngI 0 (Int.toNat n6)))).bind fun (l30 : List Int) => Pr.forM l30 ([] : (List (T3 Str Int Int))) (fun (x8 : Int) (s7 : (List (T3 Str Int Int))) =>
  ((t__law_near).bind fun (u15 : (T3 Str Int Int)) =>
  ((((Pr.of ([("_rows" : Str), ("_columns" : Str)] : (List Str))).bind fun (b23 : Str) => (op2 (α := Str) (β := Str) (γ := Str) gAdd u15.p1 b23)).bind fun (a26 : Str) => (Pr.ok ((T3.mk a26 u15.p2 u15.p3) : (T3 Str Int Int)))).bind fun (a29 : (T3 Str Int Int)) => Pr.need (s7.length < 16777216)
  (Pr.ok (s7 ++ [a29])))))).bind fun (s7 : (List (T3 Str Int Int))) =>
  (Pr.ok s7))
theorem ft__law_grid_script (p_most : Int) : FB F__law_grid_script [(en (α := Int) p_most)] (t__law_grid_script p_most) := frz_b (env0 := [some (.ref 0), some (en (α := Int) p_most), none, none, none, none, none]) rfl rfl (fun G M hG hM => by
  unfold B__law_grid_script t__law_grid_script
  exact (seq_newC (l := ([] : (List (T3 Str Int Int)))) (env1 := fun n1 => [some (.ref 0), some (en (α := Int) p_most), some (.ref n1), none, none, none, none]) (fun _ => rfl) av_nil hM (by exact Nat.le_of_ble_eq_true rfl) (fun n1 M2 h3 => (seq_nx (k := fun (s7 : (List (T3 Str Int Int))) => (Pr.ok s7)) (for_nx (enc := D.int) (s := ([] : (List (T3 Str Int Int)))) (body := (fun (x8 : Int) (s7 : (List (T3 Str Int Int))) =>
  ((t__law_near).bind fun (u15 : (T3 Str Int Int)) =>
  ((((Pr.of ([("_rows" : Str), ("_columns" : Str)] : (List Str))).bind fun (b23 : Str) => (op2 (α := Str) (β := Str) (γ := Str) gAdd u15.p1 b23)).bind fun (a26 : Str) => (Pr.ok ((T3.mk a26 u15.p2 u15.p3) : (T3 Str Int Int)))).bind fun (a29 : (T3 Str Int Int)) => Pr.need (s7.length < 16777216)
  (Pr.ok (s7 ++ [a29])))))) (I := (fun (s7 : (List (T3 Str Int Int))) (env : En) (M : Sto) => ∃ o9 o10 o11 o12 : Option D, env = [some (.ref 0), some (en (α := Int) p_most), some (.ref n1), o9, o12, o10, o11] ∧ (St (G.length + 1) (BagP G) [(n1, Cell.lst (List.map (en (α := (T3 Str Int Int))) s7))]) M)) (rng1_x (fun M4 h5 => (arg_p (pv (d := .ref 0) rfl) h5 (arg_p (bin_v (z := (en (α := Int) (p_most + (1 : Int)))) (pv (d := (en (α := Int) p_most)) rfl) pv_c (fun M _ => rfl)) h5 (arg_nil (callB (ft__law_pull (p_most + (1 : Int))) h5)))))) h3 (fun M h => ⟨_, _, _, _, rfl, h⟩)
  (fun x8 s7 env M ⟨o9, o10, o11, o12, he, hM⟩ => by subst he; exact ⟨[some (.ref 0), some (en (α := Int) p_most), some (.ref n1), some (en (α := Int) x8), o12, o10, o11], rfl, (seq_asgx (env1 := fun (u15 : (T3 Str Int Int)) => [some (.ref 0), some (en (α := Int) p_most), some (.ref n1), some (en (α := Int) x8), some (en (α := Str) u15.p1), some (en (α := Int) u15.p2), some (en (α := Int) u15.p3)]) (fun M13 h14 => (arg_p (pv (d := .ref 0) rfl) h14 (arg_nil (callB (ft__law_near) h14)))) (fun _ => rfl) hM (fun (u15 : (T3 Str Int Int)) M16 h17 =>
  (last_of (seq_appx (l := s7) 0 rfl rfl (fun M24 h25 => (arg_e (bin_pe (γ := Str) (pv (d := (en (α := Str) u15.p1)) rfl) (fun M20 h21 => (arg_p (pv (d := .ref 0) rfl) h21 (arg_p (lst_v (av_cons (x := (en (α := Str) ("_rows" : Str))) pv_c (av_cons (x := (en (α := Str) ("_columns" : Str))) pv_c av_nil))) h21 (arg_nil (callB (ft__law_of ([("_rows" : Str), ("_columns" : Str)] : (List Str))) h21))))) (fun b23 => (gs_op2 (α := Str) (β := Str) (γ := Str) (a := u15.p1) (b := b23)))) h25 (fun (a26 : Str) M27 h28 => (arg_p (pv (d := (en (α := Int) u15.p2)) rfl) h28 (arg_p (pv (d := (en (α := Int) u15.p3)) rfl) h28 (arg_nil (seq_end (mk := D.tup) (a := ((T3.mk a26 u15.p2 u15.p3) : (T3 Str Int Int))) rfl h28))))))) h17 (fun a29 M18 h19 =>
  (skip_end ⟨_, Or.inl rfl, _, _, _, _, rfl, h19⟩))))))⟩))
  (fun s7 env M ⟨o9, o10, o11, o12, he, h31⟩ => by subst he; exact (last_of (seq_ret (x := .ref n1) (pv rfl) h31 ⟨n1, _, rfl, h31, 0, rfl⟩)))))))
def t_without_axis (p_item : (T3 Str Int Int)) : Pr (T3 Str Int Int) :=
  (((Pr.need (partC p_item.p1 ("_" : Str)) (Pr.ok (⟨(Txt.partition p_item.p1 ("_" : Str)).1, (Txt.partition p_item.p1 ("_" : Str)).2.1, (Txt.partition p_item.p1 ("_" : Str)).2.2⟩ : T3 Str Str Str))).bind fun (a3 : (T3 Str Str Str)) => (Pr.ok a3.p1)).bind fun (x5 : Str) => Pr.ok (⟨x5, p_item.p2, p_item.p3⟩ : (T3 Str Int Int)))
theorem ft_without_axis (p_item : (T3 Str Int Int)) : FP F_without_axis [(en (α := (T3 Str Int Int)) p_item)] (t_without_axis p_item) := run_p (env0 := [some (en (α := (T3 Str Int Int)) p_item)]) rfl rfl (fun M0 M hM => by
  unfold B_without_axis t_without_axis
  exact (last_of (seq_retx' (rep1_x (c := p_item) (bin_ep (γ := Str) (part_x (a := p_item.p1) (b := ("_" : Str)) (bin_v (z := (en (α := Str) p_item.p1)) (pv (d := (en (α := (T3 Str Int Int)) p_item)) rfl) pv_c (fun M _ => rfl)) pv_c) pv_c (fun a3 => (gs_ok (c := a3.p1) fun M _ => rfl))) (pv (d := (en (α := (T3 Str Int Int)) p_item)) rfl)) hM (fun r6 M7 h8 => ⟨rfl, h8⟩))))
def t_is_number (p_value : Int) : Pr Bool :=
  (Pr.ok (true && (!false)))
theorem ft_is_number (p_value : Int) : FP F_is_number [(en (α := Int) p_value)] (t_is_number p_value) := run_p (env0 := [some (en (α := Int) p_value)]) rfl rfl (fun M0 M hM => by
  unfold B_is_number t_is_number
  exact (last_of (seq_ret (x := (en (α := Bool) (true && (!false)))) (andV_v (un_v (z := .bl true) (pv (d := (en (α := Int) p_value)) rfl) (fun M _ => (g_isi_i M _ _).trans (congrArg (Option.map _) isA_ii))) (notV_v (un_v (z := .bl false) (pv (d := (en (α := Int) p_value)) rfl) (fun M _ => (g_isi_i M _ _).trans (congrArg (Option.map _) isA_ib))))) hM ⟨rfl, hM⟩)))
def t_are_numbers (p_values : (Int × Int)) (p_many : Int) : Pr Bool :=
  ((Pr.ok (decide ((2 : Int) = p_many))).bind fun a => if a then (((Pr.ok [p_values.1, p_values.2]).bind fun (l8 : List Int) => Pr.need (l8.length ≤ 16777216) (Pr.lcM l8 (fun (x5 : Int) => (Pr.ok true)) (fun (x5 : Int) => (t_is_number x5)))).bind fun (a9 : (List Bool)) => (Pr.ok (a9.all id))) else Pr.ok false)
theorem ft_are_numbers (p_values : (Int × Int)) (p_many : Int) : FP F_are_numbers [(en (α := (Int × Int)) p_values), (en (α := Int) p_many)] (t_are_numbers p_values p_many) := run_p (env0 := [some (en (α := (Int × Int)) p_values), some (en (α := Int) p_many), none]) rfl rfl (fun M0 M hM => by
  unfold B_are_numbers t_are_numbers
  exact (last_of (seq_retx' (andV_x (PV.px (a := (decide ((2 : Int) = p_many))) (bin_v (z := (en (α := Bool) (decide ((2 : Int) = p_many)))) (callB_v (z := .int 2) (av_cons (pv (d := (en (α := (Int × Int)) p_values)) rfl) av_nil) (fun _ _ => rfl)) (pv (d := (en (α := Int) p_many)) rfl) (fun M _ => geqI _ _ M))) (fun M3 h4 => (arg_e (lc_x (enc := (en (α := Int))) (c := fun (x5 : Int) => (Pr.ok true)) (g := fun (x5 : Int) => (t_is_number x5)) (iter_t (l := [p_values.1, p_values.2]) (pv (d := (en (α := (Int × Int)) p_values)) rfl)) (fun x5 => ⟨[some (en (α := (Int × Int)) p_values), some (en (α := Int) p_many), some (en (α := Int) x5)], rfl, (TV.tx yes_tv), (fun M6 h7 => (arg_p (pv (d := (en (α := Int) x5)) rfl) h7 (arg_nil (callP (ft_is_number x5) h7))))⟩)) h4 (fun (a9 : (List Bool)) M10 h11 => (arg_nil (callB_end (c := a9.all id) h11 (fun M _ => gAll_v a9 M))))))) hM (fun r12 M13 h14 => ⟨rfl, h14⟩))))
def t_is_command (p_item : (T3 Str Int Int)) : Pr Bool :=
  ((if (!true) then Pr.ok true else ((t_are_numbers ((p_item.p2, p_item.p3) : (Int × Int)) (2 : Int)).bind fun b => Pr.ok (!b))).bind fun c => if c then (Pr.ok false) else
  (if (decide (p_item.p1 = ("insert" : Str))) then (Pr.ok ((decide (p_item.p2 ≥ (0 : Int))) && (decide (p_item.p3 ≥ (1 : Int))))) else
  (Pr.ok ((decide (p_item.p1 = ("delete" : Str))) && (decide ((0 : Int) ≤ p_item.p2) && decide (p_item.p2 ≤ p_item.p3))))))
theorem ft_is_command (p_item : (T3 Str Int Int)) : FP F_is_command [(en (α := (T3 Str Int Int)) p_item)] (t_is_command p_item) := run_p (env0 := [some (en (α := (T3 Str Int Int)) p_item), none, none, none]) rfl rfl (fun M0 M hM => by
  unfold B_is_command t_is_command
  exact (seq_ifx (or_tpx (not_tv (tru_v (un_v (z := .bl true) (pv (d := (en (α := (T3 Str Int Int)) p_item)) rfl) (fun M _ => (g_isi_t M _ _).trans (congrArg (Option.map _) isA_tt))) (fun _ _ => rfl))) (not_tx (tru_b (fun M3 h4 => (arg_p (sl_v (z := (en (α := (Int × Int)) ((p_item.p2, p_item.p3) : (Int × Int)))) (pv (d := (en (α := (T3 Str Int Int)) p_item)) rfl) (ov_s (i := (1 : Int)) pv_c) ov_n (fun _ _ => rfl)) h4 (arg_p pv_c h4 (arg_nil (callP (ft_are_numbers ((p_item.p2, p_item.p3) : (Int × Int)) (2 : Int)) h4)))))))) hM (fun M5 h6 => (seq_ret (x := (en (α := Bool) false)) pv_c h6 ⟨rfl, h6⟩))
  (fun M7 h8 => (seq_skip (seq_asg (env1 := [some (en (α := (T3 Str Int Int)) p_item), some (en (α := Str) p_item.p1), some (en (α := Int) p_item.p2), some (en (α := Int) p_item.p3)]) (pv (d := (en (α := (T3 Str Int Int)) p_item)) rfl) rfl h8 (seq_if (b_v (bin_v (z := (en (α := Bool) (decide (p_item.p1 = ("insert" : Str))))) (pv (d := (en (α := Str) p_item.p1)) rfl) pv_c (fun M _ => w_eq _ _ M))) h8 (seq_ret (x := (en (α := Bool) ((decide (p_item.p2 ≥ (0 : Int))) && (decide (p_item.p3 ≥ (1 : Int)))))) (andV_v (bin_v (z := (en (α := Bool) (decide (p_item.p2 ≥ (0 : Int))))) (pv (d := (en (α := Int) p_item.p2)) rfl) pv_c (fun M _ => rfl)) (bin_v (z := (en (α := Bool) (decide (p_item.p3 ≥ (1 : Int))))) (pv (d := (en (α := Int) p_item.p3)) rfl) pv_c (fun M _ => rfl))) h8 ⟨rfl, h8⟩)
  (seq_skip (last_of (seq_ret (x := (en (α := Bool) ((decide (p_item.p1 = ("delete" : Str))) && (decide ((0 : Int) ≤ p_item.p2) && decide (p_item.p2 ≤ p_item.p3))))) (andV_v (bin_v (z := (en (α := Bool) (decide (p_item.p1 = ("delete" : Str))))) (pv (d := (en (α := Str) p_item.p1)) rfl) pv_c (fun M _ => w_eq _ _ M)) (chain_v (b := decide ((0 : Int) ≤ p_item.p2)) (b' := decide (p_item.p2 ≤ p_item.p3)) pv_c (pv (d := (en (α := Int) p_item.p2)) rfl) (pv (d := (en (α := Int) p_item.p3)) rfl) (fun _ _ => rfl) (fun _ _ => rfl))) h8 ⟨rfl, h8⟩)))))))))
def t_is_grid_command (p_item : (T3 Str Int Int)) : Pr Bool :=
  ((if (!true) then Pr.ok true else (if (decide ((3 : Int) = (0 : Int))) then Pr.ok true else (Pr.need (PyData.strOk p_item.p1 = true) (Pr.ok (if true then !anyD wordsP (.str p_item.p1) else anyD wordsP (.str p_item.p1)))))).bind fun c => if c then (Pr.ok false) else
  ((t_without_axis p_item).bind fun (a13 : (T3 Str Int Int)) => (t_is_command a13)))
theorem ft_is_grid_command (p_item : (T3 Str Int Int)) : FP F_is_grid_command [(en (α := (T3 Str Int Int)) p_item)] (t_is_grid_command p_item) := run_p (env0 := [some (en (α := (T3 Str Int Int)) p_item)]) rfl rfl (fun M0 M hM => by
  unfold B_is_grid_command t_is_grid_command
  exact (seq_ifx (or_tpx (not_tv (tru_v (un_v (z := .bl true) (pv (d := (en (α := (T3 Str Int Int)) p_item)) rfl) (fun M _ => (g_isi_t M _ _).trans (congrArg (Option.map _) isA_tt))) (fun _ _ => rfl))) (or_tpx (b_v (bin_v (z := (en (α := Bool) (decide ((3 : Int) = (0 : Int))))) (callB_v (z := .int 3) (av_cons (pv (d := (en (α := (T3 Str Int Int)) p_item)) rfl) av_nil) (fun _ _ => rfl)) pv_c (fun M _ => geqI _ _ M))) (b_x (inW_x (s := p_item.p1) (n := true) (bin_v (z := (en (α := Str) p_item.p1)) (pv (d := (en (α := (T3 Str Int Int)) p_item)) rfl) pv_c (fun M _ => rfl)))))) hM (fun M5 h6 => (seq_ret (x := (en (α := Bool) false)) pv_c h6 ⟨rfl, h6⟩))
  (fun M7 h8 => (seq_skip (last_of (seq_retx' (fun M9 h10 => (arg_e (fun M11 h12 => (arg_p (pv (d := (en (α := (T3 Str Int Int)) p_item)) rfl) h12 (arg_nil (callP (ft_without_axis p_item) h12)))) h10 (fun (a13 : (T3 Str Int Int)) M14 h15 => (arg_nil (callP (ft_is_command a13) h15))))) h8 (fun r16 M17 h18 => ⟨rfl, h18⟩)))))))
def t_check_grid_script (p_script : (List (T3 Str Int Int))) : Pr Unit :=
  ((((lim p_script).bind fun l => Pr.ok (enumI 0 l)).bind fun (l11 : List (Int × (T3 Str Int Int))) => Pr.forM l11 () (fun (x2 : (Int × (T3 Str Int Int))) (s1 : Unit) =>
  (((t_is_grid_command x2.2).bind fun b => Pr.ok (!b)).bind fun c => if c then Pr.bad else
  (Pr.ok ())))).bind fun (s1 : Unit) =>
  (Pr.ok ()))
theorem ft_check_grid_script (p_script : (List (T3 Str Int Int))) : FP F_check_grid_script [(en (α := (List (T3 Str Int Int))) p_script)] (t_check_grid_script p_script) := run_pN (env0 := [some (en (α := (List (T3 Str Int Int))) p_script), none, none]) rfl rfl (fun M0 M hM => by
  unfold B_check_grid_script t_check_grid_script
  exact (last_of (seq_nx (k := fun (s1 : Unit) => (Pr.ok ())) (forS_nx (enc := (en (α := (Int × (T3 Str Int Int))))) (s := ()) (body := (fun (x2 : (Int × (T3 Str Int Int))) (s1 : Unit) =>
  (((t_is_grid_command x2.2).bind fun b => Pr.ok (!b)).bind fun c => if c then Pr.bad else
  (Pr.ok ())))) (I := (fun (s1 : Unit) (env : En) (M : Sto) => ∃ o3 o4 : Option D, env = [some (en (α := (List (T3 Str Int Int))) p_script), o3, o4] ∧ (S0 M0) M)) (j_enum_v (l := p_script) (pv (d := (en (α := (List (T3 Str Int Int))) p_script)) rfl)) hM (fun M h => ⟨_, _, rfl, h⟩)
  (fun x2 s1 env M ⟨o3, o4, he, hM⟩ => by subst he; exact ⟨[some (en (α := (List (T3 Str Int Int))) p_script), some (en (α := Int) x2.1), some (en (α := (T3 Str Int Int)) x2.2)], rfl, (last_of (seq_ifx (not_tx (tru_b (fun M5 h6 => (arg_p (pv (d := (en (α := (T3 Str Int Int)) x2.2)) rfl) h6 (arg_nil (callP (ft_is_grid_command x2.2) h6)))))) hM (fun M7 h8 => seq_never)
  (fun M9 h10 => (seq_skip (skip_end ⟨_, Or.inl rfl, _, _, rfl, h10⟩)))))⟩))
  (fun s1 env M ⟨o3, o4, he, h12⟩ => by subst he; exact (skip_end ⟨Or.inl ⟨_, rfl⟩, h12⟩)))))
def t_axis_script (p_script : (List (T3 Str Int Int))) (p_axis : Str) : Pr (List (T3 Str Int Int)) :=
  ((Pr.ok p_script).bind fun (l6 : List (T3 Str Int Int)) => Pr.need (l6.length ≤ 16777216) (Pr.lcM l6 (fun (x1 : (T3 Str Int Int)) => (Pr.ok (Txt.endswith x1.p1 p_axis))) (fun (x1 : (T3 Str Int Int)) => (t_without_axis x1))))
theorem ft_axis_script (p_script : (List (T3 Str Int Int))) (p_axis : Str) : FP F_axis_script [(en (α := (List (T3 Str Int Int))) p_script), (en (α := Str) p_axis)] (t_axis_script p_script p_axis) := run_p (env0 := [some (en (α := (List (T3 Str Int Int))) p_script), some (en (α := Str) p_axis), none]) rfl rfl (fun M0 M hM => by
  unfold B_axis_script t_axis_script
  exact (last_of (seq_retx' (lc_x (enc := (en (α := (T3 Str Int Int)))) (c := fun (x1 : (T3 Str Int Int)) => (Pr.ok (Txt.endswith x1.p1 p_axis))) (g := fun (x1 : (T3 Str Int Int)) => (t_without_axis x1)) (iter_v (l := p_script) (pv (d := (en (α := (List (T3 Str Int Int))) p_script)) rfl)) (fun x1 => ⟨[some (en (α := (List (T3 Str Int Int))) p_script), some (en (α := Str) p_axis), some (en (α := (T3 Str Int Int)) x1)], rfl, (TV.tx (tru_v (ends_v (a := x1.p1) (b := p_axis) (bin_v (z := (en (α := Str) x1.p1)) (pv (d := (en (α := (T3 Str Int Int)) x1)) rfl) pv_c (fun M _ => rfl)) (pv (d := (en (α := Str) p_axis)) rfl)) (fun _ _ => rfl))), (fun M4 h5 => (arg_p (pv (d := (en (α := (T3 Str Int Int)) x1)) rfl) h5 (arg_nil (callP (ft_without_axis x1) h5))))⟩)) hM (fun r7 M8 h9 => ⟨rfl, h9⟩))))
def t_check_script (p_script : (List (T3 Str Int Int))) : Pr Unit :=
  ((((lim p_script).bind fun l => Pr.ok (enumI 0 l)).bind fun (l11 : List (Int × (T3 Str Int Int))) => Pr.forM l11 () (fun (x2 : (Int × (T3 Str Int Int))) (s1 : Unit) =>
  (((t_is_command x2.2).bind fun b => Pr.ok (!b)).bind fun c => if c then Pr.bad else
  (Pr.ok ())))).bind fun (s1 : Unit) =>
  (Pr.ok ()))
theorem ft_check_script (p_script : (List (T3 Str Int Int))) : FP F_check_script [(en (α := (List (T3 Str Int Int))) p_script)] (t_check_script p_script) := run_pN (env0 := [some (en (α := (List (T3 Str Int Int))) p_script), none, none]) rfl rfl (fun M0 M hM => by
  unfold B_check_script t_check_script
  exact (last_of (seq_nx (k := fun (s1 : Unit) => (Pr.ok ())) (forS_nx (enc := (en (α := (Int × (T3 Str Int Int))))) (s := ()) (body := (fun (x2 : (Int × (T3 Str Int Int))) (s1 : Unit) =>
  (((t_is_command x2.2).bind fun b => Pr.ok (!b)).bind fun c => if c then Pr.bad else
  (Pr.ok ())))) (I := (fun (s1 : Unit) (env : En) (M : Sto) => ∃ o3 o4 : Option D, env = [some (en (α := (List (T3 Str Int Int))) p_script), o3, o4] ∧ (S0 M0) M)) (j_enum_v (l := p_script) (pv (d := (en (α := (List (T3 Str Int Int))) p_script)) rfl)) hM (fun M h => ⟨_, _, rfl, h⟩)
  (fun x2 s1 env M ⟨o3, o4, he, hM⟩ => by subst he; exact ⟨[some (en (α := (List (T3 Str Int Int))) p_script), some (en (α := Int) x2.1), some (en (α := (T3 Str Int Int)) x2.2)], rfl, (last_of (seq_ifx (not_tx (tru_b (fun M5 h6 => (arg_p (pv (d := (en (α := (T3 Str Int Int)) x2.2)) rfl) h6 (arg_nil (callP (ft_is_command x2.2) h6)))))) hM (fun M7 h8 => seq_never)
  (fun M9 h10 => (seq_skip (skip_end ⟨_, Or.inl rfl, _, _, rfl, h10⟩)))))⟩))
  (fun s1 env M ⟨o3, o4, he, h12⟩ => by subst he; exact (skip_end ⟨Or.inl ⟨_, rfl⟩, h12⟩)))))
def t_Layout_pieces (p_self : Lay) : Pr (List Pc) :=
  (Pr.ok p_self.parts)
theorem ft_Layout_pieces (p_self : Lay) : FP F_Layout_pieces [(en (α := Lay) p_self)] (t_Layout_pieces p_self) := run_p (env0 := [some (en (α := Lay) p_self)]) rfl rfl (fun M0 M hM => by
  unfold B_Layout_pieces t_Layout_pieces
  exact (last_of (seq_ret (x := (en (α := (List Pc)) p_self.parts)) (callB_v (z := (en (α := (List Pc)) p_self.parts)) (av_cons (x := (en (α := (List Pc)) p_self.parts)) (lay_parts (pv (d := (en (α := Lay) p_self)) rfl)) av_nil) (fun _ _ => rfl)) hM ⟨rfl, hM⟩)))
def t_old_rows_before (p_number : Int) : Pr (List Pc) :=
  (Pr.ok (if (decide (p_number > (0 : Int))) then ([(Pc.old (0 : Int) (p_number - (1 : Int)))] : (List Pc)) else ([] : (List Pc))))
theorem ft_old_rows_before (p_number : Int) : FP F_old_rows_before [(en (α := Int) p_number)] (t_old_rows_before p_number) := run_p (env0 := [some (en (α := Int) p_number)]) rfl rfl (fun M0 M hM => by
  unfold B_old_rows_before t_old_rows_before
  exact (last_of (seq_ret (x := (en (α := (List Pc)) (if (decide (p_number > (0 : Int))) then ([(Pc.old (0 : Int) (p_number - (1 : Int)))] : (List Pc)) else ([] : (List Pc))))) (ifE_V (α := (List Pc)) (a := ([(Pc.old (0 : Int) (p_number - (1 : Int)))] : (List Pc))) (b := ([] : (List Pc))) (b_v (bin_v (z := (en (α := Bool) (decide (p_number > (0 : Int))))) (pv (d := (en (α := Int) p_number)) rfl) pv_c (fun M _ => rfl))) (lst_v (av_cons (x := (en (α := Pc) (Pc.old (0 : Int) (p_number - (1 : Int))))) (tup_v (av_cons pv_c (av_cons pv_c (av_cons (bin_v (z := (en (α := Int) (p_number - (1 : Int)))) (pv (d := (en (α := Int) p_number)) rfl) pv_c (fun M _ => rfl)) av_nil)))) av_nil)) (lst_v av_nil)) hM ⟨rfl, hM⟩)))
def t_insert_pieces (p_at : Int) (p_count : Int) : Pr (List Pc) :=
  (if (decide (p_at = (0 : Int))) then (Pr.ok ([(Pc.top p_count), (Pc.opn (0 : Int))] : (List Pc))) else
  ((t_old_rows_before p_at).bind fun (a3 : (List Pc)) => (cat a3 ([(Pc.new (p_at - (1 : Int)) p_at p_count), (Pc.opn p_at)] : (List Pc)))))
theorem ft_insert_pieces (p_at : Int) (p_count : Int) : FP F_insert_pieces [(en (α := Int) p_at), (en (α := Int) p_count)] (t_insert_pieces p_at p_count) := run_p (env0 := [some (en (α := Int) p_at), some (en (α := Int) p_count)]) rfl rfl (fun M0 M hM => by
  unfold B_insert_pieces t_insert_pieces
  exact (seq_if (b_v (bin_v (z := (en (α := Bool) (decide (p_at = (0 : Int))))) (pv (d := (en (α := Int) p_at)) rfl) pv_c (fun M _ => geqI _ _ M))) hM (seq_ret (x := (en (α := (List Pc)) ([(Pc.top p_count), (Pc.opn (0 : Int))] : (List Pc)))) (lst_v (av_cons (x := (en (α := Pc) (Pc.top p_count))) (tup_v (av_cons pv_c (av_cons (pv (d := (en (α := Int) p_count)) rfl) av_nil))) (av_cons (x := (en (α := Pc) (Pc.opn (0 : Int)))) (tup_v (av_cons pv_c (av_cons pv_c (av_cons pv_c av_nil)))) av_nil))) hM ⟨rfl, hM⟩)
  (seq_skip (last_of (seq_retx' (bin_ep (γ := (List Pc)) (fun M1 h2 => (arg_p (pv (d := (en (α := Int) p_at)) rfl) h2 (arg_nil (callP (ft_old_rows_before p_at) h2)))) (lst_v (av_cons (x := (en (α := Pc) (Pc.new (p_at - (1 : Int)) p_at p_count))) (tup_v (av_cons pv_c (av_cons (bin_v (z := (en (α := Int) (p_at - (1 : Int)))) (pv (d := (en (α := Int) p_at)) rfl) pv_c (fun M _ => rfl)) (av_cons (pv (d := (en (α := Int) p_at)) rfl) (av_cons (pv (d := (en (α := Int) p_count)) rfl) av_nil))))) (av_cons (x := (en (α := Pc) (Pc.opn p_at))) (tup_v (av_cons pv_c (av_cons (pv (d := (en (α := Int) p_at)) rfl) (av_cons pv_c av_nil)))) av_nil))) (fun a3 => (gs_cat (a := a3) (b := ([(Pc.new (p_at - (1 : Int)) p_at p_count), (Pc.opn p_at)] : (List Pc)))))) hM (fun r5 M6 h7 => ⟨rfl, h7⟩))))))
def t_delete_pieces (p_first : Int) (p_last : Int) : Pr (List Pc) :=
  ((t_old_rows_before p_first).bind fun (a3 : (List Pc)) => (cat a3 ([(Pc.opn (p_last + (1 : Int)))] : (List Pc))))
theorem ft_delete_pieces (p_first : Int) (p_last : Int) : FP F_delete_pieces [(en (α := Int) p_first), (en (α := Int) p_last)] (t_delete_pieces p_first p_last) := run_p (env0 := [some (en (α := Int) p_first), some (en (α := Int) p_last)]) rfl rfl (fun M0 M hM => by
  unfold B_delete_pieces t_delete_pieces
  exact (last_of (seq_retx' (bin_ep (γ := (List Pc)) (fun M1 h2 => (arg_p (pv (d := (en (α := Int) p_first)) rfl) h2 (arg_nil (callP (ft_old_rows_before p_first) h2)))) (lst_v (av_cons (x := (en (α := Pc) (Pc.opn (p_last + (1 : Int))))) (tup_v (av_cons pv_c (av_cons (bin_v (z := (en (α := Int) (p_last + (1 : Int)))) (pv (d := (en (α := Int) p_last)) rfl) pv_c (fun M _ => rfl)) (av_cons pv_c av_nil)))) av_nil)) (fun a3 => (gs_cat (a := a3) (b := ([(Pc.opn (p_last + (1 : Int)))] : (List Pc)))))) hM (fun r5 M6 h7 => ⟨rfl, h7⟩))))
def t_command_pieces (p_command : (T3 Str Int Int)) : Pr (List Pc) :=
  (if (decide (p_command.p1 = ("insert" : Str))) then (t_insert_pieces p_command.p2 p_command.p3) else (t_delete_pieces p_command.p2 p_command.p3))
theorem ft_command_pieces (p_command : (T3 Str Int Int)) : FP F_command_pieces [(en (α := (T3 Str Int Int)) p_command)] (t_command_pieces p_command) := run_p (env0 := [some (en (α := (T3 Str Int Int)) p_command), none, none, none]) rfl rfl (fun M0 M hM => by
  unfold B_command_pieces t_command_pieces
  exact (seq_asg (env1 := [some (en (α := (T3 Str Int Int)) p_command), some (en (α := Str) p_command.p1), some (en (α := Int) p_command.p2), some (en (α := Int) p_command.p3)]) (pv (d := (en (α := (T3 Str Int Int)) p_command)) rfl) rfl hM (last_of (seq_retx' (ifE_t (α := (List Pc)) (b_v (bin_v (z := (en (α := Bool) (decide (p_command.p1 = ("insert" : Str))))) (pv (d := (en (α := Str) p_command.p1)) rfl) pv_c (fun M _ => w_eq _ _ M))) (fun M1 h2 => (arg_p (pv (d := (en (α := Int) p_command.p2)) rfl) h2 (arg_p (pv (d := (en (α := Int) p_command.p3)) rfl) h2 (arg_nil (callP (ft_insert_pieces p_command.p2 p_command.p3) h2))))) (fun M3 h4 => (arg_p (pv (d := (en (α := Int) p_command.p2)) rfl) h4 (arg_p (pv (d := (en (α := Int) p_command.p3)) rfl) h4 (arg_nil (callP (ft_delete_pieces p_command.p2 p_command.p3) h4)))))) hM (fun r5 M6 h7 => ⟨rfl, h7⟩)))))
def t_row_count (p_piece : Pc) : Pr Int :=
  (if p_piece.isOld then (((p_piece.f2.bind fun (a1 : (Option Int)) => cast (α := (Option Int)) (β := Int) a1).bind fun (a2 : Int) => (Pr.ok (a2 - p_piece.f1))).bind fun (a4 : Int) => (Pr.ok (a4 + (1 : Int)))) else
  (cast (α := (Option Int)) (β := Int) p_piece.fl))
theorem ft_row_count (p_piece : Pc) : FP F_row_count [(en (α := Pc) p_piece)] (t_row_count p_piece) := run_p (env0 := [some (en (α := Pc) p_piece)]) rfl rfl (fun M0 M hM => by
  unfold B_row_count t_row_count
  exact (seq_if (b_v (word_v (p := p_piece) (pv (d := (en (α := Pc) p_piece)) rfl)).2.1) hM (seq_retx' (bin_ep (γ := Int) (bin_ep (γ := Int) (PX.cast (α := (Option Int)) (β := Int) (f2_x (p := p_piece) (pv (d := (en (α := Pc) p_piece)) rfl))) (f1_v (p := p_piece) (pv (d := (en (α := Pc) p_piece)) rfl)) (fun a2 => (gs_ok (c := (a2 - p_piece.f1)) fun M _ => rfl))) pv_c (fun a4 => (gs_ok (c := (a4 + (1 : Int))) fun M _ => rfl))) hM (fun r6 M7 h8 => ⟨rfl, h8⟩))
  (seq_skip (last_of (seq_retx' (PV.cast (α := (Option Int)) (β := Int) (a := p_piece.fl) (fl_v (p := p_piece) (pv (d := (en (α := Pc) p_piece)) rfl))) hM (fun r9 M10 h11 => ⟨rfl, h11⟩))))))
def t_starts_of (p_pieces : (Sq Pc)) : Pr (List Int) :=
  (((lim (Sq.cut p_pieces none (some (-(1 : Int)))).l).bind fun (l14 : List Pc) => Pr.forM l14 ([(0 : Int)] : (List Int)) (fun (x5 : Pc) (s4 : (List Int)) =>
  (((idx s4 (-(1 : Int))).bind fun (a11 : Int) => (t_row_count x5).bind fun (b12 : Int) => (Pr.ok (a11 + b12))).bind fun (a13 : Int) => Pr.need (s4.length < 16777216)
  (Pr.ok (s4 ++ [a13]))))).bind fun (s4 : (List Int)) =>
  (Pr.ok s4))
theorem ft_starts_of (p_pieces : (Sq Pc)) : FP F_starts_of [(en (α := (Sq Pc)) p_pieces)] (t_starts_of p_pieces) := frz_p (env0 := [some (en (α := (Sq Pc)) p_pieces), none, none]) rfl rfl (fun M0 M hP hM => by
  unfold B_starts_of t_starts_of
  exact (seq_newC (l := ([(0 : Int)] : (List Int))) (env1 := fun n1 => [some (en (α := (Sq Pc)) p_pieces), some (.ref n1), none]) (fun _ => rfl) (av_cons (x := (en (α := Int) (0 : Int))) pv_c av_nil) hM (by exact Nat.le_of_ble_eq_true rfl) (fun n1 M2 h3 => (seq_nx (k := fun (s4 : (List Int)) => (Pr.ok s4)) (forS_nx (enc := (en (α := Pc))) (s := ([(0 : Int)] : (List Int))) (body := (fun (x5 : Pc) (s4 : (List Int)) =>
  (((idx s4 (-(1 : Int))).bind fun (a11 : Int) => (t_row_count x5).bind fun (b12 : Int) => (Pr.ok (a11 + b12))).bind fun (a13 : Int) => Pr.need (s4.length < 16777216)
  (Pr.ok (s4 ++ [a13]))))) (I := (fun (s4 : (List Int)) (env : En) (M : Sto) => ∃ o6 : Option D, env = [some (en (α := (Sq Pc)) p_pieces), some (.ref n1), o6] ∧ (St M0.length (· = M0) [(n1, Cell.lst (List.map (en (α := Int)) s4))]) M)) (j_q (q := (Sq.cut p_pieces none (some (-(1 : Int))))) (sl_q (q := p_pieces) (pv (d := (en (α := (Sq Pc)) p_pieces)) rfl) ov_n (ov_s (i := (-(1 : Int))) (un_v (z := (en (α := Int) (-(1 : Int)))) pv_c (fun M _ => rfl))))) h3 (fun M h => ⟨_, rfl, h⟩)
  (fun x5 s4 env M ⟨o6, he, hM⟩ => by subst he; exact ⟨[some (en (α := (Sq Pc)) p_pieces), some (.ref n1), some (en (α := Pc) x5)], rfl, (last_of (seq_appx (l := s4) 0 rfl rfl (bin_ee (γ := Int) (ix_l (l := s4) (lv_c 0 rfl rfl) (un_v (z := (en (α := Int) (-(1 : Int)))) pv_c (fun M _ => rfl))) (fun M9 h10 => (arg_p (pv (d := (en (α := Pc) x5)) rfl) h10 (arg_nil (callP (ft_row_count x5) h10)))) (fun a11 b12 => (gs_ok (c := (a11 + b12)) fun M _ => rfl))) hM (fun a13 M7 h8 =>
  (skip_end ⟨_, Or.inl rfl, _, rfl, h8⟩))))⟩))
  (fun s4 env M ⟨o6, he, h15⟩ => by subst he; exact (last_of (seq_ret (x := .ref n1) (pv rfl) h15 ⟨n1, _, rfl, h15, 0, rfl⟩)))))))
def t_index_of_row (p_starts : (List Int)) (p_number : Int) : Pr Int :=
  ((Pr.whM 100 (((p_starts.length : Nat) : Int), (0 : Int)) (fun (s3 : (Int × Int)) => (Pr.ok (decide ((s3.1 - s3.2) > (1 : Int))))) (fun (s3 : (Int × Int)) =>
  ((((idx p_starts ((s3.2 + s3.1) / (2 : Int))).bind fun (a5 : Int) => (Pr.ok (decide (a5 ≤ p_number)))).bind fun c => if c then (Pr.ok (s3.1, ((s3.2 + s3.1) / (2 : Int)))) else (Pr.ok (((s3.2 + s3.1) / (2 : Int)), s3.2))).bind fun (s7 : (Int × Int)) =>
  (Pr.ok (s7.1, s7.2))))).bind fun (s3 : (Int × Int)) =>
  (Pr.ok s3.2))
theorem ft_index_of_row (p_starts : (List Int)) (p_number : Int) : FP F_index_of_row [(en (α := (List Int)) p_starts), (en (α := Int) p_number)] (t_index_of_row p_starts p_number) := run_p (env0 := [some (en (α := (List Int)) p_starts), some (en (α := Int) p_number), none, none, none]) rfl rfl (fun M0 M hM => by
  unfold B_index_of_row t_index_of_row
  exact (seq_par (arg_p pv_c hM (arg_p (len_L (l := p_starts) (lv_v (l := List.map (en (α := Int)) p_starts) (pv (d := (en (α := (List Int)) p_starts)) rfl))) hM (arg_nil (par_end (env1 := [some (en (α := (List Int)) p_starts), some (en (α := Int) p_number), some (en (α := Int) (0 : Int)), some (en (α := Int) ((p_starts.length : Nat) : Int)), none]) rfl (seq_nx (k := fun (s3 : (Int × Int)) => (Pr.ok s3.2)) (wh_nx (c := (fun (s3 : (Int × Int)) => (Pr.ok (decide ((s3.1 - s3.2) > (1 : Int)))))) (body := (fun (s3 : (Int × Int)) =>
  ((((idx p_starts ((s3.2 + s3.1) / (2 : Int))).bind fun (a5 : Int) => (Pr.ok (decide (a5 ≤ p_number)))).bind fun c => if c then (Pr.ok (s3.1, ((s3.2 + s3.1) / (2 : Int)))) else (Pr.ok (((s3.2 + s3.1) / (2 : Int)), s3.2))).bind fun (s7 : (Int × Int)) =>
  (Pr.ok (s7.1, s7.2))))) (I := (fun (s3 : (Int × Int)) (env : En) (M : Sto) => ∃ o4 : Option D, env = [some (en (α := (List Int)) p_starts), some (en (α := Int) p_number), some (en (α := Int) s3.2), some (en (α := Int) s3.1), o4] ∧ (S0 M0) M)) (fun s3 env M ⟨o4, he, hM⟩ => by subst he; exact ((TV.tx (b_v (bin_v (z := (en (α := Bool) (decide ((s3.1 - s3.2) > (1 : Int))))) (bin_v (z := (en (α := Int) (s3.1 - s3.2))) (pv (d := (en (α := Int) s3.1)) rfl) (pv (d := (en (α := Int) s3.2)) rfl) (fun M _ => rfl)) pv_c (fun M _ => rfl)))) M hM).imp fun a d M1 hh => ⟨hh.1, _, rfl, hh.2⟩) (fun s3 env M ⟨o4, he, hM⟩ => by subst he; exact (seq_set (x := (en (α := Int) ((s3.2 + s3.1) / (2 : Int)))) (env1 := [some (en (α := (List Int)) p_starts), some (en (α := Int) p_number), some (en (α := Int) s3.2), some (en (α := Int) s3.1), some (en (α := Int) ((s3.2 + s3.1) / (2 : Int)))]) rfl (bin_v (z := (en (α := Int) ((s3.2 + s3.1) / (2 : Int)))) (bin_v (z := (en (α := Int) (s3.2 + s3.1))) (pv (d := (en (α := Int) s3.2)) rfl) (pv (d := (en (α := Int) s3.1)) rfl) (fun M _ => rfl)) pv_c (fun M _ => rfl)) hM (last_of (seq_nx (σ := (Int × Int)) (I := (fun (s7 : (Int × Int)) (env : En) (M : Sto) => env = [some (en (α := (List Int)) p_starts), some (en (α := Int) p_number), some (en (α := Int) s7.2), some (en (α := Int) s7.1), some (en (α := Int) ((s3.2 + s3.1) / (2 : Int)))] ∧ (S0 M0) M)) (if_nxx (b_x (bin_ep (γ := Bool) (ix_l (l := p_starts) (lv_v (l := List.map (en (α := Int)) p_starts) (pv (d := (en (α := (List Int)) p_starts)) rfl)) (pv (d := (en (α := Int) ((s3.2 + s3.1) / (2 : Int)))) rfl)) (pv (d := (en (α := Int) p_number)) rfl) (fun a5 => (gs_ok (c := (decide (a5 ≤ p_number))) fun M _ => rfl)))) hM (fun M8 h9 => (last_of (seq_set (x := (en (α := Int) ((s3.2 + s3.1) / (2 : Int)))) (env1 := [some (en (α := (List Int)) p_starts), some (en (α := Int) p_number), some (en (α := Int) ((s3.2 + s3.1) / (2 : Int))), some (en (α := Int) s3.1), some (en (α := Int) ((s3.2 + s3.1) / (2 : Int)))]) rfl (pv (d := (en (α := Int) ((s3.2 + s3.1) / (2 : Int)))) rfl) h9 (skip_end ⟨_, rfl, rfl, h9⟩)))) (fun M10 h11 => (last_of (seq_set (x := (en (α := Int) ((s3.2 + s3.1) / (2 : Int)))) (env1 := [some (en (α := (List Int)) p_starts), some (en (α := Int) p_number), some (en (α := Int) s3.2), some (en (α := Int) ((s3.2 + s3.1) / (2 : Int))), some (en (α := Int) ((s3.2 + s3.1) / (2 : Int)))]) rfl (pv (d := (en (α := Int) ((s3.2 + s3.1) / (2 : Int)))) rfl) h11 (skip_end ⟨_, rfl, rfl, h11⟩)))))
  (fun s7 env M ⟨he, h12⟩ => by subst he; exact (skip_end ⟨_, Or.inl rfl, _, rfl, h12⟩)))))) 100 (((p_starts.length : Nat) : Int), (0 : Int)) _ _ ⟨_, rfl, hM⟩)
  (fun s3 env M ⟨o4, he, h13⟩ => by subst he; exact (last_of (seq_ret (x := (en (α := Int) s3.2)) (pv (d := (en (α := Int) s3.2)) rfl) h13 ⟨rfl, h13⟩))))))))))
def t_part (p_pieces : (Sq Pc)) (p_starts : (List Int)) (p_first : Int) (p_last : (Option Int)) : Pr (List Pc) :=
  ((t_index_of_row p_starts p_first).bind fun (begin_3 : Int) =>
  ((if p_last.isNone then (Pr.ok (((p_pieces.l.length : Nat) : Int) - (1 : Int))) else ((cast (α := (Option Int)) (β := Int) p_last).bind fun (a10 : Int) => (t_index_of_row p_starts a10))).bind fun (end_13 : Int) =>
  ((if p_last.isSome then (((idx (Sq.cut p_pieces (some begin_3) (some (end_13 + (1 : Int)))).l (-(1 : Int))).bind fun (a26 : Pc) => ((((cast (α := (Option Int)) (β := Int) p_last).bind fun (a22 : Int) => (idx p_starts end_13).bind fun (b23 : Int) => (Pr.ok (a22 - b23))).bind fun (a24 : Int) => (Pr.ok (a24 + (1 : Int)))).bind fun (a29 : Int) => (t_first_rows a26 a29))).bind fun (y35 : Pc) => (setI (Sq.cut p_pieces (some begin_3) (some (end_13 + (1 : Int)))).l (-(1 : Int)) y35).bind fun (l32 : List Pc) =>
  (Pr.ok l32)) else (Pr.ok (Sq.cut p_pieces (some begin_3) (some (end_13 + (1 : Int)))).l)).bind fun (s19 : (List Pc)) =>
  (((idx s19 (0 : Int)).bind fun (a41 : Pc) => (((idx p_starts begin_3).bind fun (b40 : Int) => (Pr.ok (p_first - b40))).bind fun (a44 : Int) => (t_without_first_rows a41 a44))).bind fun (y50 : Pc) => (setI s19 (0 : Int) y50).bind fun (l47 : List Pc) =>
  (Pr.ok l47)))))
theorem ft_part (p_pieces : (Sq Pc)) (p_starts : (List Int)) (p_first : Int) (p_last : (Option Int)) : FP F_part [(en (α := (Sq Pc)) p_pieces), (en (α := (List Int)) p_starts), (en (α := Int) p_first), (en (α := (Option Int)) p_last)] (t_part p_pieces p_starts p_first p_last) := frz_p (env0 := [some (en (α := (Sq Pc)) p_pieces), some (en (α := (List Int)) p_starts), some (en (α := Int) p_first), some (en (α := (Option Int)) p_last), none, none, none]) rfl rfl (fun M0 M hP hM => by
  unfold B_part t_part
  exact (seq_setx (env1 := fun (begin_3 : Int) => [some (en (α := (Sq Pc)) p_pieces), some (en (α := (List Int)) p_starts), some (en (α := Int) p_first), some (en (α := (Option Int)) p_last), some (en (α := Int) begin_3), none, none]) (fun _ => rfl) (fun M1 h2 => (arg_p (pv (d := (en (α := (List Int)) p_starts)) rfl) h2 (arg_p (pv (d := (en (α := Int) p_first)) rfl) h2 (arg_nil (callP (ft_index_of_row p_starts p_first) h2))))) hM (fun (begin_3 : Int) M4 h5 =>
  (seq_setx (env1 := fun (end_13 : Int) => [some (en (α := (Sq Pc)) p_pieces), some (en (α := (List Int)) p_starts), some (en (α := Int) p_first), some (en (α := (Option Int)) p_last), some (en (α := Int) begin_3), some (en (α := Int) end_13), none]) (fun _ => rfl) (ifE_t (α := Int) (b_v (is_v (o := p_last) (pv (d := (en (α := (Option Int)) p_last)) rfl) pv_c)) (PV.px (a := (((p_pieces.l.length : Nat) : Int) - (1 : Int))) (bin_v (z := (en (α := Int) (((p_pieces.l.length : Nat) : Int) - (1 : Int)))) (len_q (q := p_pieces) (pv (d := (en (α := (Sq Pc)) p_pieces)) rfl)) pv_c (fun M _ => rfl))) (fun M8 h9 => (arg_p (pv (d := (en (α := (List Int)) p_starts)) rfl) h9 (arg_e (PV.cast (α := (Option Int)) (β := Int) (a := p_last) (pv (d := (en (α := (Option Int)) p_last)) rfl)) h9 (fun (a10 : Int) M11 h12 => (arg_nil (callP (ft_index_of_row p_starts a10) h12))))))) h5 (fun (end_13 : Int) M14 h15 =>
  (seq_newQ (q := (Sq.cut p_pieces (some begin_3) (some (end_13 + (1 : Int))))) (env1 := fun n16 => [some (en (α := (Sq Pc)) p_pieces), some (en (α := (List Int)) p_starts), some (en (α := Int) p_first), some (en (α := (Option Int)) p_last), some (en (α := Int) begin_3), some (en (α := Int) end_13), some (.ref n16)]) (fun _ => rfl) (sl_q (q := p_pieces) (pv (d := (en (α := (Sq Pc)) p_pieces)) rfl) (ov_s (i := begin_3) (pv (d := (en (α := Int) begin_3)) rfl)) (ov_s (i := (end_13 + (1 : Int))) (bin_v (z := (en (α := Int) (end_13 + (1 : Int)))) (pv (d := (en (α := Int) end_13)) rfl) pv_c (fun M _ => rfl)))) h15 (fun n16 M17 h18 => (seq_nx (σ := (List Pc)) (I := (fun (s19 : (List Pc)) (env : En) (M : Sto) => env = [some (en (α := (Sq Pc)) p_pieces), some (en (α := (List Int)) p_starts), some (en (α := Int) p_first), some (en (α := (Option Int)) p_last), some (en (α := Int) begin_3), some (en (α := Int) end_13), some (.ref n16)] ∧ (St M0.length (· = M0) [(n16, Cell.lst (List.map (en (α := Pc)) s19))]) M)) (if_nx (b_v (isnt_v (o := p_last) (pv (d := (en (α := (Option Int)) p_last)) rfl) pv_c)) h18 (last_of (seq_setIxx (l := (Sq.cut p_pieces (some begin_3) (some (end_13 + (1 : Int)))).l) 0 rfl rfl (fun M20 h21 => (arg_e (ix_l (l := (Sq.cut p_pieces (some begin_3) (some (end_13 + (1 : Int)))).l) (lv_c 0 rfl rfl) (un_v (z := (en (α := Int) (-(1 : Int)))) pv_c (fun M _ => rfl))) h21 (fun (a26 : Pc) M27 h28 => (arg_e (bin_ep (γ := Int) (bin_ee (γ := Int) (PV.cast (α := (Option Int)) (β := Int) (a := p_last) (pv (d := (en (α := (Option Int)) p_last)) rfl)) (ix_l (l := p_starts) (lv_v (l := List.map (en (α := Int)) p_starts) (pv (d := (en (α := (List Int)) p_starts)) rfl)) (pv (d := (en (α := Int) end_13)) rfl)) (fun a22 b23 => (gs_ok (c := (a22 - b23)) fun M _ => rfl))) pv_c (fun a24 => (gs_ok (c := (a24 + (1 : Int))) fun M _ => rfl))) h28 (fun (a29 : Int) M30 h31 => (arg_nil (callP (ft_first_rows a26 a29) h31))))))) (un_v (z := (en (α := Int) (-(1 : Int)))) pv_c (fun M _ => rfl)) h18 (fun l32 M33 h34 => (skip_end ⟨_, rfl, rfl, h34⟩)))) (skip_end ⟨_, rfl, rfl, h18⟩))
  (fun s19 env M ⟨he, h36⟩ => by subst he; exact (seq_setIxx (l := s19) 0 rfl rfl (fun M37 h38 => (arg_e (ix_l (l := s19) (lv_c 0 rfl rfl) pv_c) h38 (fun (a41 : Pc) M42 h43 => (arg_e (bin_pe (γ := Int) (pv (d := (en (α := Int) p_first)) rfl) (ix_l (l := p_starts) (lv_v (l := List.map (en (α := Int)) p_starts) (pv (d := (en (α := (List Int)) p_starts)) rfl)) (pv (d := (en (α := Int) begin_3)) rfl)) (fun b40 => (gs_ok (c := (p_first - b40)) fun M _ => rfl))) h43 (fun (a44 : Int) M45 h46 => (arg_nil (callP (ft_without_first_rows a41 a44) h46))))))) pv_c h36 (fun l47 M48 h49 => (last_of (seq_ret (x := .ref n16) (pv rfl) h49 ⟨n16, _, rfl, h49, 0, rfl⟩)))))))))))))
def t_label_in (p_piece : Pc) (p_offset : Int) : Pr (Option (Int × Int)) :=
  (if p_piece.isTop then (Pr.ok (none : (Option (Int × Int)))) else
  (if p_piece.isOld then (Pr.ok (some (((p_piece.f1 + p_offset), (p_piece.f1 + p_offset)) : (Int × Int)))) else
  ((p_piece.f2.bind fun (a3 : (Option Int)) => (Pr.ok ((p_piece.f1, a3) : (Int × (Option Int))))).bind fun (a6 : (Int × (Option Int))) => cast (α := (Int × (Option Int))) (β := (Option (Int × Int))) a6)))
theorem ft_label_in (p_piece : Pc) (p_offset : Int) : FP F_label_in [(en (α := Pc) p_piece), (en (α := Int) p_offset)] (t_label_in p_piece p_offset) := run_p (env0 := [some (en (α := Pc) p_piece), some (en (α := Int) p_offset)]) rfl rfl (fun M0 M hM => by
  unfold B_label_in t_label_in
  exact (seq_if (b_v (word_v (p := p_piece) (pv (d := (en (α := Pc) p_piece)) rfl)).1) hM (seq_ret (x := (en (α := (Option (Int × Int))) (none : (Option (Int × Int))))) pv_c hM ⟨rfl, hM⟩)
  (seq_skip (seq_if (b_v (word_v (p := p_piece) (pv (d := (en (α := Pc) p_piece)) rfl)).2.1) hM (seq_ret (x := (en (α := (Option (Int × Int))) (some (((p_piece.f1 + p_offset), (p_piece.f1 + p_offset)) : (Int × Int))))) (tup_v (av_cons (x := (en (α := Int) (p_piece.f1 + p_offset))) (bin_v (z := (en (α := Int) (p_piece.f1 + p_offset))) (f1_v (p := p_piece) (pv (d := (en (α := Pc) p_piece)) rfl)) (pv (d := (en (α := Int) p_offset)) rfl) (fun M _ => rfl)) (av_cons (x := (en (α := Int) (p_piece.f1 + p_offset))) (bin_v (z := (en (α := Int) (p_piece.f1 + p_offset))) (f1_v (p := p_piece) (pv (d := (en (α := Pc) p_piece)) rfl)) (pv (d := (en (α := Int) p_offset)) rfl) (fun M _ => rfl)) av_nil))) hM ⟨rfl, hM⟩)
  (seq_skip (last_of (seq_retx' (PX.cast (α := (Int × (Option Int))) (β := (Option (Int × Int))) (fun M1 h2 => (arg_p (f1_v (p := p_piece) (pv (d := (en (α := Pc) p_piece)) rfl)) h2 (arg_e (f2_x (p := p_piece) (pv (d := (en (α := Pc) p_piece)) rfl)) h2 (fun (a3 : (Option Int)) M4 h5 => (arg_nil (seq_end (mk := D.tup) (a := ((p_piece.f1, a3) : (Int × (Option Int)))) rfl h5))))))) hM (fun r7 M8 h9 => ⟨rfl, h9⟩))))))))
def t_label_at (p_pieces : (Sq Pc)) (p_starts : (List Int)) (p_number : Int) : Pr (Option (Int × Int)) :=
  ((t_index_of_row p_starts p_number).bind fun (index_3 : Int) =>
  ((idx p_pieces.l index_3).bind fun (a10 : Pc) => (((idx p_starts index_3).bind fun (b9 : Int) => (Pr.ok (p_number - b9))).bind fun (a13 : Int) => (t_label_in a10 a13))))
theorem ft_label_at (p_pieces : (Sq Pc)) (p_starts : (List Int)) (p_number : Int) : FP F_label_at [(en (α := (Sq Pc)) p_pieces), (en (α := (List Int)) p_starts), (en (α := Int) p_number)] (t_label_at p_pieces p_starts p_number) := run_p (env0 := [some (en (α := (Sq Pc)) p_pieces), some (en (α := (List Int)) p_starts), some (en (α := Int) p_number), none]) rfl rfl (fun M0 M hM => by
  unfold B_label_at t_label_at
  exact (seq_setx (env1 := fun (index_3 : Int) => [some (en (α := (Sq Pc)) p_pieces), some (en (α := (List Int)) p_starts), some (en (α := Int) p_number), some (en (α := Int) index_3)]) (fun _ => rfl) (fun M1 h2 => (arg_p (pv (d := (en (α := (List Int)) p_starts)) rfl) h2 (arg_p (pv (d := (en (α := Int) p_number)) rfl) h2 (arg_nil (callP (ft_index_of_row p_starts p_number) h2))))) hM (fun (index_3 : Int) M4 h5 =>
  (last_of (seq_retx' (fun M6 h7 => (arg_e (ix_q (q := p_pieces) (pv (d := (en (α := (Sq Pc)) p_pieces)) rfl) (pv (d := (en (α := Int) index_3)) rfl)) h7 (fun (a10 : Pc) M11 h12 => (arg_e (bin_pe (γ := Int) (pv (d := (en (α := Int) p_number)) rfl) (ix_l (l := p_starts) (lv_v (l := List.map (en (α := Int)) p_starts) (pv (d := (en (α := (List Int)) p_starts)) rfl)) (pv (d := (en (α := Int) index_3)) rfl)) (fun b9 => (gs_ok (c := (p_number - b9)) fun M _ => rfl))) h12 (fun (a13 : Int) M14 h15 => (arg_nil (callP (ft_label_in a10 a13) h15))))))) h5 (fun r16 M17 h18 => ⟨rfl, h18⟩))))))
def t_renamed (p_pieces : (Sq Pc)) (p_starts : (List Int)) (p_piece : Pc) : Pr Pc :=
  ((t_label_at p_pieces p_starts p_piece.f1).bind fun (above_3 : (Option (Int × Int))) =>
  (if above_3.isNone then (p_piece.f3.bind fun (a8 : Int) => (Pr.ok (Pc.top a8))) else
  (((p_piece.f2.bind fun (a16 : (Option Int)) => cast (α := (Option Int)) (β := Int) a16).bind fun (a17 : Int) => (t_label_at p_pieces p_starts a17)).bind fun (below_20 : (Option (Int × Int))) =>
  (((cast (α := (Option (Int × Int))) (β := (Int × Int)) above_3).bind fun (a23 : (Int × Int)) => (Pr.ok a23.1)).bind fun (a29 : Int) => (((cast (α := (Option (Int × Int))) (β := (Int × Int)) below_20).bind fun (a25 : (Int × Int)) => (Pr.ok a25.2)).bind fun (a32 : Int) => (p_piece.f3.bind fun (a35 : Int) => (Pr.ok (Pc.new a29 a32 a35))))))))
theorem ft_renamed (p_pieces : (Sq Pc)) (p_starts : (List Int)) (p_piece : Pc) : FP F_renamed [(en (α := (Sq Pc)) p_pieces), (en (α := (List Int)) p_starts), (en (α := Pc) p_piece)] (t_renamed p_pieces p_starts p_piece) := run_p (env0 := [some (en (α := (Sq Pc)) p_pieces), some (en (α := (List Int)) p_starts), some (en (α := Pc) p_piece), none, none]) rfl rfl (fun M0 M hM => by
  unfold B_renamed t_renamed
  exact (seq_setx (env1 := fun (above_3 : (Option (Int × Int))) => [some (en (α := (Sq Pc)) p_pieces), some (en (α := (List Int)) p_starts), some (en (α := Pc) p_piece), some (en (α := (Option (Int × Int))) above_3), none]) (fun _ => rfl) (fun M1 h2 => (arg_p (pv (d := (en (α := (Sq Pc)) p_pieces)) rfl) h2 (arg_p (pv (d := (en (α := (List Int)) p_starts)) rfl) h2 (arg_p (f1_v (p := p_piece) (pv (d := (en (α := Pc) p_piece)) rfl)) h2 (arg_nil (callP (ft_label_at p_pieces p_starts p_piece.f1) h2)))))) hM (fun (above_3 : (Option (Int × Int))) M4 h5 =>
  (seq_if (b_v (is_v (o := above_3) (pv (d := (en (α := (Option (Int × Int))) above_3)) rfl) pv_c)) h5 (seq_retx' (fun M6 h7 => (arg_p pv_c h7 (arg_e (f3_x (p := p_piece) (pv (d := (en (α := Pc) p_piece)) rfl)) h7 (fun (a8 : Int) M9 h10 => (arg_nil (seq_end (mk := D.tup) (a := (Pc.top a8)) rfl h10)))))) h5 (fun r11 M12 h13 => ⟨rfl, h13⟩))
  (seq_skip (seq_setx (env1 := fun (below_20 : (Option (Int × Int))) => [some (en (α := (Sq Pc)) p_pieces), some (en (α := (List Int)) p_starts), some (en (α := Pc) p_piece), some (en (α := (Option (Int × Int))) above_3), some (en (α := (Option (Int × Int))) below_20)]) (fun _ => rfl) (fun M14 h15 => (arg_p (pv (d := (en (α := (Sq Pc)) p_pieces)) rfl) h15 (arg_p (pv (d := (en (α := (List Int)) p_starts)) rfl) h15 (arg_e (PX.cast (α := (Option Int)) (β := Int) (f2_x (p := p_piece) (pv (d := (en (α := Pc) p_piece)) rfl))) h15 (fun (a17 : Int) M18 h19 => (arg_nil (callP (ft_label_at p_pieces p_starts a17) h19))))))) h5 (fun (below_20 : (Option (Int × Int))) M21 h22 =>
  (last_of (seq_retx' (fun M27 h28 => (arg_p pv_c h28 (arg_e (bin_ep (γ := Int) (PV.cast (α := (Option (Int × Int))) (β := (Int × Int)) (a := above_3) (pv (d := (en (α := (Option (Int × Int))) above_3)) rfl)) pv_c (fun a23 => (gs_ok (c := a23.1) fun M _ => rfl))) h28 (fun (a29 : Int) M30 h31 => (arg_e (bin_ep (γ := Int) (PV.cast (α := (Option (Int × Int))) (β := (Int × Int)) (a := below_20) (pv (d := (en (α := (Option (Int × Int))) below_20)) rfl)) pv_c (fun a25 => (gs_ok (c := a25.2) fun M _ => rfl))) h31 (fun (a32 : Int) M33 h34 => (arg_e (f3_x (p := p_piece) (pv (d := (en (α := Pc) p_piece)) rfl)) h34 (fun (a35 : Int) M36 h37 => (arg_nil (seq_end (mk := D.tup) (a := (Pc.new a29 a32 a35)) rfl h37)))))))))) h22 (fun r38 M39 h40 => ⟨rfl, h40⟩))))))))))
def t_followed (p_first : (Sq Pc)) (p_second : (List Pc)) : Pr (List Pc) :=
  ((t_starts_of p_first).bind fun (starts_3 : (List Int)) =>
  (((lim p_second).bind fun (l31 : List Pc) => Pr.forM l31 ([] : (List Pc)) (fun (x10 : Pc) (s9 : (List Pc)) =>
  ((if x10.isOld then ((x10.f2.bind fun (a17 : (Option Int)) => (t_part p_first starts_3 x10.f1 a17)).bind fun (a20 : List Pc) => Pr.need (s9.length + a20.length ≤ 16777216)
  (Pr.ok (s9 ++ a20))) else ((if x10.isNew then ((t_renamed p_first starts_3 x10).bind fun (a26 : Pc) => Pr.need (s9.length < 16777216)
  (Pr.ok (s9 ++ [a26]))) else (Pr.need (s9.length < 16777216) (Pr.ok (s9 ++ [x10])))).bind fun (s21 : (List Pc)) =>
  (Pr.ok s21))).bind fun (s12 : (List Pc)) =>
  (Pr.ok s12)))).bind fun (s9 : (List Pc)) =>
  (t_normal_form s9)))
theorem ft_followed (p_first : (Sq Pc)) (p_second : (List Pc)) : FP F_followed [(en (α := (Sq Pc)) p_first), (en (α := (List Pc)) p_second)] (t_followed p_first p_second) := frz_pv (env0 := [some (en (α := (Sq Pc)) p_first), some (en (α := (List Pc)) p_second), none, none, none]) rfl rfl (fun M0 M hP hM => by
  unfold B_followed t_followed
  exact (seq_setx (env1 := fun (starts_3 : (List Int)) => [some (en (α := (Sq Pc)) p_first), some (en (α := (List Pc)) p_second), some (en (α := (List Int)) starts_3), none, none]) (fun _ => rfl) (fun M1 h2 => (arg_p (pv (d := (en (α := (Sq Pc)) p_first)) rfl) h2 (arg_nil (callP (ft_starts_of p_first) h2)))) hM (fun (starts_3 : (List Int)) M4 h5 =>
  (seq_newC (l := ([] : (List Pc))) (env1 := fun n6 => [some (en (α := (Sq Pc)) p_first), some (en (α := (List Pc)) p_second), some (en (α := (List Int)) starts_3), some (.ref n6), none]) (fun _ => rfl) av_nil h5 (by exact Nat.le_of_ble_eq_true rfl) (fun n6 M7 h8 => (seq_nx (k := fun (s9 : (List Pc)) => (t_normal_form s9)) (forS_nx (enc := (en (α := Pc))) (s := ([] : (List Pc))) (body := (fun (x10 : Pc) (s9 : (List Pc)) =>
  ((if x10.isOld then ((x10.f2.bind fun (a17 : (Option Int)) => (t_part p_first starts_3 x10.f1 a17)).bind fun (a20 : List Pc) => Pr.need (s9.length + a20.length ≤ 16777216)
  (Pr.ok (s9 ++ a20))) else ((if x10.isNew then ((t_renamed p_first starts_3 x10).bind fun (a26 : Pc) => Pr.need (s9.length < 16777216)
  (Pr.ok (s9 ++ [a26]))) else (Pr.need (s9.length < 16777216) (Pr.ok (s9 ++ [x10])))).bind fun (s21 : (List Pc)) =>
  (Pr.ok s21))).bind fun (s12 : (List Pc)) =>
  (Pr.ok s12)))) (I := (fun (s9 : (List Pc)) (env : En) (M : Sto) => ∃ o11 : Option D, env = [some (en (α := (Sq Pc)) p_first), some (en (α := (List Pc)) p_second), some (en (α := (List Int)) starts_3), some (.ref n6), o11] ∧ (St M0.length (· = M0) [(n6, Cell.lst (List.map (en (α := Pc)) s9))]) M)) (j_v (l := p_second) (pv (d := (en (α := (List Pc)) p_second)) rfl)) h8 (fun M h => ⟨_, rfl, h⟩)
  (fun x10 s9 env M ⟨o11, he, hM⟩ => by subst he; exact ⟨[some (en (α := (Sq Pc)) p_first), some (en (α := (List Pc)) p_second), some (en (α := (List Int)) starts_3), some (.ref n6), some (en (α := Pc) x10)], rfl, (last_of (seq_nx (σ := (List Pc)) (I := (fun (s12 : (List Pc)) (env : En) (M : Sto) => env = [some (en (α := (Sq Pc)) p_first), some (en (α := (List Pc)) p_second), some (en (α := (List Int)) starts_3), some (.ref n6), some (en (α := Pc) x10)] ∧ (St M0.length (· = M0) [(n6, Cell.lst (List.map (en (α := Pc)) s12))]) M)) (if_nx (b_v (word_v (p := x10) (pv (d := (en (α := Pc) x10)) rfl)).2.1) hM (last_of (seq_extx (l := s9) 0 rfl rfl (fun M15 h16 => (arg_p (pv (d := (en (α := (Sq Pc)) p_first)) rfl) h16 (arg_p (pv (d := (en (α := (List Int)) starts_3)) rfl) h16 (arg_p (f1_v (p := x10) (pv (d := (en (α := Pc) x10)) rfl)) h16 (arg_e (f2_x (p := x10) (pv (d := (en (α := Pc) x10)) rfl)) h16 (fun (a17 : (Option Int)) M18 h19 => (arg_nil (callP (ft_part p_first starts_3 x10.f1 a17) h19)))))))) hM (fun a20 M13 h14 =>
  (skip_end ⟨_, rfl, rfl, h14⟩)))) (last_of (seq_nx (σ := (List Pc)) (I := (fun (s21 : (List Pc)) (env : En) (M : Sto) => env = [some (en (α := (Sq Pc)) p_first), some (en (α := (List Pc)) p_second), some (en (α := (List Int)) starts_3), some (.ref n6), some (en (α := Pc) x10)] ∧ (St M0.length (· = M0) [(n6, Cell.lst (List.map (en (α := Pc)) s21))]) M)) (if_nx (b_v (word_v (p := x10) (pv (d := (en (α := Pc) x10)) rfl)).2.2) hM (last_of (seq_appx (l := s9) 0 rfl rfl (fun M24 h25 => (arg_p (pv (d := (en (α := (Sq Pc)) p_first)) rfl) h25 (arg_p (pv (d := (en (α := (List Int)) starts_3)) rfl) h25 (arg_p (pv (d := (en (α := Pc) x10)) rfl) h25 (arg_nil (callP (ft_renamed p_first starts_3 x10) h25)))))) hM (fun a26 M22 h23 =>
  (skip_end ⟨_, rfl, rfl, h23⟩)))) (last_of (seq_app (l := s9) (x := x10) 0 rfl rfl (pv (d := (en (α := Pc) x10)) rfl) hM (fun M27 h28 => (skip_end ⟨_, rfl, rfl, h28⟩)))))
  (fun s21 env M ⟨he, h29⟩ => by subst he; exact (skip_end ⟨_, rfl, rfl, h29⟩)))))
  (fun s12 env M ⟨he, h30⟩ => by subst he; exact (skip_end ⟨_, Or.inl rfl, _, rfl, h30⟩))))⟩))
  (fun s9 env M ⟨o11, he, h32⟩ => by subst he; exact (last_of (seq_retx' (fun M33 h34 => arg_p (pv (d := .ref n6) rfl) h34 (arg_nil (callL (l := s9) 0 (ftl_normal_form s9) rfl h34))) h32 (fun r35 M36 h37 => ⟨rfl, (h37).nil_of⟩))))))))))
def t_pieces_behind (p_script : (List (T3 Str Int Int))) (p_pieces : (Sq Pc)) : Pr (Sq Pc) :=
  (((lim p_script).bind fun (l15 : List (T3 Str Int Int)) => Pr.forM l15 p_pieces (fun (x2 : (T3 Str Int Int)) (s1 : (Sq Pc)) =>
  ((((t_command_pieces x2).bind fun (a8 : (List Pc)) => (t_followed s1 a8)).bind fun (a11 : (List Pc)) => cast (α := (List Pc)) (β := (Sq Pc)) a11).bind fun (pieces_12 : (Sq Pc)) =>
  (Pr.ok pieces_12)))).bind fun (s1 : (Sq Pc)) =>
  (Pr.ok s1))
theorem ft_pieces_behind (p_script : (List (T3 Str Int Int))) (p_pieces : (Sq Pc)) : FP F_pieces_behind [(en (α := (List (T3 Str Int Int))) p_script), (en (α := (Sq Pc)) p_pieces)] (t_pieces_behind p_script p_pieces) := run_p (env0 := [some (en (α := (List (T3 Str Int Int))) p_script), some (en (α := (Sq Pc)) p_pieces), none]) rfl rfl (fun M0 M hM => by
  unfold B_pieces_behind t_pieces_behind
  exact (seq_nx (k := fun (s1 : (Sq Pc)) => (Pr.ok s1)) (forS_nx (enc := (en (α := (T3 Str Int Int)))) (s := p_pieces) (body := (fun (x2 : (T3 Str Int Int)) (s1 : (Sq Pc)) =>
  ((((t_command_pieces x2).bind fun (a8 : (List Pc)) => (t_followed s1 a8)).bind fun (a11 : (List Pc)) => cast (α := (List Pc)) (β := (Sq Pc)) a11).bind fun (pieces_12 : (Sq Pc)) =>
  (Pr.ok pieces_12)))) (I := (fun (s1 : (Sq Pc)) (env : En) (M : Sto) => ∃ o3 : Option D, env = [some (en (α := (List (T3 Str Int Int))) p_script), some (en (α := (Sq Pc)) s1), o3] ∧ (S0 M0) M)) (j_v (l := p_script) (pv (d := (en (α := (List (T3 Str Int Int))) p_script)) rfl)) hM (fun M h => ⟨_, rfl, h⟩)
  (fun x2 s1 env M ⟨o3, he, hM⟩ => by subst he; exact ⟨[some (en (α := (List (T3 Str Int Int))) p_script), some (en (α := (Sq Pc)) s1), some (en (α := (T3 Str Int Int)) x2)], rfl, (last_of (seq_setx (env1 := fun (pieces_12 : (Sq Pc)) => [some (en (α := (List (T3 Str Int Int))) p_script), some (en (α := (Sq Pc)) pieces_12), some (en (α := (T3 Str Int Int)) x2)]) (fun _ => rfl) (PX.cast (α := (List Pc)) (β := (Sq Pc)) (fun M4 h5 => (arg_p (pv (d := (en (α := (Sq Pc)) s1)) rfl) h5 (arg_e (fun M6 h7 => (arg_p (pv (d := (en (α := (T3 Str Int Int)) x2)) rfl) h7 (arg_nil (callP (ft_command_pieces x2) h7)))) h5 (fun (a8 : (List Pc)) M9 h10 => (arg_nil (callP (ft_followed s1 a8) h10))))))) hM (fun (pieces_12 : (Sq Pc)) M13 h14 =>
  (skip_end ⟨_, Or.inl rfl, _, rfl, h14⟩))))⟩))
  (fun s1 env M ⟨o3, he, h16⟩ => by subst he; exact (last_of (seq_ret (x := (en (α := (Sq Pc)) s1)) (pv (d := (en (α := (Sq Pc)) s1)) rfl) h16 ⟨rfl, h16⟩)))))
def t_is_range (p_pair : (Int × (Option Int))) : Pr Bool :=
  (if ((!true) || (!decide ((2 : Int) = (2 : Int)))) then (Pr.ok false) else
  ((((t_is_number p_pair.1).bind fun b => Pr.ok (!b)).bind fun a => if a then Pr.ok true else (Pr.ok (decide (p_pair.1 < (0 : Int))))).bind fun c => if c then (Pr.ok false) else
  ((Pr.ok p_pair.2.isNone).bind fun a => if a then Pr.ok true else (((cast (α := (Option Int)) (β := Int) p_pair.2).bind fun (a13 : Int) => (t_is_number a13)).bind fun a => if a then ((cast (α := (Option Int)) (β := Int) p_pair.2).bind fun (b17 : Int) => (Pr.ok (decide (p_pair.1 ≤ b17)))) else Pr.ok false))))
theorem ft_is_range (p_pair : (Int × (Option Int))) : FP F_is_range [(en (α := (Int × (Option Int))) p_pair)] (t_is_range p_pair) := run_p (env0 := [some (en (α := (Int × (Option Int))) p_pair), none, none]) rfl rfl (fun M0 M hM => by
  unfold B_is_range t_is_range
  exact (seq_if (or_tv (not_tv (tru_v (un_v (z := .bl true) (pv (d := (en (α := (Int × (Option Int))) p_pair)) rfl) (fun M _ => (g_isi_t M _ _).trans (congrArg (Option.map _) isA_tt))) (fun _ _ => rfl))) (b_v (bin_v (z := (en (α := Bool) (!decide ((2 : Int) = (2 : Int))))) (callB_v (z := .int 2) (av_cons (pv (d := (en (α := (Int × (Option Int))) p_pair)) rfl) av_nil) (fun _ _ => rfl)) pv_c (fun M _ => gneI _ _ M)))) hM (seq_ret (x := (en (α := Bool) false)) pv_c hM ⟨rfl, hM⟩)
  (seq_skip (seq_asg (env1 := [some (en (α := (Int × (Option Int))) p_pair), some (en (α := Int) p_pair.1), some (en (α := (Option Int)) p_pair.2)]) (pv (d := (en (α := (Int × (Option Int))) p_pair)) rfl) rfl hM (seq_ifx (or_tx (not_tx (tru_b (fun M5 h6 => (arg_p (pv (d := (en (α := Int) p_pair.1)) rfl) h6 (arg_nil (callP (ft_is_number p_pair.1) h6)))))) (TV.tx (b_v (bin_v (z := (en (α := Bool) (decide (p_pair.1 < (0 : Int))))) (pv (d := (en (α := Int) p_pair.1)) rfl) pv_c (fun M _ => rfl))))) hM (fun M7 h8 => (seq_ret (x := (en (α := Bool) false)) pv_c h8 ⟨rfl, h8⟩))
  (fun M9 h10 => (seq_skip (last_of (seq_retx' (orV_x (PV.px (a := p_pair.2.isNone) (is_v (o := p_pair.2) (pv (d := (en (α := (Option Int)) p_pair.2)) rfl) pv_c)) (andV_x (fun M11 h12 => (arg_e (PV.cast (α := (Option Int)) (β := Int) (a := p_pair.2) (pv (d := (en (α := (Option Int)) p_pair.2)) rfl)) h12 (fun (a13 : Int) M14 h15 => (arg_nil (callP (ft_is_number a13) h15))))) (bin_pe (γ := Bool) (pv (d := (en (α := Int) p_pair.1)) rfl) (PV.cast (α := (Option Int)) (β := Int) (a := p_pair.2) (pv (d := (en (α := (Option Int)) p_pair.2)) rfl)) (fun b17 => (gs_ok (c := (decide (p_pair.1 ≤ b17))) fun M _ => rfl))))) h10 (fun r18 M19 h20 => ⟨rfl, h20⟩))))))))))
def t_run (p_script : (List (T3 Str Int Int))) (p_start : Unit) : Pr Lay :=
  ((t_check_script p_script).bind fun (a3 : Unit) =>
  ((t_pieces_behind p_script (Sq.mk true [Pc.opn 0])).bind fun (a10 : (Sq Pc)) => (t_Layout a10)))
theorem ft_run (p_script : (List (T3 Str Int Int))) (p_start : Unit) : FP F_run [(en (α := (List (T3 Str Int Int))) p_script), (en (α := Unit) p_start)] (t_run p_script p_start) := run_p (env0 := [some (en (α := (List (T3 Str Int Int))) p_script), some (en (α := Unit) p_start)]) rfl rfl (fun M0 M hM => by
  unfold B_run t_run
  exact (seq_dropx (fun M1 h2 => (arg_p (pv (d := (en (α := (List (T3 Str Int Int))) p_script)) rfl) h2 (arg_nil (callP (ft_check_script p_script) h2)))) hM (fun a3 M4 h5 =>
  (last_of (seq_retx' (fun M6 h7 => (arg_e (fun M8 h9 => (arg_p (pv (d := (en (α := (List (T3 Str Int Int))) p_script)) rfl) h9 (arg_p (ifE_trueV (b_v (bin_v (z := .bl true) (pv (d := (en (α := Unit) p_start)) rfl) pv_c (fun _ _ => rfl))) pv_c) h9 (arg_nil (callP (ft_pieces_behind p_script (Sq.mk true [Pc.opn 0])) h9))))) h7 (fun (a10 : (Sq Pc)) M11 h12 => (arg_nil (makeP (ft_Layout a10) h12))))) h5 (fun r13 M14 h15 => ⟨rfl, h15⟩))))))
def t_run_grid (p_script : (List (T3 Str Int Int))) : Pr Gr :=
  ((t_check_grid_script p_script).bind fun (a3 : Unit) =>
  (((t_axis_script p_script ("rows" : Str)).bind fun (a12 : (List (T3 Str Int Int))) => (t_run a12 ())).bind fun (a22 : Lay) => (((t_axis_script p_script ("columns" : Str)).bind fun (a19 : (List (T3 Str Int Int))) => (t_run a19 ())).bind fun (a25 : Lay) => (Pr.ok (⟨a22, a25⟩ : Gr)))))
theorem ft_run_grid (p_script : (List (T3 Str Int Int))) : FP F_run_grid [(en (α := (List (T3 Str Int Int))) p_script)] (t_run_grid p_script) := run_p (env0 := [some (en (α := (List (T3 Str Int Int))) p_script)]) rfl rfl (fun M0 M hM => by
  unfold B_run_grid t_run_grid
  exact (seq_dropx (fun M1 h2 => (arg_p (pv (d := (en (α := (List (T3 Str Int Int))) p_script)) rfl) h2 (arg_nil (callP (ft_check_grid_script p_script) h2)))) hM (fun a3 M4 h5 =>
  (last_of (seq_retx' (fun M6 h7 => (arg_e (fun M8 h9 => (arg_e (fun M10 h11 => (arg_p (pv (d := (en (α := (List (T3 Str Int Int))) p_script)) rfl) h11 (arg_p pv_c h11 (arg_nil (callP (ft_axis_script p_script ("rows" : Str)) h11))))) h9 (fun (a12 : (List (T3 Str Int Int))) M13 h14 => (arg_nil (callP (ft_run a12 ()) h14))))) h7 (fun (a22 : Lay) M23 h24 => (arg_e (fun M15 h16 => (arg_e (fun M17 h18 => (arg_p (pv (d := (en (α := (List (T3 Str Int Int))) p_script)) rfl) h18 (arg_p pv_c h18 (arg_nil (callP (ft_axis_script p_script ("columns" : Str)) h18))))) h16 (fun (a19 : (List (T3 Str Int Int))) M20 h21 => (arg_nil (callP (ft_run a19 ()) h21))))) h24 (fun (a25 : Lay) M26 h27 => (arg_nil (makeP (ft_Grid a22 a25) h27))))))) h5 (fun r28 M29 h30 => ⟨rfl, h30⟩))))))
def t_Grid_rows (p_self : Gr) : Pr Lay :=
  (Pr.ok p_self.rows)
theorem ft_Grid_rows (p_self : Gr) : FP F_Grid_rows [(en (α := Gr) p_self)] (t_Grid_rows p_self) := run_p (env0 := [some (en (α := Gr) p_self)]) rfl rfl (fun M0 M hM => by
  unfold B_Grid_rows t_Grid_rows
  exact (last_of (seq_ret (x := (en (α := Lay) p_self.rows)) (gr_row (pv (d := (en (α := Gr) p_self)) rfl)) hM ⟨rfl, hM⟩)))
def t_old_ranges (p_pieces : (List Pc)) : Pr (List (Int × (Option Int))) :=
  ((Pr.ok p_pieces).bind fun (l7 : List Pc) => Pr.need (l7.length ≤ 16777216) (Pr.lcM l7 (fun (x1 : Pc) => (Pr.ok x1.isOld)) (fun (x1 : Pc) => (x1.f2.bind fun (a4 : (Option Int)) => (Pr.ok ((x1.f1, a4) : (Int × (Option Int))))))))
theorem ft_old_ranges (p_pieces : (List Pc)) : FP F_old_ranges [(en (α := (List Pc)) p_pieces)] (t_old_ranges p_pieces) := run_p (env0 := [some (en (α := (List Pc)) p_pieces), none]) rfl rfl (fun M0 M hM => by
  unfold B_old_ranges t_old_ranges
  exact (last_of (seq_retx' (lc_x (enc := (en (α := Pc))) (c := fun (x1 : Pc) => (Pr.ok x1.isOld)) (g := fun (x1 : Pc) => (x1.f2.bind fun (a4 : (Option Int)) => (Pr.ok ((x1.f1, a4) : (Int × (Option Int)))))) (iter_v (l := p_pieces) (pv (d := (en (α := (List Pc)) p_pieces)) rfl)) (fun x1 => ⟨[some (en (α := (List Pc)) p_pieces), some (en (α := Pc) x1)], rfl, (TV.tx (b_v (word_v (p := x1) (pv (d := (en (α := Pc) x1)) rfl)).2.1)), (fun M2 h3 => (arg_p (f1_v (p := x1) (pv (d := (en (α := Pc) x1)) rfl)) h3 (arg_e (f2_x (p := x1) (pv (d := (en (α := Pc) x1)) rfl)) h3 (fun (a4 : (Option Int)) M5 h6 => (arg_nil (seq_end (mk := D.tup) (a := ((x1.f1, a4) : (Int × (Option Int)))) rfl h6))))))⟩)) hM (fun r8 M9 h10 => ⟨rfl, h10⟩))))
def t_new_labels (p_pieces : (List Pc)) : Pr (List (Int × (Option Int))) :=
  ((Pr.ok p_pieces).bind fun (l7 : List Pc) => Pr.need (l7.length ≤ 16777216) (Pr.lcM l7 (fun (x1 : Pc) => (Pr.ok x1.isNew)) (fun (x1 : Pc) => (x1.f2.bind fun (a4 : (Option Int)) => (Pr.ok ((x1.f1, a4) : (Int × (Option Int))))))))
theorem ft_new_labels (p_pieces : (List Pc)) : FP F_new_labels [(en (α := (List Pc)) p_pieces)] (t_new_labels p_pieces) := run_p (env0 := [some (en (α := (List Pc)) p_pieces), none]) rfl rfl (fun M0 M hM => by
  unfold B_new_labels t_new_labels
  exact (last_of (seq_retx' (lc_x (enc := (en (α := Pc))) (c := fun (x1 : Pc) => (Pr.ok x1.isNew)) (g := fun (x1 : Pc) => (x1.f2.bind fun (a4 : (Option Int)) => (Pr.ok ((x1.f1, a4) : (Int × (Option Int)))))) (iter_v (l := p_pieces) (pv (d := (en (α := (List Pc)) p_pieces)) rfl)) (fun x1 => ⟨[some (en (α := (List Pc)) p_pieces), some (en (α := Pc) x1)], rfl, (TV.tx (b_v (word_v (p := x1) (pv (d := (en (α := Pc) x1)) rfl)).2.2)), (fun M2 h3 => (arg_p (f1_v (p := x1) (pv (d := (en (α := Pc) x1)) rfl)) h3 (arg_e (f2_x (p := x1) (pv (d := (en (α := Pc) x1)) rfl)) h3 (fun (a4 : (Option Int)) M5 h6 => (arg_nil (seq_end (mk := D.tup) (a := ((x1.f1, a4) : (Int × (Option Int)))) rfl h6))))))⟩)) hM (fun r8 M9 h10 => ⟨rfl, h10⟩))))
def t_turning_points (p_layout : Lay) : Pr (List Int) :=
  ((((t_Layout_pieces p_layout).bind fun (a5 : (List Pc)) => (t_old_ranges a5)).bind fun (a15 : (List (Int × (Option Int)))) => ((t_Layout_pieces p_layout).bind fun (a12 : (List Pc)) => (t_new_labels a12)).bind fun (b16 : (List (Int × (Option Int)))) => (cat a15 b16)).bind fun (pairs_17 : (List (Int × (Option Int)))) =>
  ((Pr.ok pairs_17).bind fun (l20 : List (Int × Option Int)) => Pr.need ((tpF l20).length ≤ 16777216) (Pr.ok (tpF l20))))
theorem ft_turning_points (p_layout : Lay) : FP F_turning_points [(en (α := Lay) p_layout)] (t_turning_points p_layout) := run_p (env0 := [some (en (α := Lay) p_layout), none, none, none, none]) rfl rfl (fun M0 M hM => by
  unfold B_turning_points t_turning_points
  exact (seq_setx (env1 := fun (pairs_17 : (List (Int × (Option Int)))) => [some (en (α := Lay) p_layout), some (en (α := (List (Int × (Option Int)))) pairs_17), none, none, none]) (fun _ => rfl) (bin_ee (γ := (List (Int × (Option Int)))) (fun M1 h2 => (arg_e (fun M3 h4 => meth_p (lay_ob (a := p_layout)) (lk_no (by decide +kernel) (by decide +kernel) _ _) (pv (d := (en (α := Lay) p_layout)) rfl) h4 (arg_nil (callP (ft_Layout_pieces p_layout) h4))) h2 (fun (a5 : (List Pc)) M6 h7 => (arg_nil (callP (ft_old_ranges a5) h7))))) (fun M8 h9 => (arg_e (fun M10 h11 => meth_p (lay_ob (a := p_layout)) (lk_no (by decide +kernel) (by decide +kernel) _ _) (pv (d := (en (α := Lay) p_layout)) rfl) h11 (arg_nil (callP (ft_Layout_pieces p_layout) h11))) h9 (fun (a12 : (List Pc)) M13 h14 => (arg_nil (callP (ft_new_labels a12) h14))))) (fun a15 b16 => (gs_cat (a := a15) (b := b16)))) hM (fun (pairs_17 : (List (Int × (Option Int)))) M18 h19 =>
  (last_of (seq_retx' (lc3_tp (by decide) (by decide) (by decide) (Nat.le_of_ble_eq_true rfl) (Nat.le_of_ble_eq_true rfl) (Nat.le_of_ble_eq_true rfl) (iter_v (l := pairs_17) (pv (d := (en (α := (List (Int × (Option Int)))) pairs_17)) rfl))) h19 (fun r21 M22 h23 => ⟨rfl, h23⟩))))))
def t_is_span (p_span : (Int × (Option Int))) : Pr Bool :=
  (t_is_range p_span)
theorem ft_is_span (p_span : (Int × (Option Int))) : FP F_is_span [(en (α := (Int × (Option Int))) p_span)] (t_is_span p_span) := run_p (env0 := [some (en (α := (Int × (Option Int))) p_span)]) rfl rfl (fun M0 M hM => by
  unfold B_is_span t_is_span
  exact (last_of (seq_retx' (fun M1 h2 => (arg_p (pv (d := (en (α := (Int × (Option Int))) p_span)) rfl) h2 (arg_nil (callP (ft_is_range p_span) h2)))) hM (fun r3 M4 h5 => ⟨rfl, h5⟩))))
def t_check_span (p_span : (Int × (Option Int))) : Pr Unit :=
  (((t_is_span p_span).bind fun b => Pr.ok (!b)).bind fun c => if c then Pr.bad else
  (Pr.ok ()))
theorem ft_check_span (p_span : (Int × (Option Int))) : FP F_check_span [(en (α := (Int × (Option Int))) p_span)] (t_check_span p_span) := run_pN (env0 := [some (en (α := (Int × (Option Int))) p_span)]) rfl rfl (fun M0 M hM => by
  unfold B_check_span t_check_span
  exact (last_of (seq_ifx (not_tx (tru_b (fun M1 h2 => (arg_p (pv (d := (en (α := (Int × (Option Int))) p_span)) rfl) h2 (arg_nil (callP (ft_is_span p_span) h2)))))) hM (fun M3 h4 => seq_never)
  (fun M5 h6 => (seq_skip (skip_end ⟨Or.inl ⟨_, rfl⟩, h6⟩))))))
def t_first_row_from (p_pieces : (List Pc)) (p_starts : (List Int)) (p_low : Int) : Pr Int :=
  (Pr.flow ((Pr.ok (List.zip p_starts (cutD p_pieces none (some (-(1 : Int)))))).bind fun (l14 : List (Int × Pc)) => Pr.forF (ρ := Int) l14 () (fun (x2 : (Int × Pc)) (s1 : Unit) =>
  (if (x2.2.isNew && (decide (x2.2.f1 ≥ p_low))) then (Pr.ok (FlT.rt x2.1)) else
  ((if x2.2.isOld then ((x2.2.f2.bind fun (a5 : (Option Int)) => cast (α := (Option Int)) (β := Int) a5).bind fun (a6 : Int) => (Pr.ok (decide (a6 ≥ p_low)))) else Pr.ok false).bind fun c => if c then (Pr.ok (FlT.rt (x2.1 + (if (p_low - x2.2.f1) > (0 : Int) then (p_low - x2.2.f1) else (0 : Int))))) else
  (Pr.ok (FlT.nx ())))))) (fun (s1 : Unit) =>
  ((idx p_starts (-(1 : Int))).bind fun (a25 : Int) => ((((idx p_pieces (-(1 : Int))).bind fun (a18 : Pc) => (Pr.ok a18.f1)).bind fun (b21 : Int) => (Pr.ok (p_low - b21))).bind fun (a22 : Int) => (Pr.ok (if a22 > (0 : Int) then a22 else (0 : Int)))).bind fun (b26 : Int) => (Pr.ok (a25 + b26)))) (fun (r30 : Int) => r30))
theorem ft_first_row_from (p_pieces : (List Pc)) (p_starts : (List Int)) (p_low : Int) : FP F_first_row_from [(en (α := (List Pc)) p_pieces), (en (α := (List Int)) p_starts), (en (α := Int) p_low)] (t_first_row_from p_pieces p_starts p_low) := run_p (env0 := [some (en (α := (List Pc)) p_pieces), some (en (α := (List Int)) p_starts), some (en (α := Int) p_low), none, none]) rfl rfl (fun M0 M hM => by
  unfold B_first_row_from t_first_row_from
  exact (seq_fl (w := fun (r30 : Int) => r30) (k := fun (s1 : Unit) => ((idx p_starts (-(1 : Int))).bind fun (a25 : Int) => ((((idx p_pieces (-(1 : Int))).bind fun (a18 : Pc) => (Pr.ok a18.f1)).bind fun (b21 : Int) => (Pr.ok (p_low - b21))).bind fun (a22 : Int) => (Pr.ok (if a22 > (0 : Int) then a22 else (0 : Int)))).bind fun (b26 : Int) => (Pr.ok (a25 + b26)))) (for_fl (enc := (en (α := (Int × Pc)))) (s := ()) (body := (fun (x2 : (Int × Pc)) (s1 : Unit) =>
  (if (x2.2.isNew && (decide (x2.2.f1 ≥ p_low))) then (Pr.ok (FlT.rt x2.1)) else
  ((if x2.2.isOld then ((x2.2.f2.bind fun (a5 : (Option Int)) => cast (α := (Option Int)) (β := Int) a5).bind fun (a6 : Int) => (Pr.ok (decide (a6 ≥ p_low)))) else Pr.ok false).bind fun c => if c then (Pr.ok (FlT.rt (x2.1 + (if (p_low - x2.2.f1) > (0 : Int) then (p_low - x2.2.f1) else (0 : Int))))) else
  (Pr.ok (FlT.nx ())))))) (I := (fun (s1 : Unit) (env : En) (M : Sto) => ∃ o3 o4 : Option D, env = [some (en (α := (List Pc)) p_pieces), some (en (α := (List Int)) p_starts), some (en (α := Int) p_low), o4, o3] ∧ (S0 M0) M)) (R := fun (r : Int) d M => d = en r ∧ (S0 M0) M) (zip_v (a := p_starts) (b := (cutD p_pieces none (some (-(1 : Int))))) (pv (d := (en (α := (List Int)) p_starts)) rfl) (sl_L (l := p_pieces) (lv_v (l := List.map (en (α := Pc)) p_pieces) (pv (d := (en (α := (List Pc)) p_pieces)) rfl)) ov_n (ov_s (i := (-(1 : Int))) (un_v (z := (en (α := Int) (-(1 : Int)))) pv_c (fun M _ => rfl))))) hM (fun M h => ⟨_, _, rfl, h⟩)
  (fun x2 s1 env M ⟨o3, o4, he, hM⟩ => by subst he; exact ⟨[some (en (α := (List Pc)) p_pieces), some (en (α := (List Int)) p_starts), some (en (α := Int) p_low), some (en (α := Int) x2.1), some (en (α := Pc) x2.2)], rfl, (seq_if (and_tv (b_v (word_v (p := x2.2) (pv (d := (en (α := Pc) x2.2)) rfl)).2.2) (b_v (bin_v (z := (en (α := Bool) (decide (x2.2.f1 ≥ p_low)))) (f1_v (p := x2.2) (pv (d := (en (α := Pc) x2.2)) rfl)) (pv (d := (en (α := Int) p_low)) rfl) (fun M _ => rfl)))) hM (seq_ret (x := (en (α := Int) x2.1)) (pv (d := (en (α := Int) x2.1)) rfl) hM ⟨_, rfl, ⟨rfl, hM⟩⟩)
  (seq_skip (last_of (seq_ifx (and_tpx (b_v (word_v (p := x2.2) (pv (d := (en (α := Pc) x2.2)) rfl)).2.1) (b_x (bin_ep (γ := Bool) (PX.cast (α := (Option Int)) (β := Int) (f2_x (p := x2.2) (pv (d := (en (α := Pc) x2.2)) rfl))) (pv (d := (en (α := Int) p_low)) rfl) (fun a6 => (gs_ok (c := (decide (a6 ≥ p_low))) fun M _ => rfl))))) hM (fun M8 h9 => (seq_ret (x := (en (α := Int) (x2.1 + (if (p_low - x2.2.f1) > (0 : Int) then (p_low - x2.2.f1) else (0 : Int))))) (bin_v (z := (en (α := Int) (x2.1 + (if (p_low - x2.2.f1) > (0 : Int) then (p_low - x2.2.f1) else (0 : Int))))) (pv (d := (en (α := Int) x2.1)) rfl) (callB_v (z := (en (α := Int) (if (p_low - x2.2.f1) > (0 : Int) then (p_low - x2.2.f1) else (0 : Int)))) (av_cons (x := (en (α := Int) (0 : Int))) pv_c (av_cons (x := (en (α := Int) (p_low - x2.2.f1))) (bin_v (z := (en (α := Int) (p_low - x2.2.f1))) (pv (d := (en (α := Int) p_low)) rfl) (f1_v (p := x2.2) (pv (d := (en (α := Pc) x2.2)) rfl)) (fun M _ => rfl)) av_nil)) (fun _ _ => rfl)) (fun M _ => rfl)) h9 ⟨_, rfl, ⟨rfl, h9⟩⟩))
  (fun M12 h13 => (seq_skip (skip_end ⟨_, Or.inl rfl, _, _, rfl, h13⟩)))))))⟩))
  (fun s1 env M ⟨o3, o4, he, h15⟩ => by subst he; exact (last_of (seq_retx' (bin_ee (γ := Int) (ix_l (l := p_starts) (lv_v (l := List.map (en (α := Int)) p_starts) (pv (d := (en (α := (List Int)) p_starts)) rfl)) (un_v (z := (en (α := Int) (-(1 : Int)))) pv_c (fun M _ => rfl))) (fun M16 h17 => (arg_p pv_c h17 (arg_e (bin_pe (γ := Int) (pv (d := (en (α := Int) p_low)) rfl) (bin_ep (γ := Int) (ix_l (l := p_pieces) (lv_v (l := List.map (en (α := Pc)) p_pieces) (pv (d := (en (α := (List Pc)) p_pieces)) rfl)) (un_v (z := (en (α := Int) (-(1 : Int)))) pv_c (fun M _ => rfl))) pv_c (fun a18 => gs_f1)) (fun b21 => (gs_ok (c := (p_low - b21)) fun M _ => rfl))) h17 (fun (a22 : Int) M23 h24 => (arg_nil (callB_end (c := (if a22 > (0 : Int) then a22 else (0 : Int))) h24 (fun _ _ => rfl))))))) (fun a25 b26 => (gs_ok (c := (a25 + b26)) fun M _ => rfl))) h15 (fun r27 M28 h29 => ⟨rfl, h29⟩))))
  (fun r d M h => ⟨congrArg Fl.rt h.1, h.2⟩)))
def t_lesser (p_one : (Option Int)) (p_other : (Option Int)) : Pr (Option Int) :=
  (if p_one.isNone then (Pr.ok p_other) else
  (if p_other.isNone then (Pr.ok p_one) else
  (((cast (α := (Option Int)) (β := Int) p_one).bind fun (a3 : Int) => ((cast (α := (Option Int)) (β := Int) p_other).bind fun (a6 : Int) => (Pr.ok (if a6 < a3 then a6 else a3)))).bind fun (a9 : Int) => cast (α := Int) (β := (Option Int)) a9)))
theorem ft_lesser (p_one : (Option Int)) (p_other : (Option Int)) : FP F_lesser [(en (α := (Option Int)) p_one), (en (α := (Option Int)) p_other)] (t_lesser p_one p_other) := run_p (env0 := [some (en (α := (Option Int)) p_one), some (en (α := (Option Int)) p_other)]) rfl rfl (fun M0 M hM => by
  unfold B_lesser t_lesser
  exact (seq_if (b_v (is_v (o := p_one) (pv (d := (en (α := (Option Int)) p_one)) rfl) pv_c)) hM (seq_ret (x := (en (α := (Option Int)) p_other)) (pv (d := (en (α := (Option Int)) p_other)) rfl) hM ⟨rfl, hM⟩)
  (seq_skip (seq_if (b_v (is_v (o := p_other) (pv (d := (en (α := (Option Int)) p_other)) rfl) pv_c)) hM (seq_ret (x := (en (α := (Option Int)) p_one)) (pv (d := (en (α := (Option Int)) p_one)) rfl) hM ⟨rfl, hM⟩)
  (seq_skip (last_of (seq_retx' (PX.cast (α := Int) (β := (Option Int)) (fun M1 h2 => (arg_e (PV.cast (α := (Option Int)) (β := Int) (a := p_one) (pv (d := (en (α := (Option Int)) p_one)) rfl)) h2 (fun (a3 : Int) M4 h5 => (arg_e (PV.cast (α := (Option Int)) (β := Int) (a := p_other) (pv (d := (en (α := (Option Int)) p_other)) rfl)) h5 (fun (a6 : Int) M7 h8 => (arg_nil (callB_end (c := (if a6 < a3 then a6 else a3)) h8 (fun _ _ => rfl))))))))) hM (fun r10 M11 h12 => ⟨rfl, h12⟩))))))))
def t_last_row_up_to (p_pieces : (List Pc)) (p_starts : (List Int)) (p_high : Int) : Pr Int :=
  (((Pr.ok (List.zip p_starts p_pieces)).bind fun (l36 : List (Int × Pc)) => Pr.forM l36 (-(1 : Int)) (fun (x2 : (Int × Pc)) (s1 : Int) =>
  (((if x2.2.isNew then ((x2.2.f2.bind fun (a5 : (Option Int)) => cast (α := (Option Int)) (β := Int) a5).bind fun (a6 : Int) => (Pr.ok (decide (a6 ≤ p_high)))) else Pr.ok false).bind fun c => if c then (((x2.2.f3.bind fun (b12 : Int) => (Pr.ok (x2.1 + b12))).bind fun (a13 : Int) => (Pr.ok (a13 - (1 : Int)))).bind fun (found_15 : Int) =>
  (Pr.ok found_15)) else (Pr.ok s1)).bind fun (s8 : Int) =>
  ((if (x2.2.isOld && (decide (x2.2.f1 ≤ p_high))) then (((((x2.2.f2.bind fun (a24 : (Option Int)) => (t_lesser (some p_high) a24)).bind fun (a27 : (Option Int)) => cast (α := (Option Int)) (β := Int) a27).bind fun (b29 : Int) => (Pr.ok (x2.1 + b29))).bind fun (a30 : Int) => (Pr.ok (a30 - x2.2.f1))).bind fun (found_32 : Int) =>
  (Pr.ok found_32)) else (Pr.ok s8)).bind fun (s21 : Int) =>
  (Pr.ok s21))))).bind fun (s1 : Int) =>
  (Pr.ok s1))
theorem ft_last_row_up_to (p_pieces : (List Pc)) (p_starts : (List Int)) (p_high : Int) : FP F_last_row_up_to [(en (α := (List Pc)) p_pieces), (en (α := (List Int)) p_starts), (en (α := Int) p_high)] (t_last_row_up_to p_pieces p_starts p_high) := run_p (env0 := [some (en (α := (List Pc)) p_pieces), some (en (α := (List Int)) p_starts), some (en (α := Int) p_high), none, none, none]) rfl rfl (fun M0 M hM => by
  unfold B_last_row_up_to t_last_row_up_to
  exact (seq_set (x := (en (α := Int) (-(1 : Int)))) (env1 := [some (en (α := (List Pc)) p_pieces), some (en (α := (List Int)) p_starts), some (en (α := Int) p_high), some (en (α := Int) (-(1 : Int))), none, none]) rfl (un_v (z := (en (α := Int) (-(1 : Int)))) pv_c (fun M _ => rfl)) hM (seq_nx (k := fun (s1 : Int) => (Pr.ok s1)) (for_nx (enc := (en (α := (Int × Pc)))) (s := (-(1 : Int))) (body := (fun (x2 : (Int × Pc)) (s1 : Int) =>
  (((if x2.2.isNew then ((x2.2.f2.bind fun (a5 : (Option Int)) => cast (α := (Option Int)) (β := Int) a5).bind fun (a6 : Int) => (Pr.ok (decide (a6 ≤ p_high)))) else Pr.ok false).bind fun c => if c then (((x2.2.f3.bind fun (b12 : Int) => (Pr.ok (x2.1 + b12))).bind fun (a13 : Int) => (Pr.ok (a13 - (1 : Int)))).bind fun (found_15 : Int) =>
  (Pr.ok found_15)) else (Pr.ok s1)).bind fun (s8 : Int) =>
  ((if (x2.2.isOld && (decide (x2.2.f1 ≤ p_high))) then (((((x2.2.f2.bind fun (a24 : (Option Int)) => (t_lesser (some p_high) a24)).bind fun (a27 : (Option Int)) => cast (α := (Option Int)) (β := Int) a27).bind fun (b29 : Int) => (Pr.ok (x2.1 + b29))).bind fun (a30 : Int) => (Pr.ok (a30 - x2.2.f1))).bind fun (found_32 : Int) =>
  (Pr.ok found_32)) else (Pr.ok s8)).bind fun (s21 : Int) =>
  (Pr.ok s21))))) (I := (fun (s1 : Int) (env : En) (M : Sto) => ∃ o3 o4 : Option D, env = [some (en (α := (List Pc)) p_pieces), some (en (α := (List Int)) p_starts), some (en (α := Int) p_high), some (en (α := Int) s1), o4, o3] ∧ (S0 M0) M)) (zip_v (a := p_starts) (b := p_pieces) (pv (d := (en (α := (List Int)) p_starts)) rfl) (pv (d := (en (α := (List Pc)) p_pieces)) rfl)) hM (fun M h => ⟨_, _, rfl, h⟩)
  (fun x2 s1 env M ⟨o3, o4, he, hM⟩ => by subst he; exact ⟨[some (en (α := (List Pc)) p_pieces), some (en (α := (List Int)) p_starts), some (en (α := Int) p_high), some (en (α := Int) s1), some (en (α := Int) x2.1), some (en (α := Pc) x2.2)], rfl, (seq_nx (σ := Int) (I := (fun (s8 : Int) (env : En) (M : Sto) => env = [some (en (α := (List Pc)) p_pieces), some (en (α := (List Int)) p_starts), some (en (α := Int) p_high), some (en (α := Int) s8), some (en (α := Int) x2.1), some (en (α := Pc) x2.2)] ∧ (S0 M0) M)) (if_nxx (and_tpx (b_v (word_v (p := x2.2) (pv (d := (en (α := Pc) x2.2)) rfl)).2.2) (b_x (bin_ep (γ := Bool) (PX.cast (α := (Option Int)) (β := Int) (f2_x (p := x2.2) (pv (d := (en (α := Pc) x2.2)) rfl))) (pv (d := (en (α := Int) p_high)) rfl) (fun a6 => (gs_ok (c := (decide (a6 ≤ p_high))) fun M _ => rfl))))) hM (fun M9 h10 => (last_of (seq_setx (env1 := fun (found_15 : Int) => [some (en (α := (List Pc)) p_pieces), some (en (α := (List Int)) p_starts), some (en (α := Int) p_high), some (en (α := Int) found_15), some (en (α := Int) x2.1), some (en (α := Pc) x2.2)]) (fun _ => rfl) (bin_ep (γ := Int) (bin_pe (γ := Int) (pv (d := (en (α := Int) x2.1)) rfl) (f3_x (p := x2.2) (pv (d := (en (α := Pc) x2.2)) rfl)) (fun b12 => (gs_ok (c := (x2.1 + b12)) fun M _ => rfl))) pv_c (fun a13 => (gs_ok (c := (a13 - (1 : Int))) fun M _ => rfl))) h10 (fun (found_15 : Int) M16 h17 =>
  (skip_end ⟨_, rfl, rfl, h17⟩))))) (fun M18 h19 => (skip_end ⟨_, rfl, rfl, h19⟩)))
  (fun s8 env M ⟨he, h20⟩ => by subst he; exact (last_of (seq_nx (σ := Int) (I := (fun (s21 : Int) (env : En) (M : Sto) => env = [some (en (α := (List Pc)) p_pieces), some (en (α := (List Int)) p_starts), some (en (α := Int) p_high), some (en (α := Int) s21), some (en (α := Int) x2.1), some (en (α := Pc) x2.2)] ∧ (S0 M0) M)) (if_nx (and_tv (b_v (word_v (p := x2.2) (pv (d := (en (α := Pc) x2.2)) rfl)).2.1) (b_v (bin_v (z := (en (α := Bool) (decide (x2.2.f1 ≤ p_high)))) (f1_v (p := x2.2) (pv (d := (en (α := Pc) x2.2)) rfl)) (pv (d := (en (α := Int) p_high)) rfl) (fun M _ => rfl)))) h20 (last_of (seq_setx (env1 := fun (found_32 : Int) => [some (en (α := (List Pc)) p_pieces), some (en (α := (List Int)) p_starts), some (en (α := Int) p_high), some (en (α := Int) found_32), some (en (α := Int) x2.1), some (en (α := Pc) x2.2)]) (fun _ => rfl) (bin_ep (γ := Int) (bin_pe (γ := Int) (pv (d := (en (α := Int) x2.1)) rfl) (PX.cast (α := (Option Int)) (β := Int) (fun M22 h23 => (arg_p (pv (d := (en (α := Int) p_high)) rfl) h23 (arg_e (f2_x (p := x2.2) (pv (d := (en (α := Pc) x2.2)) rfl)) h23 (fun (a24 : (Option Int)) M25 h26 => (arg_nil (callP (ft_lesser (some p_high) a24) h26))))))) (fun b29 => (gs_ok (c := (x2.1 + b29)) fun M _ => rfl))) (f1_v (p := x2.2) (pv (d := (en (α := Pc) x2.2)) rfl)) (fun a30 => (gs_ok (c := (a30 - x2.2.f1)) fun M _ => rfl))) h20 (fun (found_32 : Int) M33 h34 =>
  (skip_end ⟨_, rfl, rfl, h34⟩)))) (skip_end ⟨_, rfl, rfl, h20⟩))
  (fun s21 env M ⟨he, h35⟩ => by subst he; exact (skip_end ⟨_, Or.inl rfl, _, _, rfl, h35⟩))))))⟩))
  (fun s1 env M ⟨o3, o4, he, h37⟩ => by subst he; exact (last_of (seq_ret (x := (en (α := Int) s1)) (pv (d := (en (α := Int) s1)) rfl) h37 ⟨rfl, h37⟩))))))
def t_carried_by (p_pieces : (List Pc)) (p_starts : (List Int)) (p_span : (Int × (Option Int))) : Pr (Option (Int × (Option Int))) :=
  ((t_first_row_from p_pieces p_starts p_span.1).bind fun (begin_3 : Int) =>
  (if p_span.2.isNone then (cast (α := (Int × Unit)) (β := (Option (Int × (Option Int)))) ((begin_3, ()) : (Int × Unit))) else
  (((cast (α := (Option Int)) (β := Int) p_span.2).bind fun (a11 : Int) => (t_last_row_up_to p_pieces p_starts a11)).bind fun (end_14 : Int) =>
  (if (decide (begin_3 ≤ end_14)) then (cast (α := (Int × Int)) (β := (Option (Int × (Option Int)))) ((begin_3, end_14) : (Int × Int))) else (Pr.ok (none : (Option (Int × (Option Int)))))))))
theorem ft_carried_by (p_pieces : (List Pc)) (p_starts : (List Int)) (p_span : (Int × (Option Int))) : FP F_carried_by [(en (α := (List Pc)) p_pieces), (en (α := (List Int)) p_starts), (en (α := (Int × (Option Int))) p_span)] (t_carried_by p_pieces p_starts p_span) := run_p (env0 := [some (en (α := (List Pc)) p_pieces), some (en (α := (List Int)) p_starts), some (en (α := (Int × (Option Int))) p_span), none, none, none, none]) rfl rfl (fun M0 M hM => by
  unfold B_carried_by t_carried_by
  exact (seq_asg (env1 := [some (en (α := (List Pc)) p_pieces), some (en (α := (List Int)) p_starts), some (en (α := (Int × (Option Int))) p_span), none, none, some (en (α := Int) p_span.1), some (en (α := (Option Int)) p_span.2)]) (pv (d := (en (α := (Int × (Option Int))) p_span)) rfl) rfl hM (seq_setx (env1 := fun (begin_3 : Int) => [some (en (α := (List Pc)) p_pieces), some (en (α := (List Int)) p_starts), some (en (α := (Int × (Option Int))) p_span), some (en (α := Int) begin_3), none, some (en (α := Int) p_span.1), some (en (α := (Option Int)) p_span.2)]) (fun _ => rfl) (fun M1 h2 => (arg_p (pv (d := (en (α := (List Pc)) p_pieces)) rfl) h2 (arg_p (pv (d := (en (α := (List Int)) p_starts)) rfl) h2 (arg_p (pv (d := (en (α := Int) p_span.1)) rfl) h2 (arg_nil (callP (ft_first_row_from p_pieces p_starts p_span.1) h2)))))) hM (fun (begin_3 : Int) M4 h5 =>
  (seq_if (b_v (is_v (o := p_span.2) (pv (d := (en (α := (Option Int)) p_span.2)) rfl) pv_c)) h5 (seq_retx' (PV.cast (α := (Int × Unit)) (β := (Option (Int × (Option Int)))) (a := ((begin_3, ()) : (Int × Unit))) (tup_v (av_cons (x := (en (α := Int) begin_3)) (pv (d := (en (α := Int) begin_3)) rfl) (av_cons (x := (en (α := Unit) ())) pv_c av_nil)))) h5 (fun r6 M7 h8 => ⟨rfl, h8⟩))
  (seq_skip (seq_setx (env1 := fun (end_14 : Int) => [some (en (α := (List Pc)) p_pieces), some (en (α := (List Int)) p_starts), some (en (α := (Int × (Option Int))) p_span), some (en (α := Int) begin_3), some (en (α := Int) end_14), some (en (α := Int) p_span.1), some (en (α := (Option Int)) p_span.2)]) (fun _ => rfl) (fun M9 h10 => (arg_p (pv (d := (en (α := (List Pc)) p_pieces)) rfl) h10 (arg_p (pv (d := (en (α := (List Int)) p_starts)) rfl) h10 (arg_e (PV.cast (α := (Option Int)) (β := Int) (a := p_span.2) (pv (d := (en (α := (Option Int)) p_span.2)) rfl)) h10 (fun (a11 : Int) M12 h13 => (arg_nil (callP (ft_last_row_up_to p_pieces p_starts a11) h13))))))) h5 (fun (end_14 : Int) M15 h16 =>
  (last_of (seq_retx' (ifE_t (α := (Option (Int × (Option Int)))) (b_v (bin_v (z := (en (α := Bool) (decide (begin_3 ≤ end_14)))) (pv (d := (en (α := Int) begin_3)) rfl) (pv (d := (en (α := Int) end_14)) rfl) (fun M _ => rfl))) (PV.cast (α := (Int × Int)) (β := (Option (Int × (Option Int)))) (a := ((begin_3, end_14) : (Int × Int))) (tup_v (av_cons (x := (en (α := Int) begin_3)) (pv (d := (en (α := Int) begin_3)) rfl) (av_cons (x := (en (α := Int) end_14)) (pv (d := (en (α := Int) end_14)) rfl) av_nil)))) (PV.px (a := (none : (Option (Int × (Option Int))))) pv_c)) h16 (fun r17 M18 h19 => ⟨rfl, h19⟩)))))))))))
def t_carried (p_layout : Lay) (p_span : (Int × (Option Int))) : Pr (Option (Int × (Option Int))) :=
  ((t_check_span p_span).bind fun (a3 : Unit) =>
  (t_carried_by p_layout.parts p_layout.starts p_span))
theorem ft_carried (p_layout : Lay) (p_span : (Int × (Option Int))) : FP F_carried [(en (α := Lay) p_layout), (en (α := (Int × (Option Int))) p_span)] (t_carried p_layout p_span) := run_p (env0 := [some (en (α := Lay) p_layout), some (en (α := (Int × (Option Int))) p_span)]) rfl rfl (fun M0 M hM => by
  unfold B_carried t_carried
  exact (seq_dropx (fun M1 h2 => (arg_p (pv (d := (en (α := (Int × (Option Int))) p_span)) rfl) h2 (arg_nil (callP (ft_check_span p_span) h2)))) hM (fun a3 M4 h5 =>
  (last_of (seq_retx' (fun M6 h7 => (arg_p (lay_parts (pv (d := (en (α := Lay) p_layout)) rfl)) h7 (arg_p (lay_starts (pv (d := (en (α := Lay) p_layout)) rfl)) h7 (arg_p (pv (d := (en (α := (Int × (Option Int))) p_span)) rfl) h7 (arg_nil (callP (ft_carried_by p_layout.parts p_layout.starts p_span) h7)))))) h5 (fun r8 M9 h10 => ⟨rfl, h10⟩))))))
def t_is_difference (p_one : Lay) (p_other : Lay) (p_claimed : (Int × (Option Int))) : Pr Bool :=
  ((t_is_span p_claimed).bind fun a => if a then ((t_carried p_one p_claimed).bind fun (a7 : (Option (Int × (Option Int)))) => (t_carried p_other p_claimed).bind fun (b8 : (Option (Int × (Option Int)))) => (Pr.ok (!decide (a7 = b8)))) else Pr.ok false)
theorem ft_is_difference (p_one : Lay) (p_other : Lay) (p_claimed : (Int × (Option Int))) : FP F_is_difference [(en (α := Lay) p_one), (en (α := Lay) p_other), (en (α := (Int × (Option Int))) p_claimed)] (t_is_difference p_one p_other p_claimed) := run_p (env0 := [some (en (α := Lay) p_one), some (en (α := Lay) p_other), some (en (α := (Int × (Option Int))) p_claimed)]) rfl rfl (fun M0 M hM => by
  unfold B_is_difference t_is_difference
  exact (last_of (seq_retx' (andV_x (fun M1 h2 => (arg_p (pv (d := (en (α := (Int × (Option Int))) p_claimed)) rfl) h2 (arg_nil (callP (ft_is_span p_claimed) h2)))) (bin_ee (γ := Bool) (fun M3 h4 => (arg_p (pv (d := (en (α := Lay) p_one)) rfl) h4 (arg_p (pv (d := (en (α := (Int × (Option Int))) p_claimed)) rfl) h4 (arg_nil (callP (ft_carried p_one p_claimed) h4))))) (fun M5 h6 => (arg_p (pv (d := (en (α := Lay) p_other)) rfl) h6 (arg_p (pv (d := (en (α := (Int × (Option Int))) p_claimed)) rfl) h6 (arg_nil (callP (ft_carried p_other p_claimed) h6))))) (fun a7 b8 => (gs_ok (c := (!decide (a7 = b8))) fun M _ => gneT (α := (Option (Int × (Option Int)))) a7 b8 M)))) hM (fun r9 M10 h11 => ⟨rfl, h11⟩))))
def t_difference (p_one : Lay) (p_other : Lay) : Pr (Option (Int × (Option Int))) :=
  ((((t_turning_points p_one).bind fun (a7 : (List Int)) => (t_turning_points p_other).bind fun (b8 : (List Int)) => (cat a7 b8)).bind fun (l9 : List Int) => Pr.need (l9.length < 4000 ∧ (srt l9).length < 64) (Pr.ok (srt l9))).bind fun (number_10 : (List Int)) =>
  (Pr.flow (((((Pr.ok number_10).bind fun (l14 : List Int) => Pr.need (l14.length ≤ 16777216) (Pr.ok ((l14.filter fun (x13 : Int) => true).map fun (x13 : Int) => ((x13, (none : (Option Int))) : (Int × (Option Int)))))).bind fun (a17 : (List (Int × (Option Int)))) => ((Pr.ok number_10).bind fun (l16 : List Int) => Pr.need (l16.length ≤ 16777216) (Pr.ok ((l16.filter fun (x15 : Int) => true).map fun (x15 : Int) => (((0 : Int), (some x15)) : (Int × (Option Int)))))).bind fun (b18 : (List (Int × (Option Int)))) => (cat a17 b18)).bind lim).bind fun (l28 : List (Int × (Option Int))) => Pr.forF (ρ := (Option (Int × (Option Int)))) l28 () (fun (x20 : (Int × (Option Int))) (s19 : Unit) =>
  ((t_is_difference p_one p_other x20).bind fun c => if c then (Pr.ok (FlT.rt (some x20))) else
  (Pr.ok (FlT.nx ()))))) (fun (s19 : Unit) =>
  (Pr.ok (none : (Option (Int × (Option Int)))))) (fun (r30 : (Option (Int × (Option Int)))) => r30)))
theorem ft_difference (p_one : Lay) (p_other : Lay) : FP F_difference [(en (α := Lay) p_one), (en (α := Lay) p_other)] (t_difference p_one p_other) := run_p (env0 := [some (en (α := Lay) p_one), some (en (α := Lay) p_other), none, none, none]) rfl rfl (fun M0 M hM => by
  unfold B_difference t_difference
  exact (seq_setx (env1 := fun (number_10 : (List Int)) => [some (en (α := Lay) p_one), some (en (α := Lay) p_other), some (en (α := (List Int)) number_10), none, none]) (fun _ => rfl) (sortSet_x (bin_ee (γ := (List Int)) (fun M3 h4 => (arg_p (pv (d := (en (α := Lay) p_one)) rfl) h4 (arg_nil (callP (ft_turning_points p_one) h4)))) (fun M5 h6 => (arg_p (pv (d := (en (α := Lay) p_other)) rfl) h6 (arg_nil (callP (ft_turning_points p_other) h6)))) (fun a7 b8 => (gs_cat (a := a7) (b := b8))))) hM (fun (number_10 : (List Int)) M11 h12 =>
  (seq_fl (w := fun (r30 : (Option (Int × (Option Int)))) => r30) (k := fun (s19 : Unit) => (Pr.ok (none : (Option (Int × (Option Int)))))) (forS_fl (enc := (en (α := (Int × (Option Int))))) (s := ()) (body := (fun (x20 : (Int × (Option Int))) (s19 : Unit) =>
  ((t_is_difference p_one p_other x20).bind fun c => if c then (Pr.ok (FlT.rt (some x20))) else
  (Pr.ok (FlT.nx ()))))) (I := (fun (s19 : Unit) (env : En) (M : Sto) => ∃ o21 : Option D, env = [some (en (α := Lay) p_one), some (en (α := Lay) p_other), some (en (α := (List Int)) number_10), o21, none] ∧ (S0 M0) M)) (R := fun (r : (Option (Int × (Option Int)))) d M => d = en r ∧ (S0 M0) M) (j_x (bin_ee (γ := (List (Int × (Option Int)))) (lc_v (enc := (en (α := Int))) (c := fun (x13 : Int) => true) (g := fun (x13 : Int) => ((x13, (none : (Option Int))) : (Int × (Option Int)))) (iter_v (l := number_10) (pv (d := (en (α := (List Int)) number_10)) rfl)) (fun x13 => ⟨[some (en (α := Lay) p_one), some (en (α := Lay) p_other), some (en (α := (List Int)) number_10), none, some (en (α := Int) x13)], rfl, yes_tv, (tup_v (av_cons (x := (en (α := Int) x13)) (pv (d := (en (α := Int) x13)) rfl) (av_cons (x := (en (α := (Option Int)) (none : (Option Int)))) pv_c av_nil)))⟩)) (lc_v (enc := (en (α := Int))) (c := fun (x15 : Int) => true) (g := fun (x15 : Int) => (((0 : Int), (some x15)) : (Int × (Option Int)))) (iter_v (l := number_10) (pv (d := (en (α := (List Int)) number_10)) rfl)) (fun x15 => ⟨[some (en (α := Lay) p_one), some (en (α := Lay) p_other), some (en (α := (List Int)) number_10), none, some (en (α := Int) x15)], rfl, yes_tv, (tup_v (av_cons (x := (en (α := Int) (0 : Int))) pv_c (av_cons (x := (en (α := (Option Int)) (some x15))) (pv (d := (en (α := Int) x15)) rfl) av_nil)))⟩)) (fun a17 b18 => (gs_cat (a := a17) (b := b18))))) h12 (fun M h => ⟨_, rfl, h⟩)
  (fun x20 s19 env M ⟨o21, he, hM⟩ => by subst he; exact ⟨[some (en (α := Lay) p_one), some (en (α := Lay) p_other), some (en (α := (List Int)) number_10), some (en (α := (Int × (Option Int))) x20), none], rfl, (last_of (seq_ifx (tru_b (fun M22 h23 => (arg_p (pv (d := (en (α := Lay) p_one)) rfl) h23 (arg_p (pv (d := (en (α := Lay) p_other)) rfl) h23 (arg_p (pv (d := (en (α := (Int × (Option Int))) x20)) rfl) h23 (arg_nil (callP (ft_is_difference p_one p_other x20) h23))))))) hM (fun M24 h25 => (seq_ret (x := (en (α := (Option (Int × (Option Int)))) (some x20))) (pv (d := (en (α := (Int × (Option Int))) x20)) rfl) h25 ⟨_, rfl, ⟨rfl, h25⟩⟩))
  (fun M26 h27 => (seq_skip (skip_end ⟨_, Or.inl rfl, _, rfl, h27⟩)))))⟩))
  (fun s19 env M ⟨o21, he, h29⟩ => by subst he; exact (last_of (seq_ret (x := (en (α := (Option (Int × (Option Int)))) (none : (Option (Int × (Option Int)))))) pv_c h29 ⟨rfl, h29⟩)))
  (fun r d M h => ⟨congrArg Fl.rt h.1, h.2⟩)))))
def t_Grid_columns (p_self : Gr) : Pr Lay :=
  (Pr.ok p_self.cols)
theorem ft_Grid_columns (p_self : Gr) : FP F_Grid_columns [(en (α := Gr) p_self)] (t_Grid_columns p_self) := run_p (env0 := [some (en (α := Gr) p_self)]) rfl rfl (fun M0 M hM => by
  unfold B_Grid_columns t_Grid_columns
  exact (last_of (seq_ret (x := (en (α := Lay) p_self.cols)) (gr_col (pv (d := (en (α := Gr) p_self)) rfl)) hM ⟨rfl, hM⟩)))
def t_difference_box (p_one : Gr) (p_other : Gr) : Pr (Option ((Int × (Option Int)) × (Int × (Option Int)))) :=
  (((t_Grid_rows p_one).bind fun (a3 : Lay) => ((t_Grid_rows p_other).bind fun (a6 : Lay) => (t_difference a3 a6))).bind fun (rows_9 : (Option (Int × (Option Int)))) =>
  (if rows_9.isSome then (cast (α := ((Option (Int × (Option Int))) × (Int × (Option Int)))) (β := (Option ((Int × (Option Int)) × (Int × (Option Int))))) ((rows_9, (((0 : Int), (none : Option Int)) : Int × Option Int)) : ((Option (Int × (Option Int))) × (Int × (Option Int))))) else
  (((t_Grid_columns p_one).bind fun (a17 : Lay) => ((t_Grid_columns p_other).bind fun (a20 : Lay) => (t_difference a17 a20))).bind fun (column_23 : (Option (Int × (Option Int)))) =>
  (if column_23.isNone then (Pr.ok (none : (Option ((Int × (Option Int)) × (Int × (Option Int)))))) else (cast (α := ((Int × (Option Int)) × (Option (Int × (Option Int))))) (β := (Option ((Int × (Option Int)) × (Int × (Option Int))))) (((((0 : Int), (none : Option Int)) : Int × Option Int), column_23) : ((Int × (Option Int)) × (Option (Int × (Option Int))))))))))
theorem ft_difference_box (p_one : Gr) (p_other : Gr) : FP F_difference_box [(en (α := Gr) p_one), (en (α := Gr) p_other)] (t_difference_box p_one p_other) := run_p (env0 := [some (en (α := Gr) p_one), some (en (α := Gr) p_other), none, none]) rfl rfl (fun M0 M hM => by
  unfold B_difference_box t_difference_box
  exact (seq_setx (env1 := fun (rows_9 : (Option (Int × (Option Int)))) => [some (en (α := Gr) p_one), some (en (α := Gr) p_other), some (en (α := (Option (Int × (Option Int)))) rows_9), none]) (fun _ => rfl) (fun M1 h2 => (arg_e (prop_x (α := Lay) gr_ob (ft_Grid_rows p_one) (pv (d := (en (α := Gr) p_one)) rfl)) h2 (fun (a3 : Lay) M4 h5 => (arg_e (prop_x (α := Lay) gr_ob (ft_Grid_rows p_other) (pv (d := (en (α := Gr) p_other)) rfl)) h5 (fun (a6 : Lay) M7 h8 => (arg_nil (callP (ft_difference a3 a6) h8))))))) hM (fun (rows_9 : (Option (Int × (Option Int)))) M10 h11 =>
  (seq_if (b_v (isnt_v (o := rows_9) (pv (d := (en (α := (Option (Int × (Option Int)))) rows_9)) rfl) pv_c)) h11 (seq_retx' (PV.cast (α := ((Option (Int × (Option Int))) × (Int × (Option Int)))) (β := (Option ((Int × (Option Int)) × (Int × (Option Int))))) (a := ((rows_9, (((0 : Int), (none : Option Int)) : Int × Option Int)) : ((Option (Int × (Option Int))) × (Int × (Option Int))))) (tup_v (av_cons (x := (en (α := (Option (Int × (Option Int)))) rows_9)) (pv (d := (en (α := (Option (Int × (Option Int)))) rows_9)) rfl) (av_cons (x := (en (α := (Int × (Option Int))) (((0 : Int), (none : Option Int)) : Int × Option Int))) pv_c av_nil)))) h11 (fun r12 M13 h14 => ⟨rfl, h14⟩))
  (seq_skip (seq_setx (env1 := fun (column_23 : (Option (Int × (Option Int)))) => [some (en (α := Gr) p_one), some (en (α := Gr) p_other), some (en (α := (Option (Int × (Option Int)))) rows_9), some (en (α := (Option (Int × (Option Int)))) column_23)]) (fun _ => rfl) (fun M15 h16 => (arg_e (prop_x (α := Lay) gr_ob (ft_Grid_columns p_one) (pv (d := (en (α := Gr) p_one)) rfl)) h16 (fun (a17 : Lay) M18 h19 => (arg_e (prop_x (α := Lay) gr_ob (ft_Grid_columns p_other) (pv (d := (en (α := Gr) p_other)) rfl)) h19 (fun (a20 : Lay) M21 h22 => (arg_nil (callP (ft_difference a17 a20) h22))))))) h11 (fun (column_23 : (Option (Int × (Option Int)))) M24 h25 =>
  (last_of (seq_retx' (ifE_t (α := (Option ((Int × (Option Int)) × (Int × (Option Int))))) (b_v (is_v (o := column_23) (pv (d := (en (α := (Option (Int × (Option Int)))) column_23)) rfl) pv_c)) (PV.px (a := (none : (Option ((Int × (Option Int)) × (Int × (Option Int)))))) pv_c) (PV.cast (α := ((Int × (Option Int)) × (Option (Int × (Option Int))))) (β := (Option ((Int × (Option Int)) × (Int × (Option Int))))) (a := (((((0 : Int), (none : Option Int)) : Int × Option Int), column_23) : ((Int × (Option Int)) × (Option (Int × (Option Int)))))) (tup_v (av_cons (x := (en (α := (Int × (Option Int))) (((0 : Int), (none : Option Int)) : Int × Option Int))) pv_c (av_cons (x := (en (α := (Option (Int × (Option Int)))) column_23)) (pv (d := (en (α := (Option (Int × (Option Int)))) column_23)) rfl) av_nil))))) h25 (fun r26 M27 h28 => ⟨rfl, h28⟩))))))))))
def t_Layout___eq__ (p_self : Lay) (p_other : Lay) : Pr Bool :=
  (Pr.ok (true && (decide (p_self.parts = p_other.parts))))
theorem ft_Layout___eq__ (p_self : Lay) (p_other : Lay) : FP F_Layout___eq__ [(en (α := Lay) p_self), (en (α := Lay) p_other)] (t_Layout___eq__ p_self p_other) := run_p (env0 := [some (en (α := Lay) p_self), some (en (α := Lay) p_other)]) rfl rfl (fun M0 M hM => by
  unfold B_Layout___eq__ t_Layout___eq__
  exact (last_of (seq_ret (x := (en (α := Bool) (true && (decide (p_self.parts = p_other.parts))))) (andV_v (isiL_v (a := p_other) (pv (d := (en (α := Lay) p_other)) rfl)) (bin_v (z := (en (α := Bool) (decide (p_self.parts = p_other.parts)))) (lay_parts (pv (d := (en (α := Lay) p_self)) rfl)) (lay_parts (pv (d := (en (α := Lay) p_other)) rfl)) (fun M _ => geqT (α := (List Pc)) p_self.parts p_other.parts M))) hM ⟨rfl, hM⟩)))
def t_Grid___eq__ (p_self : Gr) (p_other : Gr) : Pr Bool :=
  ((Pr.ok true).bind fun a => if a then (((t_Layout___eq__ p_self.rows p_other.rows).bind fun c => Pr.ok (if false then !c else c)).bind fun a => if a then ((t_Layout___eq__ p_self.cols p_other.cols).bind fun c => Pr.ok (if false then !c else c)) else Pr.ok false) else Pr.ok false)
theorem ft_Grid___eq__ (p_self : Gr) (p_other : Gr) : FP F_Grid___eq__ [(en (α := Gr) p_self), (en (α := Gr) p_other)] (t_Grid___eq__ p_self p_other) := run_p (env0 := [some (en (α := Gr) p_self), some (en (α := Gr) p_other)]) rfl rfl (fun M0 M hM => by
  unfold B_Grid___eq__ t_Grid___eq__
  exact (last_of (seq_retx' (andV_x (PV.px (a := true) (isiG_v (a := p_other) (pv (d := (en (α := Gr) p_other)) rfl))) (andV_x (eqO_pp (n := false) (ft_Layout___eq__ p_self.rows p_other.rows) (gr_row (pv (d := (en (α := Gr) p_self)) rfl)) (gr_row (pv (d := (en (α := Gr) p_other)) rfl))) (eqO_pp (n := false) (ft_Layout___eq__ p_self.cols p_other.cols) (gr_col (pv (d := (en (α := Gr) p_self)) rfl)) (gr_col (pv (d := (en (α := Gr) p_other)) rfl))))) hM (fun r7 M8 h9 => ⟨rfl, h9⟩))))
def t_carried_box (p_grid : Gr) (p_box : ((Int × (Option Int)) × (Int × (Option Int)))) : Pr (Option ((Int × (Option Int)) × (Int × (Option Int)))) :=
  (((t_Grid_rows p_grid).bind fun (a3 : Lay) => (t_carried a3 p_box.1)).bind fun (rows_6 : (Option (Int × (Option Int)))) =>
  (((t_Grid_columns p_grid).bind fun (a11 : Lay) => (t_carried a11 p_box.2)).bind fun (column_14 : (Option (Int × (Option Int)))) =>
  (if (rows_6.isNone || column_14.isNone) then (Pr.ok (none : (Option ((Int × (Option Int)) × (Int × (Option Int)))))) else (cast (α := ((Option (Int × (Option Int))) × (Option (Int × (Option Int))))) (β := (Option ((Int × (Option Int)) × (Int × (Option Int))))) ((rows_6, column_14) : ((Option (Int × (Option Int))) × (Option (Int × (Option Int)))))))))
theorem ft_carried_box (p_grid : Gr) (p_box : ((Int × (Option Int)) × (Int × (Option Int)))) : FP F_carried_box [(en (α := Gr) p_grid), (en (α := ((Int × (Option Int)) × (Int × (Option Int)))) p_box)] (t_carried_box p_grid p_box) := run_p (env0 := [some (en (α := Gr) p_grid), some (en (α := ((Int × (Option Int)) × (Int × (Option Int)))) p_box), none, none]) rfl rfl (fun M0 M hM => by
  unfold B_carried_box t_carried_box
  exact (seq_setx (env1 := fun (rows_6 : (Option (Int × (Option Int)))) => [some (en (α := Gr) p_grid), some (en (α := ((Int × (Option Int)) × (Int × (Option Int)))) p_box), some (en (α := (Option (Int × (Option Int)))) rows_6), none]) (fun _ => rfl) (fun M1 h2 => (arg_e (prop_x (α := Lay) gr_ob (ft_Grid_rows p_grid) (pv (d := (en (α := Gr) p_grid)) rfl)) h2 (fun (a3 : Lay) M4 h5 => (arg_p (bin_v (z := (en (α := (Int × (Option Int))) p_box.1)) (pv (d := (en (α := ((Int × (Option Int)) × (Int × (Option Int)))) p_box)) rfl) pv_c (fun M _ => rfl)) h5 (arg_nil (callP (ft_carried a3 p_box.1) h5)))))) hM (fun (rows_6 : (Option (Int × (Option Int)))) M7 h8 =>
  (seq_setx (env1 := fun (column_14 : (Option (Int × (Option Int)))) => [some (en (α := Gr) p_grid), some (en (α := ((Int × (Option Int)) × (Int × (Option Int)))) p_box), some (en (α := (Option (Int × (Option Int)))) rows_6), some (en (α := (Option (Int × (Option Int)))) column_14)]) (fun _ => rfl) (fun M9 h10 => (arg_e (prop_x (α := Lay) gr_ob (ft_Grid_columns p_grid) (pv (d := (en (α := Gr) p_grid)) rfl)) h10 (fun (a11 : Lay) M12 h13 => (arg_p (bin_v (z := (en (α := (Int × (Option Int))) p_box.2)) (pv (d := (en (α := ((Int × (Option Int)) × (Int × (Option Int)))) p_box)) rfl) pv_c (fun M _ => rfl)) h13 (arg_nil (callP (ft_carried a11 p_box.2) h13)))))) h8 (fun (column_14 : (Option (Int × (Option Int)))) M15 h16 =>
  (last_of (seq_retx' (ifE_t (α := (Option ((Int × (Option Int)) × (Int × (Option Int))))) (or_tv (b_v (is_v (o := rows_6) (pv (d := (en (α := (Option (Int × (Option Int)))) rows_6)) rfl) pv_c)) (b_v (is_v (o := column_14) (pv (d := (en (α := (Option (Int × (Option Int)))) column_14)) rfl) pv_c))) (PV.px (a := (none : (Option ((Int × (Option Int)) × (Int × (Option Int)))))) pv_c) (PV.cast (α := ((Option (Int × (Option Int))) × (Option (Int × (Option Int))))) (β := (Option ((Int × (Option Int)) × (Int × (Option Int))))) (a := ((rows_6, column_14) : ((Option (Int × (Option Int))) × (Option (Int × (Option Int)))))) (tup_v (av_cons (x := (en (α := (Option (Int × (Option Int)))) rows_6)) (pv (d := (en (α := (Option (Int × (Option Int)))) rows_6)) rfl) (av_cons (x := (en (α := (Option (Int × (Option Int)))) column_14)) (pv (d := (en (α := (Option (Int × (Option Int)))) column_14)) rfl) av_nil))))) h16 (fun r17 M18 h19 => ⟨rfl, h19⟩))))))))
def t_law : Pr Bool :=
  (Pr.flow ((Pr.need (sm (4 : Int)) (Pr.ok (rngI 0 (Int.toNat (4 : Int))))).bind fun (l97 : List Int) => Pr.forF (ρ := Bool) l97 () (fun (x2 : Int) (s1 : Unit) =>
  ((t__law_grid_script (6 : Int)).bind fun (comman_11 : (List (T3 Str Int Int))) =>
  ((((t__law_grid_script (6 : Int)).bind fun (a20 : (List (T3 Str Int Int))) => ((cat comman_11 ([((T3.mk ("delete_columns" : Str) (4 : Int) (4 : Int)) : (T3 Str Int Int))] : (List (T3 Str Int Int)))).bind fun (a23 : (List (T3 Str Int Int))) => (Pr.ok ([comman_11, (cutD comman_11 none (some (-(1 : Int)))), a20, a23] : (List (List (T3 Str Int Int))))))).bind fun (a26 : (List (List (T3 Str Int Int)))) => (Pr.of a26)).bind fun (other_29 : (List (T3 Str Int Int))) =>
  ((t_run_grid comman_11).bind fun (a36 : Gr) => ((t_run_grid other_29).bind fun (a39 : Gr) => ((t_difference_box a36 a39).bind fun (told_44 : (Option ((Int × (Option Int)) × (Int × (Option Int))))) =>
  (((((t_Grid___eq__ a36 a39).bind fun c => Pr.ok (if false then !c else c)).bind fun (b48 : Bool) => (Pr.ok (!decide (told_44.isNone = b48)))).bind fun a => if a then Pr.ok true else ((t_difference_box a36 a36).bind fun (a51 : (Option ((Int × (Option Int)) × (Int × (Option Int))))) => (Pr.ok a51.isSome))).bind fun c => if c then (Pr.ok (FlT.rt false)) else
  (Pr.flow (σ := Unit) (ρ := Bool) (if told_44.isSome then ((((op1 (α := (Option ((Int × (Option Int)) × (Int × (Option Int))))) (γ := Bool) (gIsi "tuple") told_44).bind fun b => Pr.ok (!b)).bind fun a => if a then Pr.ok true else ((((cast (α := (Option ((Int × (Option Int)) × (Int × (Option Int))))) (β := ((Int × (Option Int)) × (Int × (Option Int)))) told_44).bind fun (a62 : ((Int × (Option Int)) × (Int × (Option Int)))) => Pr.ok (2 : Int)).bind fun (a63 : Int) => (Pr.ok (!decide (a63 = (2 : Int))))).bind fun a => if a then Pr.ok true else (((((cast (α := (Option ((Int × (Option Int)) × (Int × (Option Int))))) (β := ((Int × (Option Int)) × (Int × (Option Int)))) told_44).bind fun (u67 : ((Int × (Option Int)) × (Int × (Option Int)))) => Pr.ok [u67.1, u67.2]).bind fun (l71 : List (Int × (Option Int))) => Pr.need (l71.length ≤ 16777216) (Pr.lcM l71 (fun (x68 : (Int × (Option Int))) => (Pr.ok true)) (fun (x68 : (Int × (Option Int))) => (t_is_span x68)))).bind fun (a72 : (List Bool)) => (Pr.ok (a72.all id))).bind fun b => Pr.ok (!b)))).bind fun c => if c then (Pr.ok (FlT.rt false)) else
  ((((cast (α := (Option ((Int × (Option Int)) × (Int × (Option Int))))) (β := ((Int × (Option Int)) × (Int × (Option Int)))) told_44).bind fun (a81 : ((Int × (Option Int)) × (Int × (Option Int)))) => (t_carried_box a36 a81)).bind fun (a89 : (Option ((Int × (Option Int)) × (Int × (Option Int))))) => ((cast (α := (Option ((Int × (Option Int)) × (Int × (Option Int))))) (β := ((Int × (Option Int)) × (Int × (Option Int)))) told_44).bind fun (a86 : ((Int × (Option Int)) × (Int × (Option Int)))) => (t_carried_box a39 a86)).bind fun (b90 : (Option ((Int × (Option Int)) × (Int × (Option Int))))) => (Pr.ok (decide (a89 = b90)))).bind fun c => if c then (Pr.ok (FlT.rt false)) else
  (Pr.ok (FlT.nx ())))) else (Pr.ok (FlT.nx ()))) (fun (s57 : Unit) =>
  (Pr.ok (FlT.nx ()))) (fun (r96 : Bool) => (FlT.rt r96))))))))))) (fun (s1 : Unit) =>
  (Pr.ok true)) (fun (r99 : Bool) => r99))
theorem ft_law (ns : List Int) (hn : ns.length ≤ 63) : Sat (B_law [some (.scr ns), none, none, none, none, none, none, none, none] []) t_law (fun a fl M' => fl = .rt (en a) ∧ SB [] M') NX := by
  unfold B_law t_law
  exact seq_bag (env1 := [some (.scr ns), some (.ref 0), none, none, none, none, none, none, none]) (bag_ok ns hn) rfl rfl (fun M h0 => by
  have hM := h0
  exact (seq_fl (w := fun (r99 : Bool) => r99) (k := fun (s1 : Unit) => (Pr.ok true)) (for_fl (enc := D.int) (s := ()) (body := (fun (x2 : Int) (s1 : Unit) =>
  ((t__law_grid_script (6 : Int)).bind fun (comman_11 : (List (T3 Str Int Int))) =>
  ((((t__law_grid_script (6 : Int)).bind fun (a20 : (List (T3 Str Int Int))) => ((cat comman_11 ([((T3.mk ("delete_columns" : Str) (4 : Int) (4 : Int)) : (T3 Str Int Int))] : (List (T3 Str Int Int)))).bind fun (a23 : (List (T3 Str Int Int))) => (Pr.ok ([comman_11, (cutD comman_11 none (some (-(1 : Int)))), a20, a23] : (List (List (T3 Str Int Int))))))).bind fun (a26 : (List (List (T3 Str Int Int)))) => (Pr.of a26)).bind fun (other_29 : (List (T3 Str Int Int))) =>
  ((t_run_grid comman_11).bind fun (a36 : Gr) => ((t_run_grid other_29).bind fun (a39 : Gr) => ((t_difference_box a36 a39).bind fun (told_44 : (Option ((Int × (Option Int)) × (Int × (Option Int))))) =>
  (((((t_Grid___eq__ a36 a39).bind fun c => Pr.ok (if false then !c else c)).bind fun (b48 : Bool) => (Pr.ok (!decide (told_44.isNone = b48)))).bind fun a => if a then Pr.ok true else ((t_difference_box a36 a36).bind fun (a51 : (Option ((Int × (Option Int)) × (Int × (Option Int))))) => (Pr.ok a51.isSome))).bind fun c => if c then (Pr.ok (FlT.rt false)) else
  (Pr.flow (σ := Unit) (ρ := Bool) (if told_44.isSome then ((((op1 (α := (Option ((Int × (Option Int)) × (Int × (Option Int))))) (γ := Bool) (gIsi "tuple") told_44).bind fun b => Pr.ok (!b)).bind fun a => if a then Pr.ok true else ((((cast (α := (Option ((Int × (Option Int)) × (Int × (Option Int))))) (β := ((Int × (Option Int)) × (Int × (Option Int)))) told_44).bind fun (a62 : ((Int × (Option Int)) × (Int × (Option Int)))) => Pr.ok (2 : Int)).bind fun (a63 : Int) => (Pr.ok (!decide (a63 = (2 : Int))))).bind fun a => if a then Pr.ok true else (((((cast (α := (Option ((Int × (Option Int)) × (Int × (Option Int))))) (β := ((Int × (Option Int)) × (Int × (Option Int)))) told_44).bind fun (u67 : ((Int × (Option Int)) × (Int × (Option Int)))) => Pr.ok [u67.1, u67.2]).bind fun (l71 : List (Int × (Option Int))) => Pr.need (l71.length ≤ 16777216) (Pr.lcM l71 (fun (x68 : (Int × (Option Int))) => (Pr.ok true)) (fun (x68 : (Int × (Option Int))) => (t_is_span x68)))).bind fun (a72 : (List Bool)) => (Pr.ok (a72.all id))).bind fun b => Pr.ok (!b)))).bind fun c => if c then (Pr.ok (FlT.rt false)) else
  ((((cast (α := (Option ((Int × (Option Int)) × (Int × (Option Int))))) (β := ((Int × (Option Int)) × (Int × (Option Int)))) told_44).bind fun (a81 : ((Int × (Option Int)) × (Int × (Option Int)))) => (t_carried_box a36 a81)).bind fun (a89 : (Option ((Int × (Option Int)) × (Int × (Option Int))))) => ((cast (α := (Option ((Int × (Option Int)) × (Int × (Option Int))))) (β := ((Int × (Option Int)) × (Int × (Option Int)))) told_44).bind fun (a86 : ((Int × (Option Int)) × (Int × (Option Int)))) => (t_carried_box a39 a86)).bind fun (b90 : (Option ((Int × (Option Int)) × (Int × (Option Int))))) => (Pr.ok (decide (a89 = b90)))).bind fun c => if c then (Pr.ok (FlT.rt false)) else
  (Pr.ok (FlT.nx ())))) else (Pr.ok (FlT.nx ()))) (fun (s57 : Unit) =>
  (Pr.ok (FlT.nx ()))) (fun (r96 : Bool) => (FlT.rt r96))))))))))) (I := (fun (s1 : Unit) (env : En) (M : Sto) => ∃ o3 o4 o5 o6 o7 o8 : Option D, env = [some (.scr ns), some (.ref 0), o7, o3, o5, o6, o4, o8, none] ∧ (SB []) M)) (R := fun (r : Bool) d M => d = en r ∧ SB [] M) (rng1_v (n := (4 : Int)) pv_c) hM (fun M h => ⟨_, _, _, _, _, _, rfl, h⟩)
  (fun x2 s1 env M ⟨o3, o4, o5, o6, o7, o8, he, hM⟩ => by subst he; exact ⟨[some (.scr ns), some (.ref 0), some (en (α := Int) x2), o3, o5, o6, o4, o8, none], rfl, (seq_setx (env1 := fun (comman_11 : (List (T3 Str Int Int))) => [some (.scr ns), some (.ref 0), some (en (α := Int) x2), some (en (α := (List (T3 Str Int Int))) comman_11), o5, o6, o4, o8, none]) (fun _ => rfl) (fun M9 h10 => (arg_p (pv (d := .ref 0) rfl) h10 (arg_p pv_c h10 (arg_nil (callB (ft__law_grid_script (6 : Int)) h10))))) hM (fun (comman_11 : (List (T3 Str Int Int))) M12 h13 =>
  (seq_setx (env1 := fun (other_29 : (List (T3 Str Int Int))) => [some (.scr ns), some (.ref 0), some (en (α := Int) x2), some (en (α := (List (T3 Str Int Int))) comman_11), some (en (α := (List (T3 Str Int Int))) other_29), o6, o4, o8, none]) (fun _ => rfl) (fun M14 h15 => (arg_p (pv (d := .ref 0) rfl) h15 (arg_e (fun M18 h19 => (arg_p (pv (d := (en (α := (List (T3 Str Int Int))) comman_11)) rfl) h19 (arg_p (sl_L (l := comman_11) (lv_v (l := List.map (en (α := (T3 Str Int Int))) comman_11) (pv (d := (en (α := (List (T3 Str Int Int))) comman_11)) rfl)) ov_n (ov_s (i := (-(1 : Int))) (un_v (z := (en (α := Int) (-(1 : Int)))) pv_c (fun M _ => rfl)))) h19 (arg_e (fun M16 h17 => (arg_p (pv (d := .ref 0) rfl) h17 (arg_p pv_c h17 (arg_nil (callB (ft__law_grid_script (6 : Int)) h17))))) h19 (fun (a20 : (List (T3 Str Int Int))) M21 h22 => (arg_e (cat_l (a := comman_11) (b := ([((T3.mk ("delete_columns" : Str) (4 : Int) (4 : Int)) : (T3 Str Int Int))] : (List (T3 Str Int Int)))) (lv_v (l := List.map (en (α := (T3 Str Int Int))) comman_11) (pv (d := (en (α := (List (T3 Str Int Int))) comman_11)) rfl)) (lv_v (l := List.map (en (α := (T3 Str Int Int))) ([((T3.mk ("delete_columns" : Str) (4 : Int) (4 : Int)) : (T3 Str Int Int))] : (List (T3 Str Int Int)))) (lst_v (av_cons (x := (en (α := (T3 Str Int Int)) ((T3.mk ("delete_columns" : Str) (4 : Int) (4 : Int)) : (T3 Str Int Int)))) (tup_v (av_cons (x := (en (α := Str) ("delete_columns" : Str))) pv_c (av_cons (x := (en (α := Int) (4 : Int))) pv_c (av_cons (x := (en (α := Int) (4 : Int))) pv_c av_nil)))) av_nil)))) h22 (fun (a23 : (List (T3 Str Int Int))) M24 h25 => (arg_nil (seq_end (mk := D.lst) (a := ([comman_11, (cutD comman_11 none (some (-(1 : Int)))), a20, a23] : (List (List (T3 Str Int Int))))) rfl h25))))))))) h15 (fun (a26 : (List (List (T3 Str Int Int)))) M27 h28 => (arg_nil (callB (ft__law_of a26) h28)))))) h13 (fun (other_29 : (List (T3 Str Int Int))) M30 h31 =>
  (seq_par (arg_e (fun M32 h33 => (arg_p (pv (d := (en (α := (List (T3 Str Int Int))) comman_11)) rfl) h33 (arg_nil (callP (ft_run_grid comman_11) h33)))) h31 (fun (a36 : Gr) M37 h38 => (arg_e (fun M34 h35 => (arg_p (pv (d := (en (α := (List (T3 Str Int Int))) other_29)) rfl) h35 (arg_nil (callP (ft_run_grid other_29) h35)))) h38 (fun (a39 : Gr) M40 h41 => (arg_nil (par_end (env1 := [some (.scr ns), some (.ref 0), some (en (α := Int) x2), some (en (α := (List (T3 Str Int Int))) comman_11), some (en (α := (List (T3 Str Int Int))) other_29), o6, some (en (α := Gr) a36), some (en (α := Gr) a39), none]) rfl (seq_setx (env1 := fun (told_44 : (Option ((Int × (Option Int)) × (Int × (Option Int))))) => [some (.scr ns), some (.ref 0), some (en (α := Int) x2), some (en (α := (List (T3 Str Int Int))) comman_11), some (en (α := (List (T3 Str Int Int))) other_29), some (en (α := (Option ((Int × (Option Int)) × (Int × (Option Int))))) told_44), some (en (α := Gr) a36), some (en (α := Gr) a39), none]) (fun _ => rfl) (fun M42 h43 => (arg_p (pv (d := (en (α := Gr) a36)) rfl) h43 (arg_p (pv (d := (en (α := Gr) a39)) rfl) h43 (arg_nil (callP (ft_difference_box a36 a39) h43))))) h41 (fun (told_44 : (Option ((Int × (Option Int)) × (Int × (Option Int))))) M45 h46 =>
  (seq_ifx (or_tx (b_x (bin_pe (γ := Bool) (is_v (o := told_44) (pv (d := (en (α := (Option ((Int × (Option Int)) × (Int × (Option Int))))) told_44)) rfl) pv_c) (eqG_pp (n := false) (ft_Grid___eq__ a36 a39) (pv (d := (en (α := Gr) a36)) rfl) (pv (d := (en (α := Gr) a39)) rfl)) (fun b48 => (gs_ok (c := (!decide (told_44.isNone = b48))) fun M _ => gneB _ _ M)))) (b_x (bin_ep (γ := Bool) (fun M49 h50 => (arg_p (pv (d := (en (α := Gr) a36)) rfl) h50 (arg_p (pv (d := (en (α := Gr) a36)) rfl) h50 (arg_nil (callP (ft_difference_box a36 a36) h50))))) pv_c (fun a51 => (gs_isnt (o := a51)))))) h46 (fun M53 h54 => (seq_ret (x := (en (α := Bool) false)) pv_c h54 ⟨_, rfl, ⟨rfl, h54⟩⟩))
  (fun M55 h56 => (seq_skip (last_of (seq_fl (σ := Unit) (ρ := Bool) (I := (fun (s57 : Unit) (env : En) (M : Sto) => env = [some (.scr ns), some (.ref 0), some (en (α := Int) x2), some (en (α := (List (T3 Str Int Int))) comman_11), some (en (α := (List (T3 Str Int Int))) other_29), some (en (α := (Option ((Int × (Option Int)) × (Int × (Option Int))))) told_44), some (en (α := Gr) a36), some (en (α := Gr) a39), none] ∧ (SB []) M)) (R := fun (r : Bool) d M => d = en r ∧ SB [] M) (w := fun (r96 : Bool) => (FlT.rt r96)) (k := fun (s57 : Unit) => (Pr.ok (FlT.nx ()))) (if_nx (b_v (isnt_v (o := told_44) (pv (d := (en (α := (Option ((Int × (Option Int)) × (Int × (Option Int))))) told_44)) rfl) pv_c)) h56 (seq_ifx (or_tx (not_tx (tru_b (un_p (γ := Bool) (pv (d := (en (α := (Option ((Int × (Option Int)) × (Int × (Option Int))))) told_44)) rfl) (gu_op1 (α := (Option ((Int × (Option Int)) × (Int × (Option Int))))) (a := told_44))))) (or_tx (b_x (bin_ep (γ := Bool) (fun M60 h61 => arg_e (PV.cast (α := (Option ((Int × (Option Int)) × (Int × (Option Int))))) (β := ((Int × (Option Int)) × (Int × (Option Int)))) (a := told_44) (pv (d := (en (α := (Option ((Int × (Option Int)) × (Int × (Option Int))))) told_44)) rfl)) h61 (fun (a62 : ((Int × (Option Int)) × (Int × (Option Int)))) M9 h9 => arg_nil (callB_end (c := (2 : Int)) h9 (fun _ _ => rfl)))) pv_c (fun a63 => (gs_ok (c := (!decide (a63 = (2 : Int)))) fun M _ => gneI _ _ M)))) (not_tx (tru_b (fun M65 h66 => (arg_e (lc_x (enc := (en (α := (Int × (Option Int))))) (c := fun (x68 : (Int × (Option Int))) => (Pr.ok true)) (g := fun (x68 : (Int × (Option Int))) => (t_is_span x68)) (iter_pair (PV.cast (α := (Option ((Int × (Option Int)) × (Int × (Option Int))))) (β := ((Int × (Option Int)) × (Int × (Option Int)))) (a := told_44) (pv (d := (en (α := (Option ((Int × (Option Int)) × (Int × (Option Int))))) told_44)) rfl))) (fun x68 => ⟨[some (.scr ns), some (.ref 0), some (en (α := Int) x2), some (en (α := (List (T3 Str Int Int))) comman_11), some (en (α := (List (T3 Str Int Int))) other_29), some (en (α := (Option ((Int × (Option Int)) × (Int × (Option Int))))) told_44), some (en (α := Gr) a36), some (en (α := Gr) a39), some (en (α := (Int × (Option Int))) x68)], rfl, (TV.tx yes_tv), (fun M69 h70 => (arg_p (pv (d := (en (α := (Int × (Option Int))) x68)) rfl) h70 (arg_nil (callP (ft_is_span x68) h70))))⟩)) h66 (fun (a72 : (List Bool)) M73 h74 => (arg_nil (callB_end (c := a72.all id) h74 (fun M _ => gAll_v a72 M)))))))))) h56 (fun M75 h76 => (seq_ret (x := (en (α := Bool) false)) pv_c h76 ⟨_, rfl, ⟨rfl, h76⟩⟩))
  (fun M77 h78 => (seq_skip (last_of (seq_ifx (b_x (bin_ee (γ := Bool) (fun M79 h80 => (arg_p (pv (d := (en (α := Gr) a36)) rfl) h80 (arg_e (PV.cast (α := (Option ((Int × (Option Int)) × (Int × (Option Int))))) (β := ((Int × (Option Int)) × (Int × (Option Int)))) (a := told_44) (pv (d := (en (α := (Option ((Int × (Option Int)) × (Int × (Option Int))))) told_44)) rfl)) h80 (fun (a81 : ((Int × (Option Int)) × (Int × (Option Int)))) M82 h83 => (arg_nil (callP (ft_carried_box a36 a81) h83)))))) (fun M84 h85 => (arg_p (pv (d := (en (α := Gr) a39)) rfl) h85 (arg_e (PV.cast (α := (Option ((Int × (Option Int)) × (Int × (Option Int))))) (β := ((Int × (Option Int)) × (Int × (Option Int)))) (a := told_44) (pv (d := (en (α := (Option ((Int × (Option Int)) × (Int × (Option Int))))) told_44)) rfl)) h85 (fun (a86 : ((Int × (Option Int)) × (Int × (Option Int)))) M87 h88 => (arg_nil (callP (ft_carried_box a39 a86) h88)))))) (fun a89 b90 => (gs_ok (c := (decide (a89 = b90))) fun M _ => geqT (α := (Option ((Int × (Option Int)) × (Int × (Option Int))))) a89 b90 M)))) h78 (fun M91 h92 => (seq_ret (x := (en (α := Bool) false)) pv_c h92 ⟨_, rfl, ⟨rfl, h92⟩⟩))
  (fun M93 h94 => (seq_skip (skip_end ⟨_, rfl, rfl, h94⟩)))))))) (skip_end ⟨_, rfl, rfl, h56⟩))
  (fun s57 env M ⟨he, h95⟩ => by subst he; exact (skip_end ⟨_, Or.inl rfl, _, _, _, _, _, _, rfl, h95⟩))
  (fun r d M h => ⟨_, rfl, h⟩)))))))))))))))))))⟩))
  (fun s1 env M ⟨o3, o4, o5, o6, o7, o8, he, h98⟩ => by subst he; exact (last_of (seq_ret (x := (en (α := Bool) true)) pv_c h98 ⟨rfl, h98⟩)))
  (fun r d M h => ⟨congrArg Fl.rt h.1, h.2⟩)))
theorem law_of (ht : t_law (fun b => b = true) (fun _ => False)) (ns : List Int) (hn : ns.length ≤ 63) : ∃ M, F_law [.scr ns] [] = .ok (.bl true) M := run_law (env0 := [some (.scr ns), none, none, none, none, none, none, none, none]) rfl (ft_law ns hn) ht
end
section
set_option Elab.async false
set_option linter.all false
set_option maxRecDepth 100000
set_option maxHeartbeats 1000000
def labP : Pc → Int → Rw
  | .top _, _ => none
  | .old a _, k => some (a + k, a + k)
  | .opn a, k => some (a + k, a + k)
  | .new a b _, _ => some (a, b)
def lab : List Pc → Int → Rw
  | [], _ => none
  | p :: r, k => if isOpn p = true ∨ k < rc p then labP p k else lab r (k - rc p)
def tt : List Pc → Int
  | [] => 0
  | p :: r => rc p + tt r
def Cl (l : List Pc) : Prop := ∀ p ∈ l, isOpn p = false ∧ pok p
theorem Cl.nil : Cl [] := fun _ h => by cases h
theorem Cl.cons {p : Pc} {l : List Pc} (h : Cl (p :: l)) : (isOpn p = false ∧ pok p) ∧ Cl l := ⟨h p (by simp), fun q hq => h q (by simp [hq])⟩
theorem Cl.mk {p : Pc} {l : List Pc} (h1 : isOpn p = false) (h2 : pok p) (h : Cl l) : Cl (p :: l) := fun q hq => by
  rcases List.mem_cons.mp hq with rfl | z
  · exact ⟨h1, h2⟩
  · exact h q z
theorem Cl.app {l m : List Pc} (h : Cl l) (h' : Cl m) : Cl (l ++ m) := fun q hq => by
  rcases List.mem_append.mp hq with z | z
  · exact h q z
  · exact h' q z
theorem Cl.left {l m : List Pc} (h : Cl (l ++ m)) : Cl l := fun q hq => h q (List.mem_append_left _ hq)
theorem Cl.right {l m : List Pc} (h : Cl (l ++ m)) : Cl m := fun q hq => h q (List.mem_append_right _ hq)
theorem rc_pos {p : Pc} (h : pok p) (ho : isOpn p = false) : 1 ≤ rc p := by
  cases p <;> simp only [pok, rc, isOpn] at *
  · exact h
  · omega
  · cases ho
  · omega
theorem tt_nonneg : ∀ {l : List Pc}, Cl l → 0 ≤ tt l
  | [], _ => Int.le_refl _
  | p :: l, h => by
    have h1 := rc_pos h.cons.1.2 h.cons.1.1
    have h2 := tt_nonneg h.cons.2
    simp only [tt]
    omega
theorem tt_app : ∀ (l m : List Pc), tt (l ++ m) = tt l + tt m
  | [], m => by simp [tt]
  | p :: l, m => by simp only [List.cons_append, tt, tt_app l m]; omega
theorem lab_app : ∀ (m r : List Pc) (k : Int), Cl m → 0 ≤ k → lab (m ++ r) k = if k < tt m then lab m k else lab r (k - tt m)
  | [], r, k, _, hk => by
    rw [if_neg (show ¬ k < tt [] by simp only [tt]; omega), List.nil_append]
    congr 1
    simp only [tt]
    omega
  | p :: m, r, k, h, hk => by
    have h1 := rc_pos h.cons.1.2 h.cons.1.1
    have h2 := tt_nonneg h.cons.2
    simp only [List.cons_append, lab, h.cons.1.1, Bool.false_eq_true, false_or, tt]
    by_cases hc : k < rc p
    · rw [if_pos hc, if_pos (by omega), if_pos hc]
    · rw [if_neg hc, if_neg hc, lab_app m r (k - rc p) h.cons.2 (by omega)]
      by_cases hd : k - rc p < tt m
      · rw [if_pos hd, if_pos (by omega)]
      · rw [if_neg hd, if_neg (by omega)]
        congr 1
        omega
theorem lab_opn (t k : Int) : lab [.opn t] k = some (t + k, t + k) := rfl
theorem lab_jn {p q r : Pc} (hp : pok p) (hq : pok q) (h : jn p q = some r) (rest : List Pc) (k : Int) (hk : 0 ≤ k) : lab (r :: rest) k = lab (p :: q :: rest) k := by
  cases p <;> cases q <;> simp only [jn] at h <;> (try (cases h; done))
  · rename_i n m
    cases h
    simp only [pok] at hp hq
    simp only [lab, isOpn, Bool.false_eq_true, false_or, rc, labP]
    by_cases h1 : k < n
    · rw [if_pos h1, if_pos (by omega)]
    · rw [if_neg h1]
      by_cases h2 : k - n < m
      · rw [if_pos h2, if_pos (by omega)]
      · rw [if_neg h2, if_neg (by omega)]
        congr 1
        omega
  · rename_i a b c d
    split at h
    · cases h
      simp only [pok] at hp hq
      simp only [lab, isOpn, Bool.false_eq_true, false_or, rc, labP]
      by_cases h1 : k < b - a + 1
      · rw [if_pos h1, if_pos (by omega)]
      · rw [if_neg h1]
        by_cases h2 : k - (b - a + 1) < d - c + 1
        · rw [if_pos h2, if_pos (by omega)]
          congr 2 <;> omega
        · rw [if_neg h2, if_neg (by omega)]
          congr 1
          omega
    · cases h
  · rename_i a b c
    split at h
    · cases h
      simp only [pok] at hp hq
      simp only [lab, isOpn, Bool.false_eq_true, false_or, rc, labP, true_or, if_true]
      by_cases h1 : k < b - a + 1
      · rw [if_pos h1]
      · rw [if_neg h1]
        congr 2 <;> omega
    · cases h
  · rename_i a b n c d m
    split at h
    · rename_i e
      obtain ⟨rfl, rfl⟩ := e
      cases h
      simp only [pok] at hp hq
      simp only [lab, isOpn, Bool.false_eq_true, false_or, rc, labP]
      by_cases h1 : k < n
      · rw [if_pos h1, if_pos (by omega)]
      · rw [if_neg h1]
        by_cases h2 : k - n < m
        · rw [if_pos h2, if_pos (by omega)]
        · rw [if_neg h2, if_neg (by omega)]
          congr 1
          omega
    · cases h
theorem jn_pok' {p q r : Pc} (hp : pok p) (hq : pok q) (h : jn p q = some r) : pok r := by
  cases p <;> cases q <;> simp only [jn] at h <;> (try (cases h; done))
  · cases h; simp only [pok] at *; omega
  · split at h
    · cases h; simp only [pok] at *; omega
    · cases h
  · split at h
    · cases h; simp only [pok] at *; omega
    · cases h
  · split at h
    · cases h; simp only [pok] at *; omega
    · cases h
theorem last_of' {acc : List Pc} {l : Pc} (h : acc.getLast? = some l) : acc = acc.dropLast ++ [l] := by
  have hne : acc ≠ [] := fun z => by rw [z] at h; cases h
  rw [List.getLast?_eq_some_getLast hne] at h
  cases h
  exact (List.dropLast_concat_getLast hne).symm
theorem lab_nfS (acc rest : List Pc) (p : Pc) (ha : Cl acc) (hp : pok p) (k : Int) (hk : 0 ≤ k) : lab (nfS acc p ++ rest) k = lab (acc ++ p :: rest) k := by
  unfold nfS
  cases hl : acc.getLast? with
  | none => simp
  | some l =>
    cases hj : jn l p with
    | none => simp [hj]
    | some r =>
      simp only [hj]
      have e := last_of' hl
      generalize acc.dropLast = a at e
      subst e
      have hla := ha.right l (by simp)
      simp only [List.append_assoc, List.singleton_append]
      rw [lab_app _ _ _ ha.left hk, lab_app _ _ _ ha.left hk]
      by_cases h1 : k < tt a
      · rw [if_pos h1, if_pos h1]
      · rw [if_neg h1, if_neg h1, lab_jn hla.2 hp hj rest _ (by omega)]
theorem Cl.nfS {acc : List Pc} {p : Pc} (ha : Cl acc) (hp : pok p) (ho : isOpn p = false) : Cl (T.nfS acc p) := by
  unfold T.nfS
  cases hl : acc.getLast? with
  | none => exact ha.app (.mk ho hp .nil)
  | some l =>
    cases hj : jn l p with
    | none => simp only [hj]; exact ha.app (.mk ho hp .nil)
    | some r =>
      simp only [hj]
      have e := last_of' hl
      generalize acc.dropLast = a at e
      subst e
      have hla := ha.right l (by simp)
      exact ha.left.app (.mk (by rw [jn_opn hj]; exact ho) (jn_pok' hla.2 hp hj) .nil)
theorem lab_fold : ∀ (m acc rest : List Pc) (k : Int), Cl acc → Cl m → 0 ≤ k → lab (m.foldl nfS acc ++ rest) k = lab (acc ++ m ++ rest) k ∧ Cl (m.foldl nfS acc)
  | [], acc, rest, k, ha, _, hk => ⟨by simp, ha⟩
  | p :: m, acc, rest, k, ha, hm, hk => by
    have h1 := hm.cons
    have ih := lab_fold m (nfS acc p) rest k (ha.nfS h1.1.2 h1.1.1) h1.2 hk
    refine ⟨?_, ih.2⟩
    show lab (m.foldl nfS (nfS acc p) ++ rest) k = _
    rw [ih.1, List.append_assoc, lab_nfS acc (m ++ rest) p ha h1.1.2 k hk]
    simp
/-- a layout: pieces with an end, and an open one -/
structure Ly (l m : List Pc) (t : Int) : Prop where
  eq : l = m ++ [.opn t]
  cl : Cl m
  t0 : 0 ≤ t
theorem jn_opn_old {p : Pc} {t : Int} {r : Pc} (h : jn p (.opn t) = some r) : ∃ a b, p = .old a b ∧ r = .opn a ∧ b + 1 = t := by
  cases p <;> simp only [jn] at h <;> (try (cases h; done))
  split at h
  · cases h; exact ⟨_, _, rfl, rfl, by assumption⟩
  · cases h
theorem nf_Ly {l m : List Pc} {t : Int} (h : Ly l m t) : ∃ m' t', Ly (nf l) m' t' ∧ ∀ k, 0 ≤ k → lab (nf l) k = lab l k := by
  have e : nf l = nfS (nf m) (.opn t) := by rw [h.eq]; unfold nf; rw [List.foldl_append]; rfl
  have hf := fun rest k hk => lab_fold m [] rest k .nil h.cl hk
  have hc : Cl (nf m) := (hf [] 0 (Int.le_refl _)).2
  have hp : pok (.opn t) := h.t0
  have hl : ∀ k, 0 ≤ k → lab (nf l) k = lab l k := fun k hk => by
    rw [e]
    have h1 := lab_nfS (nf m) [] (.opn t) hc hp k hk
    rw [List.append_nil] at h1
    rw [h1, show nf m ++ [Pc.opn t] = m.foldl nfS [] ++ [.opn t] from rfl, (hf [.opn t] k hk).1, h.eq]
    simp
  cases hg : (nf m).getLast? with
  | none =>
    refine ⟨nf m, t, ⟨?_, hc, h.t0⟩, hl⟩
    rw [e]
    simp only [nfS, hg]
  | some q =>
    cases hj : jn q (.opn t) with
    | none =>
      refine ⟨nf m, t, ⟨?_, hc, h.t0⟩, hl⟩
      rw [e]
      simp only [nfS, hg, hj]
    | some r =>
      obtain ⟨a, b, rfl, rfl, _⟩ := jn_opn_old hj
      have e2 := last_of' hg
      have hq := hc (.old a b) (by rw [e2]; simp)
      have h0 : 0 ≤ a := hq.2.1
      refine ⟨(nf m).dropLast, a, ⟨?_, ?_, h0⟩, hl⟩
      · rw [e]
        simp only [nfS, hg, hj]
      · intro p hp
        exact hc p (List.dropLast_subset _ hp)
end
section
set_option Elab.async false
set_option linter.all false
set_option maxRecDepth 100000
set_option maxHeartbeats 1000000
theorem mf_of {p q : Pc} (hp : pok p) (ho : isOpn p = false) (hq : pok q) (h : pr (labP p (rc p - 1)) (labP q 0)) : mf p q = true := by
  cases p <;> cases q <;> simp only [labP, pr, mf, pok, isOpn, rc, Bool.and_eq_true, decide_eq_true_eq] at * <;> first | (cases ho; done) | omega | (have := h.2.2 trivial trivial; omega)
theorem pr_mf' {p q : Pc} (hp : pok p) (hq : pok q) (h : mf p q = true) : pr (labP p (rc p - 1)) (labP q 0) := by
  cases p <;> cases q <;> simp only [mf] at h <;> first | (cases h; done) | (simp only [labP, pr]; done) | (simp only [labP, pr, pok, rc, Bool.and_eq_true, decide_eq_true_eq] at *; omega)
theorem pr_in {p : Pc} (hp : pok p) (k : Int) : pr (labP p k) (labP p (k + 1)) := by
  cases p <;> simp only [labP, pr, pok] at * <;> omega
theorem okR_labP {p : Pc} (hp : pok p) (k : Int) (hk : 0 ≤ k) : okR (labP p k) := by
  cases p <;> simp only [labP, okR, pok] at * <;> omega
/-- rows in order -/
def Ord (f : Int → Rw) : Prop := ∀ k, 0 ≤ k → pr (f k) (f (k + 1)) ∧ okR (f k)
theorem lab_head {p : Pc} (r : List Pc) (hp : isOpn p = true ∨ 0 < rc p) : lab (p :: r) 0 = labP p 0 := by
  simp only [lab]
  rw [if_pos hp]
theorem lab_tail {p : Pc} (r : List Pc) (ho : isOpn p = false) (k : Int) (hk : 0 ≤ k) : lab (p :: r) (k + rc p) = lab r k := by
  simp only [lab, ho, Bool.false_eq_true, false_or]
  rw [if_neg (by omega)]
  congr 1
  omega
theorem lab_lastrow {p : Pc} (r : List Pc) (ho : isOpn p = false) (hp : pok p) : lab (p :: r) (rc p - 1) = labP p (rc p - 1) := by
  simp only [lab, ho, Bool.false_eq_true, false_or]
  rw [if_pos (by omega)]
theorem chainO : ∀ (m : List Pc) (p : Pc) (t : Int), isOpn p = false → pok p → Cl m → 0 ≤ t → Ord (lab (p :: (m ++ [.opn t]))) → chain p (m ++ [.opn t])
  | [], p, t, ho, hp, _, ht, h => by
    have h1 := (h (rc p - 1) (by have := rc_pos hp ho; omega)).1
    rw [show rc p - 1 + 1 = 0 + rc p by omega, lab_tail _ ho 0 (by omega), lab_lastrow _ ho hp] at h1
    exact ⟨ht, mf_of hp ho ht h1, trivial⟩
  | q :: m, p, t, ho, hp, hc, ht, h => by
    have hq := hc.cons
    have h1 := (h (rc p - 1) (by have := rc_pos hp ho; omega)).1
    rw [show rc p - 1 + 1 = 0 + rc p by omega, lab_tail _ ho 0 (by omega), lab_lastrow _ ho hp] at h1
    have hrq := rc_pos hq.1.2 hq.1.1
    rw [List.cons_append, lab_head _ (Or.inr (by omega))] at h1
    refine ⟨hq.1.2, mf_of hp ho hq.1.2 h1, chainO m q t hq.1.1 hq.1.2 hq.2 ht fun k hk => ?_⟩
    have hr := rc_pos hp ho
    have h2 := h (k + rc p) (by omega)
    rw [lab_tail _ ho k hk, show k + rc p + 1 = (k + 1) + rc p by omega, lab_tail _ ho (k + 1) (by omega)] at h2
    exact h2
theorem lastOf_app : ∀ (m : List Pc) (p q : Pc), lastOf p (m ++ [q]) = q
  | [], _, _ => rfl
  | x :: m, _, q => lastOf_app m x q
theorem validO {l m : List Pc} {t : Int} (h : Ly l m t) (ho : Ord (lab l)) : valid l := by
  obtain ⟨rfl, hc, ht⟩ := h
  cases m with
  | nil => exact ⟨ht, trivial, rfl⟩
  | cons p m =>
    refine ⟨hc.cons.1.2, chainO m p t hc.cons.1.1 hc.cons.1.2 hc.cons.2 ht ho, ?_⟩
    show isOpn (lastOf p (m ++ [.opn t])) = true
    rw [lastOf_app]; rfl
theorem chain_rows : ∀ (r : List Pc) (p : Pc), pok p → chain p r → isOpn (lastOf p r) = true → (∃ m t, Ly (p :: r) m t) ∧ Ord (lab (p :: r))
  | [], p, hp, _, hl => by
    obtain ⟨t, rfl⟩ : ∃ t, p = .opn t := by cases p <;> simp only [lastOf, isOpn] at hl <;> first | (cases hl; done) | exact ⟨_, rfl⟩
    refine ⟨⟨[], t, rfl, .nil, hp⟩, fun k hk => ?_⟩
    exact ⟨pr_in (p := .opn t) hp k, okR_labP (p := .opn t) hp k hk⟩
  | q :: r, p, hp, hc, hl => by
    obtain ⟨hq, hm, hc'⟩ := hc
    obtain ⟨⟨m, t, e, hcm, ht⟩, ho⟩ := chain_rows r q hq hc' hl
    have hop : isOpn p = false := by
      cases p <;> first | rfl | (simp only [mf] at hm; cases hm)
    have hr := rc_pos hp hop
    refine ⟨⟨p :: m, t, by rw [e]; rfl, .mk hop hp hcm, ht⟩, fun k hk => ?_⟩
    by_cases h1 : k + 1 < rc p
    · have e1 : ∀ j, j < rc p → lab (p :: q :: r) j = labP p j := fun j hj => by
        rw [show lab (p :: q :: r) j = if isOpn p = true ∨ j < rc p then labP p j else lab (q :: r) (j - rc p) from rfl, if_pos (Or.inr hj)]
      rw [e1 k (by omega), e1 (k + 1) h1]
      exact ⟨pr_in hp k, okR_labP hp k hk⟩
    · by_cases h2 : k < rc p
      · have e0 : k = rc p - 1 := by omega
        subst e0
        rw [lab_lastrow _ hop hp, show rc p - 1 + 1 = 0 + rc p by omega, lab_tail _ hop 0 (by omega)]
        have hh : isOpn q = true ∨ 0 < rc q := by
          cases hq' : isOpn q with
          | true => exact .inl rfl
          | false => exact .inr (by have := rc_pos hq hq'; omega)
        rw [lab_head _ hh]
        exact ⟨pr_mf' hp hq hm, okR_labP hp _ hk⟩
      · have h3 := ho (k - rc p) (by omega)
        have e2 := lab_tail (q :: r) hop (k - rc p) (by omega)
        have e3 := lab_tail (q :: r) hop (k - rc p + 1) (by omega)
        rw [show k - rc p + rc p = k by omega] at e2
        rw [show k - rc p + 1 + rc p = k + 1 by omega] at e3
        rw [e2, e3]
        exact h3
theorem rows_of {l : List Pc} (h : valid l) : (∃ m t, Ly l m t) ∧ Ord (lab l) := by
  cases l with
  | nil => exact h.elim
  | cons p r => exact chain_rows r p h.1 h.2.1 h.2.2
theorem Ord.lt {f : Int → Rw} (h : Ord f) {i : Int} (hi : 0 ≤ i) : ∀ n : Nat, pr (f i) (f (i + 1 + n))
  | 0 => by simpa using (h i hi).1
  | n + 1 => by
    have h1 := Ord.lt h hi n
    have h2 := h (i + 1 + n) (by omega)
    have e : i + 1 + ((n + 1 : Nat) : Int) = i + 1 + n + 1 := by omega
    rw [e]
    exact pr_trans h2.2 h1 h2.1
theorem Ord.pr {f : Int → Rw} (h : Ord f) {i j : Int} (hi : 0 ≤ i) (hj : i < j) : Ip.pr (f i) (f j) := by
  have := h.lt hi (j - i - 1).toNat
  rw [show i + 1 + (((j - i - 1).toNat : Nat) : Int) = j by omega] at this
  exact this
end
section
set_option Elab.async false
set_option linter.all false
set_option maxRecDepth 100000
set_option maxHeartbeats 1000000
theorem need_ok {α : Type} {c : Prop} (h : c) (p : Pr α) : Pr.need c p = p := by
  funext Q E
  exact propext ⟨fun z => z.2, fun z => ⟨h, z⟩⟩
theorem forM_in {α σ : Type} (body : α → σ → Pr σ) (L : List α) (I : List α → σ → Prop) (hb : ∀ x done rest s, done ++ x :: rest = L → I done s → ∃ s', body x s = Pr.ok s' ∧ I (done ++ [x]) s') :
    ∀ (l : List α) (done : List α) (s : σ), done ++ l = L → I done s → ∃ s', Pr.forM l s body = Pr.ok s' ∧ I L s'
  | [], done, s, e, h => ⟨s, rfl, by rw [← e]; simpa using h⟩
  | x :: l, done, s, e, h => by
    obtain ⟨s1, e1, h1⟩ := hb x done l s e h
    obtain ⟨s2, e2, h2⟩ := forM_in body L I hb l (done ++ [x]) s1 (by rw [← e]; simp) h1
    refine ⟨s2, ?_, h2⟩
    show (body x s).bind _ = _
    rw [e1, Pr.ok_bind, e2]
theorem lim_ok {α : Type} {l : List α} (h : l.length < 20000000) : lim l = Pr.ok l := need_ok h _
theorem nfl (l : List Pc) : (nf l).length ≤ l.length := by
  have : ∀ (l acc : List Pc), (l.foldl nfS acc).length ≤ acc.length + l.length := by
    intro l
    induction l with
    | nil => intro acc; simp
    | cons p l ih =>
      intro acc
      have h1 := ih (nfS acc p)
      have h2 := nfS_len acc p
      simp only [List.foldl_cons, List.length_cons]
      omega
  show (l.foldl nfS []).length ≤ l.length
  have h := this l []
  simp only [List.length_nil, Nat.zero_add] at h
  exact h
theorem Ly.pok {l m : List Pc} {t : Int} (h : Ly l m t) {p : Pc} (hp : p ∈ l) : T.pok p := by
  rw [h.eq] at hp
  rcases List.mem_append.mp hp with z | z
  · exact (h.cl p z).2
  · rw [List.mem_singleton.mp z]; exact h.t0
theorem Ly.len {l m : List Pc} {t : Int} (h : Ly l m t) : l.length = m.length + 1 := by rw [h.eq]; simp
theorem valid_eq {f g : Int → Rw} (h : Ord f) (e : ∀ k, 0 ≤ k → g k = f k) : Ord g := fun k hk => by
  rw [e k hk, e (k + 1) (by omega)]
  exact h k hk
theorem cat_ok {α : Type} {a b : List α} (h : a.length + b.length ≤ 16777216) : cat a b = Pr.ok (a ++ b) := need_ok h _
theorem Layout_t {q : Sq Pc} (hv : valid q.l) (hl : q.l.length ≤ 60) : t_Layout q = Pr.ok (mkLay (nf q.l)) ∧ valid (nf q.l) ∧ (∀ k, 0 ≤ k → lab (nf q.l) k = lab q.l k) ∧ (nf q.l).length ≤ q.l.length := by
  obtain ⟨⟨m, t, hm⟩, ho⟩ := rows_of hv
  obtain ⟨m', t', hm', hl'⟩ := nf_Ly hm
  have h2 := nfl q.l
  refine ⟨?_, validO hm' (valid_eq ho hl'), hl', h2⟩
  funext Q E
  refine propext ⟨fun z => z.2.2.2.2, fun z => ⟨hv, fun p hp => ?_, by omega, by omega, z⟩⟩
  rw [hm'.eq, List.dropLast_concat] at hp
  exact (hm'.cl p hp).1
/-- a layout whose rows are f -/
structure IsL (L : Lay) (f : Int → Rw) : Prop where
  st : L = mkLay L.parts
  ok : valid L.parts
  rows : ∀ k, 0 ≤ k → lab L.parts k = f k
theorem forF_rt {α σ ρ : Type} {b : α → σ → Pr (FlT σ ρ)} {x : α} {s : σ} {r : ρ} (xs : List α) (h : b x s = Pr.ok (.rt r)) : Pr.forF (x :: xs) s b = Pr.ok (.rt r) := by
  show (b x s).bind _ = _
  rw [h]
  rfl
theorem forF_nx {α σ ρ : Type} {b : α → σ → Pr (FlT σ ρ)} {x : α} {s s' : σ} (xs : List α) (h : b x s = Pr.ok (.nx s')) : Pr.forF (x :: xs) s b = Pr.forF xs s' b := by
  show (b x s).bind _ = _
  rw [h]
  rfl
end
section
set_option Elab.async false
set_option linter.all false
set_option maxRecDepth 100000
set_option maxHeartbeats 1000000
theorem row_count_t {p : Pc} (h : isOpn p = false) : t_row_count p = Pr.ok (rc p) := by
  cases p <;> simp only [isOpn] at h <;> (try (cases h; done))
  all_goals simp only [t_row_count, Pc.isOld, Pc.f2, Pc.f1, Pc.fl, rc, Pr.ok_bind, cast_some, if_true, Bool.false_eq_true, if_false]
theorem label_in_t (p : Pc) (k : Int) : t_label_in p k = Pr.ok (labP p k) := by
  cases p <;> simp only [t_label_in, Pc.isTop, Pc.isOld, Pc.f1, Pc.f2, labP, Pr.ok_bind, if_true, Bool.false_eq_true, if_false]
  rename_i a b n
  exact cast_ok rfl
end
section
set_option Elab.async false
set_option linter.all false
set_option maxRecDepth 100000
set_option maxHeartbeats 1000000
theorem sts_loop (body : Pc → List Int → Pr (List Int)) (hb : ∀ p acc s, isOpn p = false → acc.length < 1000000 → body p (acc ++ [s]) = Pr.ok (acc ++ [s] ++ [s + rc p])) :
    ∀ (m : List Pc) (acc : List Int) (s : Int), Cl m → acc.length + m.length < 1000000 → Pr.forM m (acc ++ [s]) body = Pr.ok (acc ++ stsF s m)
  | [], acc, s, _, _ => rfl
  | p :: m, acc, s, hc, hl => by
    simp only [List.length_cons] at hl
    show (body p (acc ++ [s])).bind _ = _
    rw [hb p acc s hc.cons.1.1 (by omega), Pr.ok_bind, sts_loop body hb m (acc ++ [s]) (s + rc p) hc.cons.2 (by simp; omega)]
    simp [stsF]
theorem cut_drop {α : Type} (l : List α) (x : α) : cutD (l ++ [x]) none (some (-1)) = l := by
  unfold cutD
  have h1 : HT.sIx (l ++ [x]).length 0 none = 0 := rfl
  have h2 : HT.sIx (l ++ [x]).length (l ++ [x]).length (some (-1)) = l.length := by
    unfold HT.sIx
    simp
    omega
  rw [h1, h2]
  simp
theorem starts_of_t {q : Sq Pc} {m : List Pc} {t : Int} (h : Ly q.l m t) (hl : m.length < 900000) : t_starts_of q = Pr.ok (stsF 0 m) := by
  unfold t_starts_of lim
  have e : (Sq.cut q none (some (-1))).l = m := by
    show cutD q.l none (some (-1)) = m
    rw [h.eq, cut_drop]
  rw [e]
  have : (Pr.need (m.length < 20000000) (Pr.ok m) : Pr (List Pc)) = Pr.ok m := by
    funext Q E
    exact propext ⟨fun z => z.2, fun z => ⟨by omega, z⟩⟩
  rw [this, Pr.ok_bind]
  have hb := sts_loop (fun (x5 : Pc) (s4 : List Int) => (((idx s4 (-(1 : Int))).bind fun (a11 : Int) => (t_row_count x5).bind fun (b12 : Int) => (Pr.ok (a11 + b12))).bind fun (a13 : Int) => Pr.need (s4.length < 16777216) (Pr.ok (s4 ++ [a13]))))
    (fun p acc s ho hl => by
      rw [show (-(1 : Int)) = -1 from rfl, idx_last, Pr.ok_bind, row_count_t ho, Pr.ok_bind, Pr.ok_bind]
      funext Q E
      exact propext ⟨fun z => z.2, fun z => ⟨by simp; omega, z⟩⟩) m [] 0 h.cl (by simp; omega)
  exact (congrArg (fun x => Pr.bind x _) hb).trans rfl
end
section
set_option Elab.async false
set_option linter.all false
set_option maxRecDepth 100000
set_option maxHeartbeats 1000000
theorem index_loop (ss : List Int) (n : Int) (c : Int × Int → Pr Bool) (b : Int × Int → Pr (Int × Int)) (hc : ∀ s, c s = Pr.ok (decide (s.1 - s.2 > 1)))
    (hb : ∀ (hi lo : Nat), lo + 1 < hi → hi ≤ ss.length → b ((hi : Int), (lo : Int)) = Pr.ok (if ss[(lo + hi) / 2]! ≤ n then ((hi : Int), (((lo + hi) / 2 : Nat) : Int)) else ((((lo + hi) / 2 : Nat) : Int), (lo : Int)))) :
    ∀ (f hi lo : Nat), lo < hi → hi ≤ ss.length → hi - lo ≤ 2 ^ f → ss[lo]! ≤ n → (hi < ss.length → n < ss[hi]!) →
    ∃ i : Nat, Pr.whM (f + 1) ((hi : Int), (lo : Int)) c b = Pr.ok (((i + 1 : Nat) : Int), (i : Int)) ∧ i < ss.length ∧ ss[i]! ≤ n ∧ (i + 1 < ss.length → n < ss[i + 1]!)
  | f, hi, lo, h1, h2, h3, h4, h5 => by
    unfold Pr.whM
    rw [hc, Pr.ok_bind]
    by_cases hd : lo + 1 < hi
    · rw [if_pos (by simp only [decide_eq_true_eq]; omega), hb hi lo hd h2, Pr.ok_bind]
      cases f with
      | zero => simp at h3; omega
      | succ f =>
        have h2f : 2 ^ (f + 1) = 2 * 2 ^ f := by rw [Nat.pow_succ]; omega
        by_cases hm : ss[(lo + hi) / 2]! ≤ n
        · rw [if_pos hm]
          exact index_loop ss n c b hc hb f hi ((lo + hi) / 2) (by omega) h2 (by omega) hm h5
        · rw [if_neg hm]
          exact index_loop ss n c b hc hb f ((lo + hi) / 2) lo (by omega) (by omega) (by omega) h4 (fun _ => by omega)
    · have e : hi = lo + 1 := by omega
      subst e
      rw [if_neg (by simp only [decide_eq_true_eq]; omega)]
      exact ⟨lo, rfl, by omega, h4, h5⟩
theorem index_of_row_t (ss : List Int) (n : Int) (h0 : 0 < ss.length) (hl : ss.length ≤ 1000000) (hn : ss[0]! ≤ n) : ∃ i : Nat, t_index_of_row ss n = Pr.ok (i : Int) ∧ i < ss.length ∧ ss[i]! ≤ n ∧ (i + 1 < ss.length → n < ss[i + 1]!) := by
  have h99 : 1000000 ≤ 2 ^ 99 := by decide
  obtain ⟨i, e, h1, h2, h3⟩ := index_loop ss n (fun (s3 : (Int × Int)) => (Pr.ok (decide ((s3.1 - s3.2) > (1 : Int))))) (fun (s3 : (Int × Int)) =>
  ((((idx ss ((s3.2 + s3.1) / (2 : Int))).bind fun (a5 : Int) => (Pr.ok (decide (a5 ≤ n)))).bind fun c => if c then (Pr.ok (s3.1, ((s3.2 + s3.1) / (2 : Int)))) else (Pr.ok (((s3.2 + s3.1) / (2 : Int)), s3.2))).bind fun (s7 : (Int × Int)) =>
  (Pr.ok (s7.1, s7.2)))) (fun s => rfl) (fun hi lo h1 h2 => by
    have e1 : ((lo : Int) + (hi : Int)) / 2 = (((lo + hi) / 2 : Nat) : Int) := by omega
    have h3 : (lo + hi) / 2 < ss.length := by omega
    simp only [e1]
    rw [idx_nat h3, Pr.ok_bind, Pr.ok_bind]
    have e2 : ss[(lo + hi) / 2]! = ss[(lo + hi) / 2] := getElem!_pos ss _ h3
    rw [e2]
    by_cases hm : ss[(lo + hi) / 2] ≤ n
    · rw [if_pos (by simpa using hm), if_pos hm]; rfl
    · rw [if_neg (by simpa using hm), if_neg hm]; rfl) 99 ss.length 0 h0 (Nat.le_refl _) (by omega) hn (fun z => absurd z (Nat.lt_irrefl _))
  refine ⟨i, ?_, h1, h2, h3⟩
  unfold t_index_of_row
  exact (congrArg (fun x => Pr.bind x _) e).trans rfl
end
section
set_option Elab.async false
set_option linter.all false
set_option maxRecDepth 100000
set_option maxHeartbeats 1000000
def ixr : List Pc → Int → Nat
  | [], _ => 0
  | p :: r, n => if isOpn p = true ∨ n < rc p then 0 else ixr r (n - rc p) + 1
theorem sts_at : ∀ (m : List Pc) (s : Int) (i : Nat), i ≤ m.length → (stsF s m)[i]! = s + tt (m.take i)
  | [], s, i, h => by
    have : i = 0 := by simpa using h
    subst this
    simp [stsF, tt]
  | p :: m, s, 0, _ => by simp [stsF, tt]
  | p :: m, s, i + 1, h => by
    have ih := sts_at m (s + rc p) i (by simpa using h)
    show (stsF (s + rc p) m)[i]! = _
    rw [ih]
    simp only [List.take_succ_cons, tt]
    omega
/-- where row n stands: its piece q behind the pieces pre -/
structure At (l m : List Pc) (t n : Int) (pre : List Pc) (q : Pc) (rest : List Pc) : Prop where
  eq : l = pre ++ q :: rest
  cl : Cl pre
  ge : tt pre ≤ n
  q_ : (isOpn q = true ∧ rest = [] ∧ q = .opn t ∧ pre = m) ∨ (isOpn q = false ∧ n < tt pre + rc q)
  ok : pok q
  lt : pre.length ≤ m.length
  tk : pre = m.take pre.length
theorem at_of {l m : List Pc} {t : Int} (h : Ly l m t) (i : Nat) (n : Int) (hi : i ≤ m.length) (h1 : tt (m.take i) ≤ n) (h2 : i < m.length → n < tt (m.take (i + 1))) : ∃ pre q rest, At l m t n pre q rest ∧ pre.length = i := by
  by_cases hc : i < m.length
  · refine ⟨m.take i, m[i], m.drop (i + 1) ++ [.opn t], ⟨?_, fun p hp => h.cl p (List.take_subset _ _ hp), h1, .inr ⟨(h.cl m[i] (List.getElem_mem hc)).1, ?_⟩, (h.cl m[i] (List.getElem_mem hc)).2, by simp; omega, by simp⟩, by simp; omega⟩
    · have hm : m = m.take i ++ m[i] :: m.drop (i + 1) := by rw [← List.drop_eq_getElem_cons hc, List.take_append_drop]
      exact h.eq.trans ((congrArg (· ++ [Pc.opn t]) hm).trans (List.append_assoc _ _ _))
    · have := h2 hc
      rw [List.take_succ, List.getElem?_eq_getElem hc, tt_app] at this
      simpa [tt] using this
  · have e : i = m.length := by omega
    subst e
    rw [List.take_length] at h1
    exact ⟨m, .opn t, [], ⟨h.eq, h.cl, h1, .inl ⟨rfl, rfl, rfl, rfl⟩, h.t0, Nat.le_refl _, by simp⟩, rfl⟩
theorem At.lab {l m : List Pc} {t n : Int} {pre rest : List Pc} {q : Pc} (h : At l m t n pre q rest) (hn : 0 ≤ n) : T.lab l n = labP q (n - tt pre) := by
  have hg := h.ge
  rw [h.eq, lab_app _ _ _ h.cl hn, if_neg (by omega)]
  rcases h.q_ with ⟨h1, h2, h3, h4⟩ | ⟨h1, h2⟩
  · simp only [T.lab, h1, true_or, if_true]
  · simp only [T.lab]
    rw [if_pos (Or.inr (by omega))]
theorem ixr_app : ∀ (pre : List Pc) (q : Pc) (rest : List Pc) (n : Int), Cl pre → tt pre ≤ n → (isOpn q = true ∨ n < tt pre + rc q) → ixr (pre ++ q :: rest) n = pre.length
  | [], q, rest, n, _, h1, h2 => by
    simp only [List.nil_append, ixr, tt] at *
    rw [if_pos (by rcases h2 with z | z; exact .inl z; exact .inr (by omega))]
    rfl
  | p :: pre, q, rest, n, hc, h1, h2 => by
    have hp := hc.cons
    have h3 := tt_nonneg hp.2
    simp only [tt] at h1 h2
    simp only [List.cons_append, ixr, hp.1.1, Bool.false_eq_true, false_or]
    rw [if_neg (by omega), ixr_app pre q rest (n - rc p) hp.2 (by omega) (by rcases h2 with z | z; exact .inl z; exact .inr (by omega))]
    simp
theorem At.ix {l m : List Pc} {t n : Int} {pre rest : List Pc} {q : Pc} (h : At l m t n pre q rest) : pre.length = ixr l n := by
  rw [h.eq]
  exact (ixr_app pre q rest n h.cl h.ge (by rcases h.q_ with z | z; exact .inl z.1; exact .inr z.2)).symm
theorem at_row {l m : List Pc} {t : Int} (h : Ly l m t) (hl : m.length < 900000) (n : Int) (hn : 0 ≤ n) : ∃ pre q rest, At l m t n pre q rest ∧ t_index_of_row (stsF 0 m) n = Pr.ok ((pre.length : Nat) : Int) ∧ idx (stsF 0 m) ((pre.length : Nat) : Int) = Pr.ok (tt pre) := by
  have hsl := stsF_len 0 m
  obtain ⟨i, e, h1, h2, h3⟩ := index_of_row_t (stsF 0 m) n (by omega) (by omega) (by rw [sts_at m 0 0 (Nat.zero_le _)]; simp [tt]; omega)
  have hi : i ≤ m.length := by omega
  rw [sts_at m 0 i hi] at h2
  obtain ⟨pre, q, rest, ha, hp⟩ := at_of h i n hi (by omega) (fun hc => by
    have := h3 (by omega)
    rw [sts_at m 0 (i + 1) (by omega)] at this
    omega)
  refine ⟨pre, q, rest, ha, by rw [hp]; exact e, ?_⟩
  rw [hp, idx_nat h1]
  have e2 : (stsF 0 m)[i]! = (stsF 0 m)[i] := getElem!_pos (stsF 0 m) i h1
  have e3 := sts_at m 0 i hi
  have e4 := ha.tk
  rw [hp] at e4
  rw [← e2, e3, ← e4]
  congr 1
  omega
theorem At.idx {l m : List Pc} {t n : Int} {pre rest : List Pc} {q : Pc} (h : At l m t n pre q rest) : Ip.idx l ((pre.length : Nat) : Int) = Pr.ok q := by
  have hl : pre.length < l.length := by rw [h.eq]; simp
  rw [idx_nat hl]
  congr 1
  have : l[pre.length]? = some q := by rw [h.eq]; simp
  rw [List.getElem?_eq_getElem hl] at this
  exact Option.some.inj this
theorem label_at_t {s : Sq Pc} {m : List Pc} {t : Int} (h : Ly s.l m t) (hl : m.length < 900000) (n : Int) (hn : 0 ≤ n) : t_label_at s (stsF 0 m) n = Pr.ok (lab s.l n) := by
  obtain ⟨pre, q, rest, ha, e1, e2⟩ := at_row h hl n hn
  unfold t_label_at
  rw [e1, Pr.ok_bind, ha.idx, Pr.ok_bind, e2, Pr.ok_bind, Pr.ok_bind, label_in_t, ha.lab hn]
theorem ixr_mono : ∀ (l : List Pc) (a b : Int), a ≤ b → ixr l a ≤ ixr l b
  | [], _, _, _ => Nat.le_refl _
  | p :: r, a, b, h => by
    simp only [ixr]
    by_cases h1 : isOpn p = true ∨ a < rc p
    · rw [if_pos h1]; exact Nat.zero_le _
    · rw [if_neg h1, if_neg (fun z => h1 (by rcases z with z | z; exact .inl z; exact .inr (by omega)))]
      have := ixr_mono r (a - rc p) (b - rc p) (by omega)
      omega
theorem ixr_lt {l m : List Pc} {t : Int} (h : Ly l m t) (hl : m.length < 900000) (n : Int) (hn : 0 ≤ n) : ixr l n < l.length := by
  obtain ⟨pre, q, rest, ha, _⟩ := at_row h hl n hn
  rw [← ha.ix, ha.eq]
  simp
end
section
set_option Elab.async false
set_option linter.all false
set_option maxRecDepth 100000
set_option maxHeartbeats 1000000
def fr (p : Pc) (k : Int) : Pc := match p with
  | .old a _ => .old a (a + k - 1)
  | .opn a => .old a (a + k - 1)
  | .top _ => .top k
  | .new a b _ => .new a b k
def wo (p : Pc) (k : Int) : Pc := match p with
  | .old a b => .old (a + k) b
  | .opn a => .opn (a + k)
  | .top n => .top (n - k)
  | .new a b n => .new a b (n - k)
theorem first_rows_t (p : Pc) (k : Int) : t_first_rows p k = Pr.ok (fr p k) := by cases p <;> rfl
theorem without_first_rows_t (p : Pc) (k : Int) : t_without_first_rows p k = Pr.ok (wo p k) := by cases p <;> rfl
theorem fr_ok {p : Pc} {k : Int} (hp : pok p) (h1 : 1 ≤ k) (h2 : isOpn p = true ∨ k ≤ rc p) : isOpn (fr p k) = false ∧ pok (fr p k) ∧ rc (fr p k) = k ∧ ∀ j, labP (fr p k) j = labP p j := by
  cases p <;> simp only [fr, isOpn, pok, rc, labP, Bool.false_eq_true, false_or, true_or] at * <;> refine ⟨trivial, ?_, ?_, fun _ => trivial⟩ <;> first | omega | trivial
theorem wo_ok {p : Pc} {k : Int} (hp : pok p) (h1 : 0 ≤ k) (h2 : isOpn p = true ∨ k < rc p) : isOpn (wo p k) = isOpn p ∧ pok (wo p k) ∧ (isOpn p = false → rc (wo p k) = rc p - k) ∧ ∀ j, labP (wo p k) j = labP p (k + j) := by
  cases p <;> simp only [wo, isOpn, pok, rc, labP, Bool.false_eq_true, false_or, true_or] at * <;> refine ⟨trivial, ?_, ?_, fun j => ?_⟩ <;> first | omega | trivial | (intro _; omega) | (congr 2 <;> omega) | (intro z; cases z)
theorem cut_nat {α : Type} (l : List α) (i j : Nat) (hi : i ≤ l.length) (hj : j ≤ l.length) : cutD l (some (i : Int)) (some (j : Int)) = (l.drop i).take (j - i) := by
  unfold cutD
  rw [HT.sIx_nat, HT.sIx_nat, Nat.min_eq_left hi, Nat.min_eq_left hj]
end
section
set_option Elab.async false
set_option linter.all false
set_option maxRecDepth 100000
set_option maxHeartbeats 1000000
theorem lab_in {l pre rest : List Pc} {q : Pc} {n : Int} (e : l = pre ++ q :: rest) (hc : Cl pre) (h1 : tt pre ≤ n) (h2 : isOpn q = true ∨ n < tt pre + rc q) (hn : 0 ≤ n) : lab l n = labP q (n - tt pre) := by
  rw [e, lab_app _ _ _ hc hn, if_neg (by omega)]
  simp only [lab]
  rw [if_pos (by rcases h2 with z | z; exact .inl z; exact .inr (by omega))]
theorem part_some {s : Sq Pc} {m : List Pc} {t : Int} (h : Ly s.l m t) (hl : m.length < 900000) (a b : Int) (h0 : 0 ≤ a) (hab : a ≤ b) :
    ∃ R, t_part s (stsF 0 m) a (some b) = Pr.ok R ∧ Cl R ∧ tt R = b - a + 1 ∧ (∀ k, 0 ≤ k → k < b - a + 1 → lab R k = lab s.l (a + k)) ∧ R.length + ixr s.l a = ixr s.l b + 1 := by
  obtain ⟨pre, p, rest, ha, ea, ia⟩ := at_row h hl a h0
  obtain ⟨pre2, p2, rest2, hb, eb, ib⟩ := at_row h hl b (by omega)
  have hij : pre.length ≤ pre2.length := by rw [ha.ix, hb.ix]; exact ixr_mono _ _ _ hab
  have hlen : pre2.length < s.l.length := by rw [hb.eq]; simp
  have hga := ha.ge
  have hgb := hb.ge
  unfold t_part
  rw [ea, Pr.ok_bind]
  simp only [Option.isNone_some, Bool.false_eq_true, if_false, cast_some, Pr.ok_bind, Option.isSome_some, if_true]
  rw [eb, Pr.ok_bind, ib]
  simp only [Pr.ok_bind]
  have ecut : (Sq.cut s (some ((pre.length : Nat) : Int)) (some (((pre2.length : Nat) : Int) + 1))).l = (s.l.drop pre.length).take (pre2.length + 1 - pre.length) := by
    show cutD s.l _ _ = _
    rw [show ((pre2.length : Nat) : Int) + 1 = ((pre2.length + 1 : Nat) : Int) by omega]
    exact cut_nat s.l pre.length (pre2.length + 1) (by omega) (by omega)
  rw [ecut]
  by_cases hc : pre.length = pre2.length
  · -- one piece
    have epre : pre2 = pre := by rw [ha.tk, hb.tk, hc]
    have e1 : p2 = p ∧ rest2 = rest := by
      have := hb.eq
      rw [ha.eq, epre] at this
      have h3 := List.append_cancel_left this
      exact ⟨(List.cons.inj h3).1.symm, (List.cons.inj h3).2.symm⟩
    obtain ⟨rfl, rfl⟩ := e1
    subst epre
    have eC : (s.l.drop pre2.length).take (pre2.length + 1 - pre2.length) = [] ++ [p2] := by
      rw [hb.eq, List.drop_left, show pre2.length + 1 - pre2.length = 1 by omega]
      rfl
    have hq2 : isOpn p2 = true ∨ b - tt pre2 + 1 ≤ rc p2 := by
      rcases hb.q_ with z | z
      · exact .inl z.1
      · exact .inr (by omega)
    obtain ⟨f1, f2, f3, f4⟩ := fr_ok hb.ok (k := b - tt pre2 + 1) (by omega) hq2
    obtain ⟨w1, w2, w3, w4⟩ := wo_ok f2 (k := a - tt pre2) (by omega) (.inr (by omega))
    have w3 := w3 f1
    rw [eC, show (-(1 : Int)) = -1 from rfl, idx_last, Pr.ok_bind, first_rows_t, Pr.ok_bind, setI_last, Pr.ok_bind, Pr.ok_bind, List.nil_append]
    have i0 : idx [fr p2 (b - tt pre2 + 1)] 0 = Pr.ok (fr p2 (b - tt pre2 + 1)) := idx_nat (l := [fr p2 (b - tt pre2 + 1)]) (i := 0) (by simp)
    rw [i0, Pr.ok_bind, ia, Pr.ok_bind, Pr.ok_bind, without_first_rows_t, Pr.ok_bind, setI_zero, Pr.ok_bind]
    refine ⟨_, rfl, .mk (by rw [w1]; exact f1) w2 .nil, by simp only [tt]; omega, fun k hk hk2 => ?_, ?_⟩
    · have e3 : lab [wo (fr p2 (b - tt pre2 + 1)) (a - tt pre2)] k = labP (wo (fr p2 (b - tt pre2 + 1)) (a - tt pre2)) k := by
        simp only [lab]
        rw [if_pos (Or.inr (by omega))]
      rw [e3, w4, f4, lab_in hb.eq hb.cl (by omega) (by rcases hb.q_ with z | z; exact .inl z.1; exact .inr (by omega)) (by omega)]
      congr 1
      omega
    · rw [← ha.ix, ← hb.ix]
      simp
      omega
  · -- more pieces
    obtain ⟨mid, e2, e3⟩ : ∃ mid, pre2 = pre ++ p :: mid ∧ rest = mid ++ p2 :: rest2 := by
      have := hb.eq
      rw [ha.eq] at this
      rcases List.append_eq_append_iff.mp this with ⟨a', h1, h2⟩ | ⟨a', h1, h2⟩
      · cases a' with
        | nil => simp at h1; rw [h1] at hc; exact absurd rfl hc
        | cons x mid =>
          simp only [List.cons_append, List.cons.injEq] at h2
          obtain ⟨rfl, h3⟩ := h2
          exact ⟨mid, h1, h3⟩
      · have : pre.length = pre2.length + a'.length := by rw [h1]; simp
        have h4 : a' = [] := List.length_eq_zero_iff.mp (by omega)
        rw [h4] at h1
        simp at h1
        rw [h1] at hc
        exact absurd rfl hc
    have hcp := hb.cl
    rw [e2] at hcp
    have hp : isOpn p = false ∧ pok p := hcp p (by simp)
    have hmid : Cl mid := fun x hx => hcp x (by simp [hx])
    have eC : (s.l.drop pre.length).take (pre2.length + 1 - pre.length) = (p :: mid) ++ [p2] := by
      rw [ha.eq, List.drop_left, e3, show pre2.length + 1 - pre.length = (p :: mid).length + 1 by rw [e2]; simp; omega]
      rw [show p :: (mid ++ p2 :: rest2) = (p :: mid) ++ p2 :: rest2 from rfl, List.take_append]
      simp
      exact List.take_of_length_le (by omega)
    have ht2 : tt pre2 = tt pre + rc p + tt mid := by rw [e2, tt_app]; simp only [tt]; omega
    have hpa : a < tt pre + rc p := by
      rcases ha.q_ with z | z
      · rw [hp.1] at z; cases z.1
      · exact z.2
    have htm := tt_nonneg hmid
    have hq2 : isOpn p2 = true ∨ b - tt pre2 + 1 ≤ rc p2 := by
      rcases hb.q_ with z | z
      · exact .inl z.1
      · exact .inr (by omega)
    obtain ⟨f1, f2, f3, f4⟩ := fr_ok hb.ok (k := b - tt pre2 + 1) (by omega) hq2
    obtain ⟨w1, w2, w3, w4⟩ := wo_ok hp.2 (k := a - tt pre) (by omega) (.inr (by omega))
    have w3 := w3 hp.1
    rw [eC, show (-(1 : Int)) = -1 from rfl, idx_last, Pr.ok_bind, first_rows_t, Pr.ok_bind, setI_last, Pr.ok_bind, Pr.ok_bind, List.cons_append]
    have i0 : idx (p :: (mid ++ [fr p2 (b - tt pre2 + 1)])) 0 = Pr.ok p := idx_nat (l := p :: (mid ++ [fr p2 (b - tt pre2 + 1)])) (i := 0) (by simp)
    rw [i0, Pr.ok_bind, ia, Pr.ok_bind, Pr.ok_bind, without_first_rows_t, Pr.ok_bind, setI_zero, Pr.ok_bind]
    refine ⟨_, rfl, .mk (by rw [w1]; exact hp.1) w2 (hmid.app (.mk f1 f2 .nil)), by simp only [tt, tt_app]; omega, fun k hk hk2 => ?_, ?_⟩
    · have el : s.l = pre ++ (p :: (mid ++ p2 :: rest2)) := by rw [ha.eq, e3]
      rw [el, lab_app _ _ _ ha.cl (by omega), if_neg (by omega)]
      simp only [lab, w1, hp.1, Bool.false_eq_true, false_or]
      by_cases k1 : k < rc (wo p (a - tt pre))
      · rw [if_pos k1, if_pos (by omega), w4]
        congr 1
        omega
      · rw [if_neg k1, if_neg (by omega), lab_app _ _ _ hmid (by omega), lab_app _ _ _ hmid (by omega)]
        rw [show k - rc (wo p (a - tt pre)) = a + k - tt pre - rc p by omega]
        by_cases k2 : a + k - tt pre - rc p < tt mid
        · rw [if_pos k2, if_pos k2]
        · rw [if_neg k2, if_neg k2]
          have k3 : a + k - tt pre - rc p - tt mid < rc (fr p2 (b - tt pre2 + 1)) := by omega
          simp only [lab]
          rw [if_pos (Or.inr k3), f4]
          rw [if_pos (by rcases hq2 with z | z; exact .inl z; exact .inr (by omega))]
    · rw [← ha.ix, ← hb.ix, e2]
      simp
      omega
theorem part_none {s : Sq Pc} {m : List Pc} {t : Int} (h : Ly s.l m t) (hl : m.length < 900000) (a : Int) (h0 : 0 ≤ a) :
    ∃ R, t_part s (stsF 0 m) a none = Pr.ok R ∧ (∃ m' t', Ly R m' t') ∧ (∀ k, 0 ≤ k → lab R k = lab s.l (a + k)) ∧ R.length + ixr s.l a = s.l.length := by
  obtain ⟨pre, p, rest, ha, ea, ia⟩ := at_row h hl a h0
  have hga := ha.ge
  have hlen : pre.length < s.l.length := by rw [ha.eq]; simp
  unfold t_part
  rw [ea, Pr.ok_bind]
  simp only [Option.isNone_none, if_true, Pr.ok_bind, Option.isSome_none, Bool.false_eq_true, if_false]
  have ecut : (Sq.cut s (some ((pre.length : Nat) : Int)) (some (((s.l.length : Nat) : Int) - 1 + 1))).l = p :: rest := by
    show cutD s.l _ _ = _
    rw [show ((s.l.length : Nat) : Int) - 1 + 1 = ((s.l.length : Nat) : Int) by omega, cut_nat s.l pre.length s.l.length (by omega) (Nat.le_refl _)]
    rw [List.take_of_length_le (by simp), ha.eq, List.drop_left]
  rw [ecut]
  have i0 : idx (p :: rest) 0 = Pr.ok p := idx_nat (l := p :: rest) (i := 0) (by simp)
  rw [i0, Pr.ok_bind, ia, Pr.ok_bind, Pr.ok_bind, without_first_rows_t, Pr.ok_bind, setI_zero, Pr.ok_bind]
  have hq : isOpn p = true ∨ a - tt pre < rc p := by
    rcases ha.q_ with z | z
    · exact .inl z.1
    · exact .inr (by omega)
  obtain ⟨w1, w2, w3, w4⟩ := wo_ok ha.ok (k := a - tt pre) (by omega) hq
  refine ⟨_, rfl, ?_, fun k hk => ?_, ?_⟩
  · rcases ha.q_ with ⟨z1, z2, z3, z4⟩ | ⟨z1, z2⟩
    · subst z2 z3
      refine ⟨[], t + (a - tt pre), rfl, .nil, ?_⟩
      have := h.t0
      omega
    · -- the rest has the open piece
      have e : m ++ [Pc.opn t] = pre ++ p :: rest := h.eq.symm.trans ha.eq
      have hr : ∃ r', rest = r' ++ [Pc.opn t] ∧ Cl r' := by
        have hne : rest ≠ [] := fun z => by
          rw [z] at e
          have h3 : (m ++ [Pc.opn t]).getLast? = (pre ++ [p]).getLast? := by rw [e]
          simp at h3
          rw [← h3] at z1
          cases z1
        refine ⟨rest.dropLast, ?_, fun x hx => ?_⟩
        · have h3 : (m ++ [Pc.opn t]).getLast? = (pre ++ p :: rest).getLast? := by rw [e]
          have h4 : rest.getLast? = some (Pc.opn t) := by
            have h5 : (pre ++ p :: rest).getLast? = rest.getLast? := by
              rw [List.getLast?_append, List.getLast?_cons]
              cases hg : rest.getLast? with
              | none => rw [List.getLast?_eq_none_iff] at hg; exact absurd hg hne
              | some y => simp
            rw [← h5, ← h3]
            simp
          exact last_of' h4
        · have h3 : (m ++ [Pc.opn t]).dropLast = (pre ++ p :: rest).dropLast := by rw [e]
          rw [List.dropLast_concat] at h3
          have h4 : (pre ++ p :: rest).dropLast = pre ++ p :: rest.dropLast := by
            rw [List.dropLast_append_of_ne_nil (by simp), List.dropLast_cons_of_ne_nil hne]
          rw [h4] at h3
          exact h.cl x (by rw [h3]; simp [hx])
      obtain ⟨r', e', hr'⟩ := hr
      exact ⟨wo p (a - tt pre) :: r', t, by rw [e']; rfl, .mk (by rw [w1]; exact z1) w2 hr', h.t0⟩
  · rw [ha.eq, lab_app _ _ _ ha.cl (by omega), if_neg (by omega)]
    simp only [lab, w1]
    rcases ha.q_ with z | z
    · simp only [z.1, true_or, if_true]
      rw [w4]
      congr 1
      omega
    · simp only [z.1, Bool.false_eq_true, false_or]
      have w3 := w3 z.1
      by_cases k1 : k < rc (wo p (a - tt pre))
      · rw [if_pos k1, if_pos (by omega), w4]
        congr 1
        omega
      · rw [if_neg k1, if_neg (by omega)]
        congr 1
        omega
  · rw [← ha.ix, ha.eq]
    simp
    omega
end
section
set_option Elab.async false
set_option linter.all false
set_option maxRecDepth 100000
set_option maxHeartbeats 1000000
theorem Ord.some_le {f : Int → Rw} (h : Ord f) {i j : Int} (hi : 0 ≤ i) (hj : i ≤ j) {x : Int × Int} (hx : f i = some x) : ∃ y, f j = some y ∧ x.1 ≤ y.1 ∧ x.2 ≤ y.2 := by
  by_cases e : i = j
  · subst e; exact ⟨x, hx, Int.le_refl _, Int.le_refl _⟩
  · have := h.pr hi (show i < j by omega)
    rw [hx] at this
    cases hy : f j with
    | none => rw [hy] at this; exact this.elim
    | some y => rw [hy] at this; exact ⟨y, rfl, this.1, this.2.1⟩
end
section
set_option Elab.async false
set_option linter.all false
set_option maxRecDepth 100000
set_option maxHeartbeats 1000000
def cmpR (f : Int → Rw) : Rw → Rw
  | none => none
  | some x => if x.1 = x.2 then f x.1 else match f x.1, f x.2 with
    | some y, some z => some (y.1, z.2)
    | _, _ => none
/-- a label that two rows make -/
theorem cmp_some {f : Int → Rw} (h : Ord f) {i j : Int} (hi : 0 ≤ i) (hj : i ≤ j) {x : Int × Int} (hx : f i = some x) : ∃ y, f j = some y ∧ cmpR f (some (i, j)) = some (x.1, y.2) ∧ 0 ≤ x.1 ∧ x.1 ≤ y.2 ∧ x.1 ≤ x.2 ∧ y.1 ≤ y.2 ∧ x.1 ≤ y.1 ∧ x.2 ≤ y.2 ∧ (i < j → x.1 < y.2) := by
  obtain ⟨y, hy, h1, h2⟩ := h.some_le hi hj hx
  have ox : okR (some x) := hx ▸ (h i hi).2
  have oy : okR (some y) := hy ▸ (h j (by omega)).2
  simp only [okR] at ox oy
  refine ⟨y, hy, ?_, ox.1, by omega, ox.2, oy.2, h1, h2, fun hlt => ?_⟩
  · unfold cmpR
    simp only
    by_cases e : i = j
    · subst e
      rw [if_pos rfl, hx]
      rw [hx] at hy
      cases hy
      rfl
    · rw [if_neg e, hx, hy]
  · have := h.pr hi hlt
    rw [hx, hy] at this
    have h3 := this.2.2
    by_cases e1 : x.1 = x.2
    · by_cases e2 : y.1 = y.2
      · have := h3 e1 e2; omega
      · omega
    · omega
theorem cmp_none {f : Int → Rw} {i j : Int} (hx : f i = none) : cmpR f (some (i, j)) = none := by
  unfold cmpR
  simp only
  split
  · exact hx
  · rw [hx]
theorem cmp_ord {f g : Int → Rw} (hf : Ord f) (hg : Ord g) : Ord (fun k => cmpR f (g k)) := fun k hk => by
  obtain ⟨h1, h2⟩ := hg k hk
  have h3 := (hg (k + 1) (by omega)).2
  show pr (cmpR f (g k)) (cmpR f (g (k + 1))) ∧ okR (cmpR f (g k))
  cases e1 : g k with
  | none => exact ⟨trivial, trivial⟩
  | some u =>
    obtain ⟨i, j⟩ := u
    rw [e1] at h1 h2
    simp only [okR] at h2
    cases e2 : g (k + 1) with
    | none => rw [e2] at h1; exact h1.elim
    | some u' =>
      obtain ⟨i', j'⟩ := u'
      rw [e2] at h1 h3
      simp only [okR] at h3
      simp only [pr] at h1
      cases hx : f i with
      | none =>
        rw [cmp_none hx]
        exact ⟨trivial, trivial⟩
      | some x =>
        obtain ⟨y, hy, c1, p0, p1, p2, p3, p4, p5, p6⟩ := cmp_some hf h2.1 h2.2 hx
        obtain ⟨x', hx', q1, q2⟩ := hf.some_le h2.1 h1.1 hx
        obtain ⟨y', hy', c2, r0, r1, r2, r3, r4, r5, r6⟩ := cmp_some hf h3.1 h3.2 hx'
        obtain ⟨y2, hy2, s1, s2⟩ := hf.some_le (show 0 ≤ j by omega) h1.2.1 hy
        rw [hy'] at hy2
        cases hy2
        rw [c1, c2]
        refine ⟨⟨q1, s2, fun a1 a2 => ?_⟩, p0, p1⟩
        simp only at a1 a2 ⊢
        have ij : i = j := by
          by_cases z : i = j
          · exact z
          · have := p6 (by omega); omega
        have ij' : i' = j' := by
          by_cases z : i' = j'
          · exact z
          · have := r6 (by omega); omega
        subst ij ij'
        have hlt := h1.2.2 rfl rfl
        rw [hx] at hy
        cases hy
        rw [hx'] at hy'
        cases hy'
        have := hf.pr h2.1 hlt
        rw [hx, hx'] at this
        exact this.2.2 a1 a2
/-- what becomes of a piece of the second layout -/
def FolP (l : List Pc) (p : Pc) (R : List Pc) : Prop := match p with
  | .top n => R = [.top n]
  | .new i j n => ∃ q, R = [q] ∧ isOpn q = false ∧ pok q ∧ rc q = n ∧ ∀ k, labP q k = cmpR (lab l) (some (i, j))
  | .old a b => Cl R ∧ tt R = b - a + 1 ∧ (∀ k, 0 ≤ k → k < b - a + 1 → lab R k = lab l (a + k)) ∧ R.length + ixr l a = ixr l b + 1
  | .opn a => (∃ m t, Ly R m t) ∧ (∀ k, 0 ≤ k → lab R k = lab l (a + k)) ∧ R.length + ixr l a = l.length
inductive FolL (l : List Pc) : List Pc → List Pc → Prop
  | nil : FolL l [] []
  | cons {p : Pc} {R ps Rs : List Pc} : FolP l p R → FolL l ps Rs → FolL l (p :: ps) (R ++ Rs)
theorem cmp_old (f : Int → Rw) (v : Int) : cmpR f (some (v, v)) = f v := if_pos rfl
theorem FolP.closed {l : List Pc} {p : Pc} {R : List Pc} (h : FolP l p R) (hp : pok p) (ho : isOpn p = false) : Cl R ∧ tt R = rc p ∧ ∀ k, 0 ≤ k → k < rc p → lab R k = cmpR (lab l) (labP p k) := by
  cases p with
  | top n =>
    have e : R = [.top n] := h
    subst e
    refine ⟨.mk rfl hp .nil, by simp [tt, rc], fun k hk hk2 => ?_⟩
    simp only [lab]
    rw [if_pos (Or.inr hk2)]
    rfl
  | old a b =>
    obtain ⟨h1, h2, h3, _⟩ := h
    exact ⟨h1, h2, fun k hk hk2 => by rw [h3 k hk hk2]; exact (cmp_old _ _).symm⟩
  | opn a => cases ho
  | new i j n =>
    obtain ⟨q, rfl, h1, h2, h3, h4⟩ := h
    refine ⟨.mk h1 h2 .nil, by simp only [tt, h3]; show n + 0 = n; omega, fun k hk hk2 => ?_⟩
    have hk3 : k < n := hk2
    simp only [lab]
    rw [if_pos (Or.inr (by omega)), h4]
    rfl
theorem fol_closed {l : List Pc} : ∀ {m2 R : List Pc}, FolL l m2 R → Cl m2 → Cl R ∧ tt R = tt m2 ∧ ∀ k, 0 ≤ k → k < tt m2 → lab R k = cmpR (lab l) (lab m2 k)
  | _, _, .nil, _ => ⟨.nil, rfl, fun k hk hk2 => by simp [tt] at hk2; omega⟩
  | _, _, .cons (p := p) (R := R) (ps := ps) (Rs := Rs) h1 h2, hc => by
    obtain ⟨c1, t1, l1⟩ := h1.closed hc.cons.1.2 hc.cons.1.1
    obtain ⟨c2, t2, l2⟩ := fol_closed h2 hc.cons.2
    have hr := rc_pos hc.cons.1.2 hc.cons.1.1
    refine ⟨c1.app c2, by rw [tt_app, t1, t2]; rfl, fun k hk hk2 => ?_⟩
    simp only [tt] at hk2
    rw [lab_app _ _ _ c1 hk, t1]
    simp only [lab, hc.cons.1.1, Bool.false_eq_true, false_or]
    by_cases h3 : k < rc p
    · rw [if_pos h3, if_pos h3, l1 k hk h3]
    · rw [if_neg h3, if_neg h3, l2 (k - rc p) (by omega) (by omega)]
theorem fol_app {l : List Pc} : ∀ {m2 R : List Pc} {p : Pc}, FolL l (m2 ++ [p]) R → ∃ R1 R2, R = R1 ++ R2 ∧ FolL l m2 R1 ∧ FolP l p R2
  | [], _, _, .cons (R := R) h .nil => ⟨[], R, by simp, .nil, h⟩
  | x :: m2, _, p, .cons (R := R) h h2 => by
    obtain ⟨R1, R2, e, h3, h4⟩ := fol_app h2
    exact ⟨R ++ R1, R2, by rw [e]; simp, .cons h h3, h4⟩
theorem fol_lab {l sec m2 R : List Pc} {t2 : Int} (h2 : Ly sec m2 t2) (h : FolL l sec R) : (∃ m t, Ly R m t) ∧ ∀ k, 0 ≤ k → lab R k = cmpR (lab l) (lab sec k) := by
  rw [h2.eq] at h
  obtain ⟨R1, R2, rfl, h3, ⟨m', t', hm⟩, h5, _⟩ := fol_app h
  obtain ⟨c1, t1, l1⟩ := fol_closed h3 h2.cl
  refine ⟨⟨R1 ++ m', t', by rw [hm.eq]; simp, c1.app hm.cl, hm.t0⟩, fun k hk => ?_⟩
  rw [lab_app _ _ _ c1 hk, t1, h2.eq, lab_app _ _ _ h2.cl hk]
  by_cases h6 : k < tt m2
  · rw [if_pos h6, if_pos h6, l1 k hk h6]
  · rw [if_neg h6, if_neg h6, h5 _ (by omega), lab_opn, cmp_old]
theorem FolL.snoc {l : List Pc} : ∀ {ps R : List Pc} {p : Pc} {Rp : List Pc}, FolL l ps R → FolP l p Rp → FolL l (ps ++ [p]) (R ++ Rp)
  | _, _, _, Rp, .nil, h => by
    have := FolL.cons h (.nil (l := l))
    simpa using this
  | _, _, _, Rp, .cons (R := R) h1 h2, h => by
    have := FolL.cons h1 (FolL.snoc h2 h)
    simpa using this
theorem renamed_t {s : Sq Pc} {m : List Pc} {t : Int} (h : Ly s.l m t) (ho : Ord (lab s.l)) (hl : m.length < 900000) {i j n : Int} (hi : 0 ≤ i) (hj : i < j) (hn : 1 ≤ n) : ∃ q, t_renamed s (stsF 0 m) (.new i j n) = Pr.ok q ∧ isOpn q = false ∧ pok q ∧ rc q = n ∧ ∀ k, labP q k = cmpR (lab s.l) (some (i, j)) := by
  unfold t_renamed
  simp only [Pc.f1, Pc.f2, Pc.f3, Pr.ok_bind, cast_some]
  rw [label_at_t h hl i hi, Pr.ok_bind, label_at_t h hl j (by omega), Pr.ok_bind]
  cases hx : lab s.l i with
  | none =>
    simp only [Option.isNone_none, if_true]
    exact ⟨.top n, rfl, rfl, hn, rfl, fun k => (cmp_none hx).symm⟩
  | some x =>
    obtain ⟨y, hy, c, p0, p1, p2, p3, p4, p5, p6⟩ := cmp_some ho hi (Int.le_of_lt hj) hx
    rw [hy]
    simp only [Option.isNone_some, Bool.false_eq_true, if_false, cast_some, Pr.ok_bind]
    exact ⟨.new x.1 y.2 n, rfl, rfl, ⟨p0, p6 hj, hn⟩, rfl, fun k => c.symm⟩
end
section
set_option Elab.async false
set_option linter.all false
set_option maxRecDepth 100000
set_option maxHeartbeats 1000000
theorem normal_form_t {R m : List Pc} {t : Int} (h : Ly R m t) (hl : R.length < 10000000) : t_normal_form R = Pr.ok (nf R) := by
  funext Q E
  refine propext ⟨fun z => z.2.2, fun z => ⟨fun p hp => ?_, hl, z⟩⟩
  rw [h.eq, List.dropLast_concat] at hp
  exact (h.cl p hp).1
theorem followed_t {s : Sq Pc} {sec : List Pc} (hv : valid s.l) (hv2 : valid sec) (hl : s.l.length ≤ 10000) (hl2 : sec.length ≤ 100) : ∃ R, t_followed s sec = Pr.ok (nf R) ∧ FolL s.l sec R := by
  obtain ⟨⟨m, t, hm⟩, ho⟩ := rows_of hv
  obtain ⟨⟨m2, t2, hm2⟩, ho2⟩ := rows_of hv2
  have hml : m.length < 900000 := by have := hm.len; omega
  obtain ⟨R, e, hR, hlen⟩ := forM_in (fun (x10 : Pc) (s9 : (List Pc)) =>
  ((if x10.isOld then ((x10.f2.bind fun (a17 : (Option Int)) => (t_part s (stsF 0 m) x10.f1 a17)).bind fun (a20 : List Pc) => Pr.need (s9.length + a20.length ≤ 16777216)
  (Pr.ok (s9 ++ a20))) else ((if x10.isNew then ((t_renamed s (stsF 0 m) x10).bind fun (a26 : Pc) => Pr.need (s9.length < 16777216)
  (Pr.ok (s9 ++ [a26]))) else (Pr.need (s9.length < 16777216) (Pr.ok (s9 ++ [x10])))).bind fun (s21 : (List Pc)) =>
  (Pr.ok s21))).bind fun (s12 : (List Pc)) =>
  (Pr.ok s12))) sec (fun done acc => FolL s.l done acc ∧ acc.length ≤ done.length * (s.l.length + 1)) (fun x done rest acc e ⟨hd, hn⟩ => by
    have hx : pok x := hm2.pok (by rw [← e]; simp)
    have hdl : done.length ≤ 100 := by rw [← e] at hl2; simp at hl2; omega
    have hb : done.length * (s.l.length + 1) ≤ 100 * 10001 := Nat.mul_le_mul hdl (by omega)
    have step : (done ++ [x]).length * (s.l.length + 1) = done.length * (s.l.length + 1) + (s.l.length + 1) := by rw [List.length_append, Nat.add_mul]; simp
    cases x with
    | top n =>
      simp only [Pc.isOld, Pc.isNew, Bool.false_eq_true, if_false]
      rw [need_ok (by omega), Pr.ok_bind, Pr.ok_bind]
      exact ⟨_, rfl, hd.snoc (p := .top n) rfl, by rw [step]; simp; omega⟩
    | old a b =>
      obtain ⟨R, e1, r1, r2, r3, r4⟩ := part_some hm hml a b hx.1 hx.2
      have hr : R.length ≤ s.l.length := by have := ixr_lt hm hml b (by have := hx.1; have := hx.2; omega); omega
      simp only [Pc.isOld, Pc.f1, Pc.f2, if_true, Pr.ok_bind]
      rw [e1, Pr.ok_bind, need_ok (by omega), Pr.ok_bind]
      exact ⟨_, rfl, hd.snoc (p := .old a b) ⟨r1, r2, r3, r4⟩, by rw [step]; simp; omega⟩
    | opn a =>
      obtain ⟨R, e1, r1, r2, r3⟩ := part_none hm hml a hx
      have hr : R.length ≤ s.l.length := by omega
      simp only [Pc.isOld, Pc.f1, Pc.f2, if_true, Pr.ok_bind]
      rw [e1, Pr.ok_bind, need_ok (by omega), Pr.ok_bind]
      exact ⟨_, rfl, hd.snoc (p := .opn a) ⟨r1, r2, r3⟩, by rw [step]; simp; omega⟩
    | new i j n =>
      obtain ⟨q, e1, r1, r2, r3, r4⟩ := renamed_t hm ho hml hx.1 hx.2.1 hx.2.2
      simp only [Pc.isOld, Pc.isNew, Bool.false_eq_true, if_false, if_true]
      rw [e1, Pr.ok_bind, need_ok (by omega), Pr.ok_bind, Pr.ok_bind]
      exact ⟨_, rfl, hd.snoc (p := .new i j n) ⟨q, rfl, r1, r2, r3, r4⟩, by rw [step]; simp; omega⟩) sec [] [] rfl ⟨.nil, by simp⟩
  obtain ⟨⟨m3, t3, hm3⟩, _⟩ := fol_lab hm2 hR
  refine ⟨R, ?_, hR⟩
  have hb : sec.length * (s.l.length + 1) ≤ 100 * 10001 := Nat.mul_le_mul hl2 (by omega)
  unfold t_followed
  rw [starts_of_t hm hml, Pr.ok_bind, lim_ok (by omega), Pr.ok_bind]
  rw [← normal_form_t hm3 (by omega)]
  exact congrArg (fun x => Pr.bind x t_normal_form) e
/-- rows of a layout behind another one -/
theorem fol_valid {l sec R : List Pc} (hv : valid l) (hv2 : valid sec) (h : FolL l sec R) : valid (nf R) ∧ ∀ k, 0 ≤ k → lab (nf R) k = cmpR (lab l) (lab sec k) := by
  obtain ⟨⟨m, t, hm⟩, ho⟩ := rows_of hv
  obtain ⟨⟨m2, t2, hm2⟩, ho2⟩ := rows_of hv2
  obtain ⟨⟨m3, t3, hm3⟩, hl⟩ := fol_lab hm2 h
  obtain ⟨m4, t4, hm4, hl4⟩ := nf_Ly hm3
  have e : ∀ k, 0 ≤ k → lab (nf R) k = cmpR (lab l) (lab sec k) := fun k hk => by rw [hl4 k hk, hl k hk]
  exact ⟨validO hm4 (valid_eq (cmp_ord ho ho2) e), e⟩
theorem lab_old (a b : Int) (r : List Pc) (k : Int) : lab (.old a b :: r) k = if k < b - a + 1 then some (a + k, a + k) else lab r (k - (b - a + 1)) := by
  simp only [lab, isOpn, Bool.false_eq_true, false_or]
  rfl
theorem lab_top (n : Int) (r : List Pc) (k : Int) : lab (.top n :: r) k = if k < n then none else lab r (k - n) := by
  simp only [lab, isOpn, Bool.false_eq_true, false_or]
  rfl
theorem lab_new (a b n : Int) (r : List Pc) (k : Int) : lab (.new a b n :: r) k = if k < n then some (a, b) else lab r (k - n) := by
  simp only [lab, isOpn, Bool.false_eq_true, false_or]
  rfl
def plainR : Int → Rw := fun k => some (k, k)
end
section
set_option Elab.async false
set_option linter.all false
set_option maxRecDepth 100000
set_option maxHeartbeats 1000000
def cmdOk (c : Cmd) : Prop := (c.p1 = "insert" ∧ 0 ≤ c.p2 ∧ 1 ≤ c.p3) ∨ (c.p1 = "delete" ∧ 0 ≤ c.p2 ∧ c.p2 ≤ c.p3)
def orb (n : Int) : List Pc := if n > 0 then [.old 0 (n - 1)] else []
def cp (c : Cmd) : List Pc := if c.p1 = "insert" then (if c.p2 = 0 then [.top c.p3, .opn 0] else orb c.p2 ++ [.new (c.p2 - 1) c.p2 c.p3, .opn c.p2]) else orb c.p2 ++ [.opn (c.p3 + 1)]
theorem orb_t (n : Int) : t_old_rows_before n = Pr.ok (orb n) := by
  unfold t_old_rows_before orb
  by_cases h : n > 0
  · simp [h]
  · simp [h]
theorem orb_len (n : Int) : (orb n).length ≤ 1 := by unfold orb; split <;> simp
theorem command_pieces_t (c : Cmd) : t_command_pieces c = Pr.ok (cp c) := by
  have h1 := orb_len c.p2
  unfold t_command_pieces cp
  by_cases h : c.p1 = "insert"
  · rw [if_pos (by simpa using h), if_pos h]
    unfold t_insert_pieces
    by_cases h2 : c.p2 = 0
    · rw [if_pos (by simpa using h2), if_pos h2]
    · rw [if_neg (by simpa using h2), if_neg h2, orb_t, Pr.ok_bind, cat_ok (by simp; omega)]
  · rw [if_neg (by simpa using h), if_neg h]
    unfold t_delete_pieces
    rw [orb_t, Pr.ok_bind, cat_ok (by simp; omega)]
/-- the rows of a command on the untouched sheet -/
def gC (c : Cmd) (k : Int) : Rw := if c.p1 = "insert" then (if k < c.p2 then some (k, k) else if k < c.p2 + c.p3 then (if c.p2 = 0 then none else some (c.p2 - 1, c.p2)) else some (k - c.p3, k - c.p3))
  else if k < c.p2 then some (k, k) else some (k + (c.p3 - c.p2 + 1), k + (c.p3 - c.p2 + 1))
theorem ins_ne_del : (("insert" : Str) = "delete") = False := by simp only [eq_iff_iff, iff_false]; decide +kernel
theorem del_ne_ins : (("delete" : Str) = "insert") = False := by simp only [eq_iff_iff, iff_false]; decide +kernel
theorem cp_ly {c : Cmd} (h : cmdOk c) : (∃ m t, Ly (cp c) m t) ∧ ∀ k, 0 ≤ k → lab (cp c) k = gC c k := by
  rcases h with ⟨h1, h2, h3⟩ | ⟨h1, h2, h3⟩
  · unfold cp gC
    simp only [if_pos h1]
    by_cases h4 : c.p2 = 0
    · simp only [if_pos h4]
      refine ⟨⟨[.top c.p3], 0, rfl, .mk rfl h3 .nil, Int.le_refl _⟩, fun k hk => ?_⟩
      rw [lab_top, lab_opn, if_neg (show ¬ k < c.p2 by omega)]
      by_cases h5 : k < c.p3
      · rw [if_pos h5, if_pos (by omega)]
      · rw [if_neg h5, if_neg (by omega)]
        congr 2 <;> omega
    · simp only [if_neg h4]
      have e : orb c.p2 = [.old 0 (c.p2 - 1)] := by unfold orb; rw [if_pos (by omega)]
      rw [e]
      refine ⟨⟨[.old 0 (c.p2 - 1), .new (c.p2 - 1) c.p2 c.p3], c.p2, rfl, .mk rfl ⟨Int.le_refl _, by omega⟩ (.mk rfl ⟨by omega, by omega, h3⟩ .nil), h2⟩, fun k hk => ?_⟩
      simp only [List.cons_append, List.nil_append]
      rw [lab_old, lab_new, lab_opn]
      by_cases h5 : k < c.p2
      · rw [if_pos (by omega), if_pos h5]
        congr 2 <;> omega
      · rw [if_neg (by omega), if_neg h5]
        by_cases h6 : k < c.p2 + c.p3
        · rw [if_pos (by omega), if_pos h6]
        · rw [if_neg (by omega), if_neg h6]
          congr 2 <;> omega
  · have hn : ¬ c.p1 = "insert" := by rw [h1, del_ne_ins]; exact id
    unfold cp gC
    simp only [if_neg hn]
    by_cases h4 : c.p2 > 0
    · have e : orb c.p2 = [.old 0 (c.p2 - 1)] := by unfold orb; rw [if_pos h4]
      rw [e]
      refine ⟨⟨[.old 0 (c.p2 - 1)], c.p3 + 1, rfl, .mk rfl ⟨Int.le_refl _, by omega⟩ .nil, by omega⟩, fun k hk => ?_⟩
      simp only [List.cons_append, List.nil_append]
      rw [lab_old, lab_opn]
      by_cases h5 : k < c.p2
      · rw [if_pos (by omega), if_pos h5]
        congr 2 <;> omega
      · rw [if_neg (by omega), if_neg h5]
        congr 2 <;> omega
    · have e : orb c.p2 = [] := by unfold orb; rw [if_neg h4]
      rw [e]
      refine ⟨⟨[], c.p3 + 1, rfl, .nil, by omega⟩, fun k hk => ?_⟩
      simp only [List.nil_append]
      rw [lab_opn, if_neg (by omega)]
      congr 2 <;> omega
theorem gC_ord {c : Cmd} (h : cmdOk c) : Ord (gC c) := fun k hk => by
  unfold gC
  rcases h with ⟨h1, h2, h3⟩ | ⟨h1, h2, h3⟩
  · simp only [if_pos h1]
    repeat' split
    all_goals (simp only [pr, okR]; try trivial)
    all_goals omega
  · have hn : ¬ c.p1 = "insert" := by rw [h1, del_ne_ins]; exact id
    simp only [if_neg hn]
    repeat' split
    all_goals simp only [pr, okR]
    all_goals omega
theorem cp_valid {c : Cmd} (h : cmdOk c) : valid (cp c) := by
  obtain ⟨⟨m, t, hm⟩, hl⟩ := cp_ly h
  exact validO hm (valid_eq (gC_ord h) hl)
end
section
set_option Elab.async false
set_option linter.all false
set_option maxRecDepth 100000
set_option maxHeartbeats 1000000
/-- what a command makes of rows -/
def appC (c : Cmd) (f : Int → Rw) (k : Int) : Rw := cmpR f (gC c k)
theorem appC_ins {c : Cmd} (h : c.p1 = "insert") (f : Int → Rw) (k : Int) : appC c f k = if k < c.p2 then f k else if k < c.p2 + c.p3 then (if c.p2 = 0 then none else cmpR f (some (c.p2 - 1, c.p2))) else f (k - c.p3) := by
  unfold appC gC
  rw [if_pos h]
  repeat' split
  all_goals first | rfl | exact cmp_old _ _
theorem appC_del {c : Cmd} (h : c.p1 = "delete") (f : Int → Rw) (k : Int) : appC c f k = if k < c.p2 then f k else f (k + (c.p3 - c.p2 + 1)) := by
  have hn : ¬ c.p1 = "insert" := by rw [h, del_ne_ins]; exact id
  unfold appC gC
  rw [if_neg hn]
  repeat' split
  all_goals exact cmp_old _ _
def rowsC (cs : List Cmd) (f : Int → Rw) : Int → Rw := cs.foldl (fun f c => appC c f) f
theorem FolP.len_old {l : List Pc} {a b : Int} {R : List Pc} (h : FolP l (.old a b) R) : R.length + ixr l a = ixr l b + 1 := h.2.2.2
theorem ixr_zero {l m : List Pc} {t : Int} (h : Ly l m t) : ixr l 0 = 0 := by
  rw [h.eq]
  cases m with
  | nil => rfl
  | cons p m =>
    have := rc_pos (h.cl.cons.1.2) (h.cl.cons.1.1)
    simp only [List.cons_append, ixr]
    rw [if_pos (Or.inr (by omega))]
theorem fol_len {l m : List Pc} {t : Int} (h : Ly l m t) {c : Cmd} (hc : cmdOk c) {R : List Pc} (hf : FolL l (cp c) R) : R.length ≤ l.length + 2 := by
  have h0 := ixr_zero h
  have hl : 1 ≤ l.length := by have := h.len; omega
  unfold cp at hf
  rcases hc with ⟨h1, h2, h3⟩ | ⟨h1, h2, h3⟩
  · simp only [if_pos h1] at hf
    by_cases h4 : c.p2 = 0
    · simp only [if_pos h4] at hf
      cases hf with
      | cons a b => cases b with
        | cons b c => cases c with
          | nil =>
            have e : _ = [Pc.top _] := a
            have := b.2.2
            rw [e]
            simp
            omega
    · simp only [if_neg h4] at hf
      have e : orb c.p2 = [.old 0 (c.p2 - 1)] := by unfold orb; rw [if_pos (by omega)]
      rw [e] at hf
      have hm := ixr_mono l (c.p2 - 1) c.p2 (by omega)
      cases hf with
      | cons a b => cases b with
        | cons b d => cases d with
          | cons d f => cases f with
            | nil =>
              have e1 := a.len_old
              obtain ⟨q, e2, _⟩ := b
              have e3 := d.2.2
              rw [e2]
              simp
              omega
  · have hn : ¬ c.p1 = "insert" := by rw [h1, del_ne_ins]; exact id
    simp only [if_neg hn] at hf
    by_cases h4 : c.p2 > 0
    · have e : orb c.p2 = [.old 0 (c.p2 - 1)] := by unfold orb; rw [if_pos h4]
      rw [e] at hf
      have hm := ixr_mono l (c.p2 - 1) (c.p3 + 1) (by omega)
      cases hf with
      | cons a b => cases b with
        | cons b d => cases d with
          | nil =>
            have e1 := a.len_old
            have e3 := b.2.2
            simp
            omega
    · have e : orb c.p2 = [] := by unfold orb; rw [if_neg h4]
      rw [e] at hf
      cases hf with
      | cons a b => cases b with
        | nil =>
          have e3 := a.2.2
          simp
          omega
theorem cp_len (c : Cmd) : (cp c).length ≤ 3 := by
  unfold cp
  have := orb_len c.p2
  split
  · split
    · simp
    · simp; omega
  · simp; omega
theorem cmd_step {s : Sq Pc} {c : Cmd} (hv : valid s.l) (hc : cmdOk c) (hl : s.l.length ≤ 10000) : ∃ R, t_followed s (cp c) = Pr.ok R ∧ valid R ∧ (∀ k, 0 ≤ k → lab R k = appC c (lab s.l) k) ∧ R.length ≤ s.l.length + 2 := by
  have hcl := cp_len c
  obtain ⟨R, e, hf⟩ := followed_t hv (cp_valid hc) hl (by omega)
  obtain ⟨v1, v2⟩ := fol_valid hv (cp_valid hc) hf
  obtain ⟨⟨m, t, hm⟩, _⟩ := rows_of hv
  have h1 := fol_len hm hc hf
  have h2 := nfl R
  exact ⟨nf R, e, v1, fun k hk => by rw [v2 k hk, (cp_ly hc).2 k hk]; rfl, by omega⟩
theorem behind_t {s : Sq Pc} {cs : List Cmd} (hv : valid s.l) (hc : ∀ c ∈ cs, cmdOk c) (hn : cs.length ≤ 1000) (hl : s.l.length ≤ 1000) : ∃ q : Sq Pc, t_pieces_behind cs s = Pr.ok q ∧ valid q.l ∧ (∀ k, 0 ≤ k → lab q.l k = rowsC cs (lab s.l) k) ∧ q.l.length ≤ s.l.length + 2 * cs.length := by
  obtain ⟨q, e, v1, v2, v3⟩ := forM_in (fun (x2 : Cmd) (s1 : (Sq Pc)) =>
  ((((t_command_pieces x2).bind fun (a8 : (List Pc)) => (t_followed s1 a8)).bind fun (a11 : (List Pc)) => cast (α := (List Pc)) (β := (Sq Pc)) a11).bind fun (pieces_12 : (Sq Pc)) =>
  (Pr.ok pieces_12))) cs (fun done q => valid q.l ∧ (∀ k, 0 ≤ k → lab q.l k = rowsC done (lab s.l) k) ∧ q.l.length ≤ s.l.length + 2 * done.length) (fun x done rest q e ⟨h1, h2, h3⟩ => by
    have hd : done.length ≤ 1000 := by rw [← e] at hn; simp at hn; omega
    have hx : cmdOk x := hc x (by rw [← e]; simp)
    obtain ⟨R, r1, r2, r3, r4⟩ := cmd_step h1 hx (by omega)
    refine ⟨⟨false, R⟩, ?_, r2, fun k hk => ?_, by simp; omega⟩
    · rw [command_pieces_t, Pr.ok_bind, r1, Pr.ok_bind, cast_ok (a := R) (b := (⟨false, R⟩ : Sq Pc)) (show en R = en (⟨false, R⟩ : Sq Pc) from rfl), Pr.ok_bind]
    · show lab R k = _
      rw [r3 k hk]
      unfold rowsC
      rw [List.foldl_append]
      show appC x (lab q.l) k = appC x (rowsC done (lab s.l)) k
      -- only rows from 0 on are looked at
      have hx2 := (gC_ord hx k hk).2
      unfold appC
      cases hg : gC x k with
      | none => rfl
      | some u =>
        obtain ⟨i, j⟩ := u
        rw [hg] at hx2
        simp only [okR] at hx2
        unfold cmpR
        simp only
        rw [h2 i (by omega), h2 j (by omega)]) cs [] s rfl ⟨hv, fun _ _ => rfl, by simp⟩
  refine ⟨q, ?_, v1, v2, v3⟩
  unfold t_pieces_behind
  rw [lim_ok (by omega), Pr.ok_bind]
  exact (congrArg (fun x => Pr.bind x _) e).trans rfl
theorem are_numbers_t (a b : Int) : t_are_numbers (a, b) 2 = Pr.ok true := by
  unfold t_are_numbers
  simp only [Pr.ok_bind, decide_true, if_true]
  rw [need_ok (by simp)]
  rfl
theorem is_command_t {c : Cmd} (h : cmdOk c) : t_is_command c = Pr.ok true := by
  unfold t_is_command
  rw [are_numbers_t]
  rcases h with ⟨h1, h2, h3⟩ | ⟨h1, h2, h3⟩
  · rw [h1]
    simp only [Bool.not_true, Bool.false_eq_true, if_false, Pr.ok_bind, decide_true, if_true]
    rw [show decide (c.p2 ≥ 0) = true by simpa using h2, show decide (c.p3 ≥ 1) = true by simpa using h3]
    rfl
  · rw [h1]
    simp only [Bool.not_true, Bool.false_eq_true, if_false, Pr.ok_bind, del_ne_ins, decide_false, decide_true, Bool.true_and]
    rw [show decide (0 ≤ c.p2) = true by simpa using h2, show decide (c.p2 ≤ c.p3) = true by simpa using h3]
    rfl
end
section
set_option Elab.async false
set_option linter.all false
set_option maxRecDepth 100000
set_option maxHeartbeats 1000000
theorem enumI_mem {α : Type} : ∀ {l : List α} {k : Nat} {x : Int × α}, x ∈ enumI k l → x.2 ∈ l
  | [], _, _, h => by cases h
  | y :: l, k, x, h => by
    rcases List.mem_cons.mp h with rfl | z
    · simp
    · exact List.mem_cons_of_mem _ (enumI_mem z)
theorem check_script_t {cs : List Cmd} (hc : ∀ c ∈ cs, cmdOk c) (hn : cs.length ≤ 1000) : t_check_script cs = Pr.ok () := by
  obtain ⟨u, e, _⟩ := forM_in (fun (x2 : (Int × Cmd)) (s1 : Unit) =>
  (((t_is_command x2.2).bind fun b => Pr.ok (!b)).bind fun c => if c then Pr.bad else
  (Pr.ok ()))) (enumI 0 cs) (fun _ _ => True) (fun x done rest s e _ => ⟨(), by
    have hx : cmdOk x.2 := hc _ (enumI_mem (k := 0) (x := x) (by rw [← e]; simp))
    rw [is_command_t hx]
    rfl, trivial⟩) (enumI 0 cs) [] () rfl trivial
  unfold t_check_script
  rw [lim_ok (by omega), Pr.ok_bind, Pr.ok_bind, e]
  rfl
end
section
set_option Elab.async false
set_option linter.all false
set_option maxRecDepth 100000
set_option maxHeartbeats 1000000
def IsFst (f : Int → Rw) (a r : Int) : Prop := 0 ≤ r ∧ (∃ x, f r = some x ∧ a ≤ x.1) ∧ ∀ j, 0 ≤ j → j < r → ∀ x, f j = some x → x.1 < a
def IsLst (f : Int → Rw) (b r : Int) : Prop := -1 ≤ r ∧ (0 ≤ r → ∃ x, f r = some x ∧ x.2 ≤ b) ∧ ∀ j, 0 ≤ j → r < j → ∀ x, f j = some x → b < x.2
def frB (a : Int) (x2 : Int × Pc) (s1 : Unit) : Pr (FlT Unit Int) :=
  (if (x2.2.isNew && (decide (x2.2.f1 ≥ a))) then (Pr.ok (FlT.rt x2.1)) else
  ((if x2.2.isOld then ((x2.2.f2.bind fun (a5 : (Option Int)) => cast (α := (Option Int)) (β := Int) a5).bind fun (a6 : Int) => (Pr.ok (decide (a6 ≥ a)))) else Pr.ok false).bind fun c => if c then (Pr.ok (FlT.rt (x2.1 + (if (a - x2.2.f1) > (0 : Int) then (a - x2.2.f1) else (0 : Int))))) else
  (Pr.ok (FlT.nx ()))))
/-- in one piece: the first row from a on, or none -/
theorem frB_t (a s : Int) {p : Pc} (ho : isOpn p = false) (hp : pok p) : (∃ k, 0 ≤ k ∧ k < rc p ∧ frB a (s, p) () = Pr.ok (.rt (s + k)) ∧ (∃ x, labP p k = some x ∧ a ≤ x.1) ∧ ∀ j, 0 ≤ j → j < k → ∀ x, labP p j = some x → x.1 < a) ∨ (frB a (s, p) () = Pr.ok (.nx ()) ∧ ∀ j, 0 ≤ j → j < rc p → ∀ x, labP p j = some x → x.1 < a) := by
  cases p with
  | top n => exact .inr ⟨rfl, fun j _ _ x z => by cases z⟩
  | opn t => cases ho
  | new u v n =>
    simp only [pok] at hp
    by_cases h : u ≥ a
    · left
      refine ⟨0, Int.le_refl _, by show 0 < n; omega, ?_, ⟨(u, v), rfl, h⟩, fun j h1 h2 => by omega⟩
      unfold frB
      rw [if_pos (by simp [Pc.isNew, Pc.f1, h]), Int.add_zero]
    · right
      refine ⟨?_, fun j h1 h2 x z => by cases z; show u < a; omega⟩
      unfold frB
      rw [if_neg (by simp [Pc.isNew, Pc.f1]; omega)]
      rfl
  | old u v =>
    simp only [pok] at hp
    by_cases h : v ≥ a
    · left
      refine ⟨if a - u > 0 then a - u else 0, by split <;> omega, by show _ < v - u + 1; split <;> omega, ?_, ⟨(u + (if a - u > 0 then a - u else 0), u + (if a - u > 0 then a - u else 0)), rfl, by show a ≤ u + _; split <;> omega⟩, fun j h1 h2 x z => ?_⟩
      · unfold frB
        simp only [Pc.isNew, Pc.f2, Bool.false_and, Bool.false_eq_true, if_false, Pc.isOld, if_true, Pr.ok_bind, cast_some, decide_eq_true_eq]
        rw [if_pos h]
        rfl
      · cases z
        show u + j < a
        split at h2 <;> omega
    · right
      refine ⟨?_, fun j h1 h2 x z => by cases z; show u + j < a; have h3 : j < v - u + 1 := h2; omega⟩
      unfold frB
      simp only [Pc.isNew, Pc.f2, Bool.false_and, Bool.false_eq_true, if_false, Pc.isOld, if_true, Pr.ok_bind, cast_some, decide_eq_true_eq]
      rw [if_neg h]
theorem fr_loop (a : Int) : ∀ (m : List Pc) (s : Int), Cl m → (∃ k, 0 ≤ k ∧ k < tt m ∧ Pr.forF (List.zip (stsF s m) m) () (frB a) = Pr.ok (.rt (s + k)) ∧ (∃ x, lab m k = some x ∧ a ≤ x.1) ∧ ∀ j, 0 ≤ j → j < k → ∀ x, lab m j = some x → x.1 < a) ∨ (Pr.forF (List.zip (stsF s m) m) () (frB a) = Pr.ok (.nx ()) ∧ ∀ j, 0 ≤ j → j < tt m → ∀ x, lab m j = some x → x.1 < a)
  | [], s, _ => .inr ⟨rfl, fun j h1 h2 => by simp only [tt] at h2; omega⟩
  | p :: m, s, h => by
    have hp := h.cons
    have hr := rc_pos hp.1.2 hp.1.1
    have ht := tt_nonneg hp.2
    have el : ∀ j, lab (p :: m) j = if j < rc p then labP p j else lab m (j - rc p) := fun j => by
      simp only [lab, hp.1.1, Bool.false_eq_true, false_or]
    have ef : List.zip (stsF s (p :: m)) (p :: m) = (s, p) :: List.zip (stsF (s + rc p) m) m := rfl
    rw [ef]
    rcases frB_t a s hp.1.1 hp.1.2 with ⟨k, k0, k1, e, x1, x2⟩ | ⟨e, x1⟩
    · left
      refine ⟨k, k0, by simp only [tt]; omega, forF_rt _ e, by rw [el, if_pos k1]; exact x1, fun j h1 h2 => ?_⟩
      rw [el, if_pos (by omega)]
      exact x2 j h1 h2
    · rw [forF_nx _ e]
      rcases fr_loop a m (s + rc p) hp.2 with ⟨k, k0, k1, e2, y1, y2⟩ | ⟨e2, y1⟩
      · left
        refine ⟨rc p + k, by omega, by simp only [tt]; omega, by rw [e2]; congr 2; omega, ?_, fun j h1 h2 => ?_⟩
        · rw [el, if_neg (by omega), show rc p + k - rc p = k by omega]
          exact y1
        · rw [el]
          split
          · exact x1 j h1 (by assumption)
          · exact y2 (j - rc p) (by omega) (by omega)
      · right
        refine ⟨e2, fun j h1 h2 => ?_⟩
        simp only [tt] at h2
        rw [el]
        split
        · exact x1 j h1 (by assumption)
        · exact y1 (j - rc p) (by omega) (by omega)
theorem sts_end : ∀ (m : List Pc) (s : Int), ∃ l, stsF s m = l ++ [s + tt m]
  | [], s => ⟨[], by simp [stsF, tt]⟩
  | p :: m, s => by
    obtain ⟨l, e⟩ := sts_end m (s + rc p)
    exact ⟨s :: l, by simp only [stsF, e, tt]; rw [List.cons_append]; congr 3; omega⟩
theorem first_t {l m : List Pc} {t : Int} (h : Ly l m t) (a : Int) : ∃ r, t_first_row_from l (stsF 0 m) a = Pr.ok r ∧ IsFst (lab l) a r := by
  have ec : cutD l none (some (-(1 : Int))) = m := by rw [h.eq]; exact cut_drop m _
  have ht := tt_nonneg h.cl
  have el : ∀ j, 0 ≤ j → lab l j = if j < tt m then lab m j else some (t + (j - tt m), t + (j - tt m)) := fun j hj => by
    rw [h.eq, lab_app _ _ _ h.cl hj, lab_opn]
  have eu : t_first_row_from l (stsF 0 m) a = (Pr.forF (List.zip (stsF 0 m) m) () (frB a)).flow (fun _ => ((idx (stsF 0 m) (-(1 : Int))).bind fun (a25 : Int) => ((((idx l (-(1 : Int))).bind fun (a18 : Pc) => (Pr.ok a18.f1)).bind fun (b21 : Int) => (Pr.ok (a - b21))).bind fun (a22 : Int) => (Pr.ok (if a22 > (0 : Int) then a22 else (0 : Int)))).bind fun (b26 : Int) => (Pr.ok (a25 + b26)))) (fun r => r) := by
    unfold t_first_row_from
    rw [ec]
    rfl
  rw [eu]
  rcases fr_loop a m 0 h.cl with ⟨k, k0, k1, e, x1, x2⟩ | ⟨e, x1⟩
  · refine ⟨k, by rw [e, show (0 : Int) + k = k by omega]; rfl, k0, by rw [el k k0, if_pos k1]; exact x1, fun j h1 h2 => ?_⟩
    rw [el j h1, if_pos (by omega)]
    exact x2 j h1 h2
  · obtain ⟨sl, es⟩ := sts_end m 0
    have e1 : idx (stsF 0 m) (-(1 : Int)) = Pr.ok (tt m) := by rw [es]; rw [show (0 : Int) + tt m = tt m by omega]; exact idx_last sl (tt m)
    have e2 : idx l (-(1 : Int)) = Pr.ok (.opn t) := by rw [h.eq]; exact idx_last m (.opn t)
    refine ⟨tt m + (if a - t > 0 then a - t else 0), ?_, by split <;> omega, ?_, fun j h1 h2 x hx => ?_⟩
    · rw [e]
      show ((idx (stsF 0 m) (-(1 : Int))).bind _) = _
      rw [e1, Pr.ok_bind, e2]
      rfl
    · rw [el _ (by split <;> omega), if_neg (by split <;> omega)]
      refine ⟨_, rfl, ?_⟩
      show a ≤ t + _
      split <;> omega
    · rw [el j h1] at hx
      split at hx
      · exact x1 j h1 (by assumption) x hx
      · cases hx
        show t + (j - tt m) < a
        split at h2 <;> omega
end
section
set_option Elab.async false
set_option linter.all false
set_option maxRecDepth 100000
set_option maxHeartbeats 1000000
def lrB (b : Int) (x2 : Int × Pc) (s1 : Int) : Pr Int :=
  (((if x2.2.isNew then ((x2.2.f2.bind fun (a5 : (Option Int)) => cast (α := (Option Int)) (β := Int) a5).bind fun (a6 : Int) => (Pr.ok (decide (a6 ≤ b)))) else Pr.ok false).bind fun c => if c then (((x2.2.f3.bind fun (b12 : Int) => (Pr.ok (x2.1 + b12))).bind fun (a13 : Int) => (Pr.ok (a13 - (1 : Int)))).bind fun (found_15 : Int) =>
  (Pr.ok found_15)) else (Pr.ok s1)).bind fun (s8 : Int) =>
  ((if (x2.2.isOld && (decide (x2.2.f1 ≤ b))) then (((((x2.2.f2.bind fun (a24 : (Option Int)) => (t_lesser (some b) a24)).bind fun (a27 : (Option Int)) => cast (α := (Option Int)) (β := Int) a27).bind fun (b29 : Int) => (Pr.ok (x2.1 + b29))).bind fun (a30 : Int) => (Pr.ok (a30 - x2.2.f1))).bind fun (found_32 : Int) =>
  (Pr.ok found_32)) else (Pr.ok s8)).bind fun (s21 : Int) =>
  (Pr.ok s21)))
theorem lesser_some (b c : Int) : t_lesser (some b) (some c) = Pr.ok (some (if c < b then c else b)) := by
  unfold t_lesser
  simp only [Option.isNone_some, Bool.false_eq_true, if_false, cast_some, Pr.ok_bind]
  exact cast_ok rfl
theorem lesser_none (b : Int) : t_lesser (some b) none = Pr.ok (some b) := rfl
def inP (p : Pc) (j : Int) : Prop := isOpn p = true ∨ j < rc p
theorem lrB_t (b s f0 : Int) {p : Pc} (hp : pok p) : ∃ f', lrB b (s, p) f0 = Pr.ok f' ∧ ((f' = f0 ∧ ∀ j, 0 ≤ j → inP p j → ∀ x, labP p j = some x → b < x.2) ∨ (∃ k, f' = s + k ∧ 0 ≤ k ∧ inP p k ∧ (∃ x, labP p k = some x ∧ x.2 ≤ b) ∧ ∀ j, k < j → inP p j → ∀ x, labP p j = some x → b < x.2)) := by
  cases p with
  | top n => exact ⟨f0, rfl, .inl ⟨rfl, fun j _ _ x z => by cases z⟩⟩
  | new u v n =>
    simp only [pok] at hp
    by_cases h : v ≤ b
    · refine ⟨s + n - 1, ?_, .inr ⟨n - 1, by omega, by omega, .inr (by show n - 1 < n; omega), ⟨(u, v), rfl, h⟩, fun j h1 h2 => ?_⟩⟩
      · unfold lrB
        simp only [Pc.isNew, Pc.isOld, Pc.f2, Pc.f3, if_true, Pr.ok_bind, cast_some, Bool.false_and, Bool.false_eq_true, if_false, decide_eq_true_eq]
        rw [if_pos h]
        rfl
      · rcases h2 with z | z
        · cases z
        · have : j < n := z
          omega
    · refine ⟨f0, ?_, .inl ⟨rfl, fun j _ _ x z => by cases z; show b < v; omega⟩⟩
      unfold lrB
      simp only [Pc.isNew, Pc.isOld, Pc.f2, Pc.f3, if_true, Pr.ok_bind, cast_some, Bool.false_and, Bool.false_eq_true, if_false, decide_eq_true_eq]
      rw [if_neg h]
      rfl
  | old u v =>
    simp only [pok] at hp
    by_cases h : u ≤ b
    · refine ⟨s + (if v < b then v else b) - u, ?_, .inr ⟨(if v < b then v else b) - u, by omega, by split <;> omega, .inr (by show _ < v - u + 1; split <;> omega), ⟨(u + ((if v < b then v else b) - u), u + ((if v < b then v else b) - u)), rfl, by show u + _ ≤ b; split <;> omega⟩, fun j h1 h2 x z => ?_⟩⟩
      · unfold lrB
        rw [show ((s, Pc.old u v).2.isOld && decide ((s, Pc.old u v).2.f1 ≤ b)) = true by simp [Pc.isOld, Pc.f1, h]]
        simp only [Pc.isNew, Bool.false_eq_true, if_false, Pr.ok_bind, if_true, Pc.f2, lesser_some, cast_some]
        rfl
      · cases z
        rcases h2 with z | z
        · cases z
        · have : j < v - u + 1 := z
          show b < u + j
          split at h1 <;> omega
    · refine ⟨f0, ?_, .inl ⟨rfl, fun j h1 _ x z => by cases z; show b < u + j; omega⟩⟩
      unfold lrB
      rw [show ((s, Pc.old u v).2.isOld && decide ((s, Pc.old u v).2.f1 ≤ b)) = false by show (true && decide (u ≤ b)) = false; rw [decide_eq_false h]; rfl]
      rfl
  | opn u =>
    have hp : 0 ≤ u := hp
    by_cases h : u ≤ b
    · refine ⟨s + b - u, ?_, .inr ⟨b - u, by omega, by omega, .inl rfl, ⟨(u + (b - u), u + (b - u)), rfl, by show u + (b - u) ≤ b; omega⟩, fun j h1 h2 x z => ?_⟩⟩
      · unfold lrB
        rw [show ((s, Pc.opn u).2.isOld && decide ((s, Pc.opn u).2.f1 ≤ b)) = true by simp [Pc.isOld, Pc.f1, h]]
        simp only [Pc.isNew, Bool.false_eq_true, if_false, Pr.ok_bind, if_true, Pc.f2, lesser_none, cast_some]
        rfl
      · cases z
        show b < u + j
        omega
    · refine ⟨f0, ?_, .inl ⟨rfl, fun j h1 _ x z => by cases z; show b < u + j; omega⟩⟩
      unfold lrB
      rw [show ((s, Pc.opn u).2.isOld && decide ((s, Pc.opn u).2.f1 ≤ b)) = false by show (true && decide (u ≤ b)) = false; rw [decide_eq_false h]; rfl]
      rfl
theorem lr_loop (b t : Int) (ht : 0 ≤ t) : ∀ (m : List Pc) (s f0 : Int), Cl m → ∃ f', Pr.forM (List.zip (stsF s m) (m ++ [.opn t])) f0 (lrB b) = Pr.ok f' ∧ ((f' = f0 ∧ ∀ j, 0 ≤ j → ∀ x, lab (m ++ [.opn t]) j = some x → b < x.2) ∨ (∃ k, f' = s + k ∧ 0 ≤ k ∧ (∃ x, lab (m ++ [.opn t]) k = some x ∧ x.2 ≤ b) ∧ ∀ j, k < j → ∀ x, lab (m ++ [.opn t]) j = some x → b < x.2))
  | [], s, f0, _ => by
    obtain ⟨f', e, h⟩ := lrB_t b s f0 (p := .opn t) ht
    refine ⟨f', ?_, ?_⟩
    · show (lrB b (s, .opn t) f0).bind _ = _
      rw [e]
      rfl
    · rcases h with ⟨h1, h2⟩ | ⟨k, h1, h2, h3, h4, h5⟩
      · exact .inl ⟨h1, fun j hj x hx => h2 j hj (.inl rfl) x hx⟩
      · exact .inr ⟨k, h1, h2, h4, fun j hj x hx => h5 j hj (.inl rfl) x hx⟩
  | p :: m, s, f0, h => by
    have hp := h.cons
    have hr := rc_pos hp.1.2 hp.1.1
    have el : ∀ j, lab (p :: m ++ [.opn t]) j = if j < rc p then labP p j else lab (m ++ [.opn t]) (j - rc p) := fun j => by
      simp only [List.cons_append, lab, hp.1.1, Bool.false_eq_true, false_or]
    obtain ⟨f1, e1, h1⟩ := lrB_t b s f0 hp.1.2
    obtain ⟨f2, e2, h2⟩ := lr_loop b t ht m (s + rc p) f1 hp.2
    refine ⟨f2, ?_, ?_⟩
    · show (lrB b (s, p) f0).bind _ = _
      rw [e1, Pr.ok_bind]
      exact e2
    · rcases h2 with ⟨x1, x2⟩ | ⟨k, x1, x2, x3, x4⟩
      · rcases h1 with ⟨y1, y2⟩ | ⟨k, y1, y2, y3, y4, y5⟩
        · refine .inl ⟨by omega, fun j hj x hx => ?_⟩
          rw [el] at hx
          split at hx
          · exact y2 j hj (.inr (by assumption)) x hx
          · exact x2 _ (by omega) x hx
        · have y3 : k < rc p := by rcases y3 with z | z; (rw [hp.1.1] at z; cases z); exact z
          refine .inr ⟨k, by omega, y2, by rw [el, if_pos y3]; exact y4, fun j hj x hx => ?_⟩
          rw [el] at hx
          split at hx
          · exact y5 j hj (.inr (by assumption)) x hx
          · exact x2 _ (by omega) x hx
      · refine .inr ⟨rc p + k, by omega, by omega, by rw [el, if_neg (by omega), show rc p + k - rc p = k by omega]; exact x3, fun j hj x hx => ?_⟩
        rw [el, if_neg (by omega)] at hx
        exact x4 _ (by omega) x hx
theorem last_t {l m : List Pc} {t : Int} (h : Ly l m t) (b : Int) : ∃ r, t_last_row_up_to l (stsF 0 m) b = Pr.ok r ∧ IsLst (lab l) b r := by
  obtain ⟨f', e, hh⟩ := lr_loop b t h.t0 m 0 (-1) h.cl
  rw [← h.eq] at e hh
  refine ⟨f', ?_, ?_⟩
  · unfold t_last_row_up_to
    rw [Pr.ok_bind]
    exact (congrArg (fun x => Pr.bind x _) e).trans rfl
  · rcases hh with ⟨h1, h2⟩ | ⟨k, h1, h2, h3, h4⟩
    · exact ⟨by omega, fun z => by omega, fun j hj _ x hx => h2 j hj x hx⟩
    · have : f' = k := by omega
      subst this
      exact ⟨by omega, fun _ => h3, fun j _ hk x hx => h4 j hk x hx⟩
theorem IsFst.congr {f g : Int → Rw} {a r : Int} (h : IsFst f a r) (e : ∀ k, 0 ≤ k → f k = g k) : IsFst g a r :=
  ⟨h.1, by rw [← e r h.1]; exact h.2.1, fun j hj hk => by rw [← e j hj]; exact h.2.2 j hj hk⟩
theorem IsLst.congr {f g : Int → Rw} {a r : Int} (h : IsLst f a r) (e : ∀ k, 0 ≤ k → f k = g k) : IsLst g a r :=
  ⟨h.1, fun z => by rw [← e r z]; exact h.2.1 z, fun j hj hk => by rw [← e j hj]; exact h.2.2 j hj hk⟩
def spanOk (s : Int × Option Int) : Prop := 0 ≤ s.1 ∧ ∀ b, s.2 = some b → s.1 ≤ b
theorem check_span_t {s : Int × Option Int} (h : spanOk s) : t_check_span s = Pr.ok () := by
  obtain ⟨a, ob⟩ := s
  obtain ⟨h1, h2⟩ := h
  have e : t_is_span (a, ob) = Pr.ok true := by
    unfold t_is_span t_is_range t_is_number
    simp only [Bool.not_true, Bool.not_false, Bool.and_self, Bool.false_or, decide_true, Bool.false_eq_true, if_false, Pr.ok_bind]
    rw [show decide (a < 0) = false by simp; exact h1]
    simp only [Bool.false_eq_true, if_false]
    cases ob with
    | none => rfl
    | some b =>
      simp only [Option.isNone_some, Bool.false_eq_true, if_false, cast_some, Pr.ok_bind, if_true]
      rw [show decide (a ≤ b) = true by simpa using h2 b rfl]
  unfold t_check_span
  rw [e]
  rfl
theorem carried_open {L : Lay} {f : Int → Rw} (h : IsL L f) {a : Int} (ha : 0 ≤ a) : ∃ r, t_carried L (a, none) = Pr.ok (some (r, none)) ∧ IsFst f a r := by
  obtain ⟨⟨m, t, hm⟩, _⟩ := rows_of h.ok
  obtain ⟨r, e, hr⟩ := first_t hm a
  refine ⟨r, ?_, hr.congr h.rows⟩
  have es : L.starts = stsF 0 m := by rw [h.st]; show stsF 0 L.parts.dropLast = _; rw [hm.eq, List.dropLast_concat]
  unfold t_carried t_carried_by
  rw [check_span_t ⟨ha, fun b z => by cases z⟩, Pr.ok_bind, es, e, Pr.ok_bind]
  exact cast_ok rfl
theorem carried_closed {L : Lay} {f : Int → Rw} (h : IsL L f) {a b : Int} (ha : 0 ≤ a) (hb : a ≤ b) : ∃ r e, t_carried L (a, some b) = Pr.ok (if r ≤ e then some (r, some e) else none) ∧ IsFst f a r ∧ IsLst f b e := by
  obtain ⟨⟨m, t, hm⟩, _⟩ := rows_of h.ok
  obtain ⟨r, e, hr⟩ := first_t hm a
  obtain ⟨r2, e2, hr2⟩ := last_t hm b
  refine ⟨r, r2, ?_, hr.congr h.rows, hr2.congr h.rows⟩
  have es : L.starts = stsF 0 m := by rw [h.st]; show stsF 0 L.parts.dropLast = _; rw [hm.eq, List.dropLast_concat]
  unfold t_carried t_carried_by
  rw [check_span_t ⟨ha, fun c z => by cases z; exact hb⟩, Pr.ok_bind, es, e, Pr.ok_bind]
  simp only [Option.isNone_some, Bool.false_eq_true, if_false, cast_some, Pr.ok_bind]
  rw [e2, Pr.ok_bind]
  by_cases hc : r ≤ r2
  · rw [if_pos (by simpa using hc), if_pos hc]
    exact cast_ok rfl
  · rw [if_neg (by simpa using hc), if_neg hc]
end
section
set_option Elab.async false
set_option linter.all false
set_option maxRecDepth 100000
set_option maxHeartbeats 1000000
theorem lcM_ok {β γ : Type} {c : β → Pr Bool} {g : β → Pr γ} {cb : β → Bool} {gv : β → γ} : ∀ (l : List β), (∀ x ∈ l, c x = Pr.ok (cb x) ∧ g x = Pr.ok (gv x)) → Pr.lcM l c g = Pr.ok ((l.filter cb).map gv)
  | [], _ => rfl
  | x :: l, h => by
    obtain ⟨h1, h2⟩ := h x (by simp)
    have ih := lcM_ok l fun y hy => h y (by simp [hy])
    show (c x).bind _ = _
    rw [h1, Pr.ok_bind]
    cases hc : cb x with
    | true =>
      rw [if_pos rfl, h2, Pr.ok_bind, ih, Pr.ok_bind, List.filter_cons_of_pos hc]
      rfl
    | false =>
      rw [if_neg (by simp), ih, List.filter_cons_of_neg (by simp [hc])]
theorem rngI_len (lo : Int) (n : Nat) : (rngI lo n).length = n := by simp [rngI]
theorem rngI_mem {lo : Int} {n : Nat} {x : Int} : x ∈ rngI lo n ↔ lo ≤ x ∧ x < lo + n := by
  unfold rngI
  simp only [List.mem_map, List.mem_range]
  constructor
  · rintro ⟨k, h, rfl⟩; omega
  · rintro ⟨h1, h2⟩; exact ⟨(x - lo).toNat, by omega, by omega⟩
theorem need_T {α : Type} {c : Prop} (h : c) (p : Pr α) : Pr.need c p = p := need_ok h p
theorem filter_T {α : Type} (l : List α) : (l.filter fun _ => true) = l := List.filter_eq_self.mpr fun _ _ => rfl
theorem sm_of {n : Int} (h : -1000 ≤ n) (h' : n ≤ 1000000) : sm n := ⟨by omega, by omega⟩
theorem forF_unit {α ρ : Type} {b : α → Unit → Pr (FlT Unit ρ)} {E : Exn → Prop} : ∀ (l : List α) (Q : FlT Unit ρ → Prop), (∀ x ∈ l, ∀ Q : FlT Unit ρ → Prop, Q (.nx ()) → b x () Q E) → Q (.nx ()) → Pr.forF l () b Q E
  | [], Q, _, h => h
  | x :: l, Q, hb, h => by
    refine hb x (by simp) _ ?_
    exact forF_unit l Q (fun y hy => hb y (by simp [hy])) h
theorem pull_i {n : Int} {Q : Int → Prop} {E : Exn → Prop} (h0 : 0 < n) (h1 : n < 1073741824) (h : ∀ v, 0 ≤ v → v < n → Q v) : Pr.pull n Q E := ⟨h0, h1, h⟩
theorem of_i {α : Type} {l : List α} {Q : α → Prop} {E : Exn → Prop} (h0 : l ≠ []) (h1 : l.length < 1073741824) (h : ∀ x ∈ l, Q x) : Pr.of l Q E := ⟨h0, h1, h⟩
theorem bind_i {α β : Type} {p : Pr α} {k : α → Pr β} {Q : β → Prop} {E : Exn → Prop} (h : p (fun a => k a Q E) E) : (p.bind k) Q E := h
theorem flow_i {α ρ β : Type} {l : List α} {b : α → Unit → Pr (FlT Unit ρ)} {k : Unit → Pr β} {w : ρ → β} {Q : β → Prop} {E : Exn → Prop} (hb : ∀ x ∈ l, ∀ Q : FlT Unit ρ → Prop, Q (.nx ()) → b x () Q E) (h : k () Q E) : (Pr.flow (Pr.forF l () b) k w) Q E :=
  forF_unit l _ hb h
end
section
set_option Elab.async false
set_option linter.all false
set_option maxRecDepth 100000
set_option maxHeartbeats 1000000
def carR (f : Int → Rw) (s : Int × Option Int) (w : Option (Int × Option Int)) : Prop := match s.2 with
  | none => ∃ r, IsFst f s.1 r ∧ w = some (r, none)
  | some b => ∃ r e, IsFst f s.1 r ∧ IsLst f b e ∧ w = if r ≤ e then some (r, some e) else none
theorem carried_t {L : Lay} {f : Int → Rw} (h : IsL L f) {s : Int × Option Int} (hs : spanOk s) : ∃ w, t_carried L s = Pr.ok w ∧ carR f s w := by
  obtain ⟨a, b⟩ := s
  cases b with
  | none =>
    obtain ⟨r, e, hr⟩ := carried_open h (a := a) hs.1
    exact ⟨_, e, r, hr, rfl⟩
  | some b =>
    obtain ⟨r, e, he, h1, h2⟩ := carried_closed h (a := a) (b := b) hs.1 (hs.2 b rfl)
    exact ⟨_, he, r, e, h1, h2, rfl⟩
theorem low_iff {f : Int → Rw} (hf : Ord f) {a r : Int} (h : IsFst f a r) {i : Int} (hi : 0 ≤ i) : (∃ x, f i = some x ∧ a ≤ x.1) ↔ r ≤ i := by
  constructor
  · rintro ⟨x, hx, ha⟩
    by_cases hr : r ≤ i
    · exact hr
    · have := h.2.2 i hi (by omega) x hx
      omega
  · intro hr
    obtain ⟨x, hx, ha⟩ := h.2.1
    obtain ⟨y, hy, h1, _⟩ := hf.some_le h.1 hr hx
    exact ⟨y, hy, by omega⟩
theorem high_iff {f : Int → Rw} (hf : Ord f) {b e : Int} (h : IsLst f b e) {i : Int} (hi : 0 ≤ i) {x : Int × Int} (hx : f i = some x) : x.2 ≤ b ↔ i ≤ e := by
  constructor
  · intro hb
    by_cases hr : i ≤ e
    · exact hr
    · have := h.2.2 i hi (by omega) x hx
      omega
  · intro hr
    obtain ⟨y, hy, hb⟩ := h.2.1 (by omega)
    obtain ⟨z, hz, _, h2⟩ := hf.some_le hi hr hx
    rw [hy] at hz
    cases hz
    omega
end
section
set_option Elab.async false
set_option linter.all false
set_option maxRecDepth 100000
set_option maxHeartbeats 1000000
theorem rowsC_snoc (cs : List Cmd) (c : Cmd) (f : Int → Rw) : rowsC (cs ++ [c]) f = appC c (rowsC cs f) := by
  unfold rowsC
  rw [List.foldl_append]
  rfl
end
section
set_option Elab.async false
set_option linter.all false
set_option maxRecDepth 100000
set_option maxHeartbeats 1000000
theorem labP_same {p q : Pc} (hp : pok p) (hq : pok q) (h : labP p 0 = labP q 0) (k : Int) : labP p k = labP q k := by
  cases p <;> cases q <;> simp only [labP, pok, Option.some.injEq, Prod.mk.injEq] at * <;> first | exact h | rfl | (exfalso; omega) | (constructor <;> omega) | trivial | (cases h; done)
theorem pc_same {p q : Pc} (hp : pok p) (hq : pok q) (h : labP p 0 = labP q 0) (ho : isOpn p = isOpn q) (hr : isOpn p = false → rc p = rc q) : p = q := by
  cases p <;> cases q <;> simp only [labP, pok, isOpn, rc, Option.some.injEq, Prod.mk.injEq, Bool.false_eq_true, Bool.true_eq_false, forall_const] at * <;> first | (exfalso; omega) | (cases h; done) | (cases ho; done) | (congr 1 <;> omega) | (congr <;> omega)
theorem jnN_lab {p q : Pc} (hp : pok p) (hq : pok q) (ho : isOpn p = false) (h : jn p q = none) : labP q 0 ≠ labP p (rc p) := by
  intro e
  cases p <;> cases q <;> simp only [labP, pok, isOpn, rc, jn, Option.some.injEq, Prod.mk.injEq, Bool.false_eq_true, Bool.true_eq_false] at * <;> (try (cases e; done)) <;> (try (cases h; done)) <;> (try (cases ho; done)) <;> first | (rw [if_pos (by omega)] at h; cases h) | (exfalso; omega)
theorem nf_uniq0 (m' : List Pc) (p : Pc) (t t' : Int) (hc' : Cl (p :: m')) (ht : 0 ≤ t) (ht' : 0 ≤ t') (ha' : adj jnN (p :: m' ++ [.opn t'])) (h : ∀ k, 0 ≤ k → lab ([] ++ [.opn t]) k = lab (p :: m' ++ [.opn t']) k) : False := by
  obtain ⟨⟨ho, hp⟩, hcm⟩ := hc'.cons
  have h1 := rc_pos hp ho
  have e0 := h 0 (Int.le_refl _)
  rw [List.cons_append, lab_head _ (Or.inr (by omega)), show lab ([] ++ [Pc.opn t]) 0 = labP (.opn t) 0 from rfl] at e0
  have e1 := h (rc p) (by omega)
  have e2 := lab_tail (m' ++ [.opn t']) ho 0 (Int.le_refl _)
  rw [List.cons_append, show rc p = 0 + rc p by omega, e2] at e1
  have e3 := labP_same (p := .opn t) (q := p) ht hp e0 (rc p)
  obtain ⟨q, r, hq⟩ : ∃ q r, m' ++ [.opn t'] = q :: r := by cases m' <;> exact ⟨_, _, rfl⟩
  have hqp : pok q ∧ (isOpn q = true ∨ 0 < rc q) := by
    cases m' with
    | nil => cases hq; exact ⟨ht', .inl rfl⟩
    | cons x m' => cases hq; have := hcm.cons.1; exact ⟨this.2, .inr (by have := rc_pos this.2 this.1; omega)⟩
  rw [hq] at e1
  rw [lab_head _ hqp.2, Int.zero_add] at e1
  refine jnN_lab hp hqp.1 ho ?_ (e1.symm.trans (by show labP (.opn t) (rc p) = _; exact e3))
  have := ha'.1 q (by show (_ ++ _ : List Pc).head? = _; rw [hq]; rfl)
  exact this
theorem nf_uniq : ∀ (m m' : List Pc) (t t' : Int), Cl m → Cl m' → 0 ≤ t → 0 ≤ t' → adj jnN (m ++ [.opn t]) → adj jnN (m' ++ [.opn t']) → (∀ k, 0 ≤ k → lab (m ++ [.opn t]) k = lab (m' ++ [.opn t']) k) → m ++ [.opn t] = m' ++ [.opn t']
  | [], [], t, t', _, _, _, _, _, _, h => by
    have := h 0 (Int.le_refl _)
    simp only [List.nil_append, lab_opn, Option.some.injEq, Prod.mk.injEq] at this
    have : t = t' := by omega
    rw [this]
  | [], p :: m', t, t', hc, hc', ht, ht', ha, ha', h => (nf_uniq0 m' p t t' hc' ht ht' ha' h).elim
  | p :: m, [], t, t', hc, hc', ht, ht', ha, ha', h => by
    exact (nf_uniq0 m p t' t hc ht' ht ha fun k hk => (h k hk).symm).elim
  | p :: m, p' :: m', t, t', hc, hc', ht, ht', ha, ha', h => by
    obtain ⟨⟨ho, hp⟩, hcm⟩ := hc.cons
    obtain ⟨⟨ho', hp'⟩, hcm'⟩ := hc'.cons
    have r1 := rc_pos hp ho
    have r1' := rc_pos hp' ho'
    have e0 := h 0 (Int.le_refl _)
    rw [List.cons_append, List.cons_append, lab_head _ (Or.inr (by omega)), lab_head _ (Or.inr (by omega))] at e0
    have key : ∀ (p p' : Pc) (m m' : List Pc) (t t' : Int), Cl m → 0 ≤ t → pok p → pok p' → isOpn p = false → isOpn p' = false → adj jnN (p :: m ++ [.opn t]) → labP p 0 = labP p' 0 → (∀ k, 0 ≤ k → lab (p :: m ++ [.opn t]) k = lab (p' :: m' ++ [.opn t']) k) → ¬ rc p < rc p' := by
      intro p p' m m' t t' hcm ht hp hp' ho ho' ha e0 h hlt
      have r1 := rc_pos hp ho
      have e1 := h (rc p) (by omega)
      have e2 := lab_tail (m ++ [.opn t]) ho 0 (Int.le_refl _)
      rw [List.cons_append, show rc p = 0 + rc p by omega, e2, Int.zero_add] at e1
      have e4 : lab (p' :: m' ++ [.opn t']) (rc p) = labP p' (rc p) := by
        rw [List.cons_append, lab, if_pos (Or.inr hlt)]
      rw [e4, ← labP_same hp hp' e0] at e1
      obtain ⟨q, r, hq⟩ : ∃ q r, m ++ [.opn t] = q :: r := by cases m <;> exact ⟨_, _, rfl⟩
      have hqp : pok q ∧ (isOpn q = true ∨ 0 < rc q) := by
        cases m with
        | nil => cases hq; exact ⟨ht, .inl rfl⟩
        | cons x m => cases hq; have := hcm.cons.1; exact ⟨this.2, .inr (by have := rc_pos this.2 this.1; omega)⟩
      rw [hq, lab_head _ hqp.2] at e1
      exact jnN_lab hp hqp.1 ho (ha.1 q (by show (_ ++ _ : List Pc).head? = _; rw [hq]; rfl)) e1
    have n1 := key p p' m m' t t' hcm ht hp hp' ho ho' ha e0 h
    have n2 := key p' p m' m t' t hcm' ht' hp' hp ho' ho ha' e0.symm fun k hk => (h k hk).symm
    have er : rc p = rc p' := by omega
    have ep : p = p' := pc_same hp hp' e0 (ho.trans ho'.symm) fun _ => er
    subst ep
    have := nf_uniq m m' t t' hcm hcm' ht ht' ha.2 ha'.2 fun k hk => by
      have e1 := h (k + rc p) (by omega)
      rw [List.cons_append, List.cons_append, lab_tail _ ho k hk, lab_tail _ ho k hk] at e1
      exact e1
    rw [List.cons_append, List.cons_append, this]
theorem chain_okp : ∀ (r : List Pc) (p : Pc), pok p → chain p r → okp (p :: r)
  | [], p, hp, _ => okp_one hp
  | q :: r, p, hp, ⟨hq, hm, hc⟩ => by
    have := chain_okp r q hq hc
    refine ⟨fun x hx => ?_, fun y hy => ?_, this.2⟩
    · rcases List.mem_cons.mp hx with rfl | z
      · exact hp
      · exact this.1 x z
    · cases hy; exact hm
theorem valid_okp {l : List Pc} (h : valid l) : okp l := by
  cases l with
  | nil => exact h.elim
  | cons p r => exact chain_okp r p h.1 h.2.1
theorem nf_nrm {l : List Pc} (h : valid l) : adj jnN (nf l) := (nf_NF (valid_okp h)).nrm
/-- a layout in normal form whose rows are f -/
structure IsN (L : Lay) (f : Int → Rw) : Prop extends IsL L f where
  nrm : adj jnN L.parts
theorem IsN.uniq {L L' : Lay} {f g : Int → Rw} (h : IsN L f) (h' : IsN L' g) (e : ∀ k, 0 ≤ k → f k = g k) : L = L' := by
  have hp : L.parts = L'.parts := by
    obtain ⟨⟨m, t, hl⟩, _⟩ := rows_of h.ok
    obtain ⟨⟨m', t', hl'⟩, _⟩ := rows_of h'.ok
    have h1 := h.nrm; have h2 := h'.nrm
    rw [hl.eq] at h1
    rw [hl'.eq] at h2
    rw [hl.eq, hl'.eq]
    refine nf_uniq m m' t t' hl.cl hl'.cl hl.t0 hl'.t0 h1 h2 fun k hk => ?_
    rw [← hl.eq, ← hl'.eq, h.rows k hk, h'.rows k hk, e k hk]
  rw [h.st, h'.st, hp]
theorem IsN.congr {L : Lay} {f g : Int → Rw} (h : IsN L f) (e : ∀ k, 0 ≤ k → f k = g k) : IsN L g := ⟨⟨h.st, h.ok, fun k hk => (h.rows k hk).trans (e k hk)⟩, h.nrm⟩
end
section
set_option Elab.async false
set_option linter.all false
set_option maxRecDepth 100000
set_option maxHeartbeats 400000
def prs (p : Pc) : List (Int × Option Int) := match p with
  | .top _ => []
  | .old a b => [(a, some b)]
  | .opn a => [(a, none)]
  | .new a b _ => [(a, some b)]
def oldP (l : List Pc) : List (Int × Option Int) := (l.filter Pc.isOld).map fun p => (p.f1, match p with | .old _ b => some b | .new _ b _ => some b | _ => none)
def newP (l : List Pc) : List (Int × Option Int) := (l.filter Pc.isNew).map fun p => (p.f1, match p with | .old _ b => some b | .new _ b _ => some b | _ => none)
theorem old_ranges_t {l : List Pc} (h : l.length ≤ 1000) : t_old_ranges l = Pr.ok (oldP l) := by
  have : ∀ l : List Pc, Pr.lcM l (fun (x1 : Pc) => (Pr.ok x1.isOld)) (fun (x1 : Pc) => (x1.f2.bind fun (a4 : (Option Int)) => (Pr.ok ((x1.f1, a4) : (Int × (Option Int)))))) = Pr.ok (oldP l) := by
    intro l
    induction l with
    | nil => rfl
    | cons p l ih =>
      show (Pr.ok p.isOld).bind _ = _
      rw [Pr.ok_bind]
      cases p with
      | top n => rw [if_neg (by simp [Pc.isOld]), ih]; rfl
      | new a b n => rw [if_neg (by simp [Pc.isOld]), ih]; rfl
      | old a b => rw [if_pos (show (Pc.old a b).isOld = true from rfl)]; rw [ih]; rfl
      | opn a => rw [if_pos (show (Pc.opn a).isOld = true from rfl)]; rw [ih]; rfl
  unfold t_old_ranges
  rw [Pr.ok_bind, need_T (by omega), this]
theorem new_labels_t {l : List Pc} (h : l.length ≤ 1000) : t_new_labels l = Pr.ok (newP l) := by
  have : ∀ l : List Pc, Pr.lcM l (fun (x1 : Pc) => (Pr.ok x1.isNew)) (fun (x1 : Pc) => (x1.f2.bind fun (a4 : (Option Int)) => (Pr.ok ((x1.f1, a4) : (Int × (Option Int)))))) = Pr.ok (newP l) := by
    intro l
    induction l with
    | nil => rfl
    | cons p l ih =>
      show (Pr.ok p.isNew).bind _ = _
      rw [Pr.ok_bind]
      cases p with
      | top n => rw [if_neg (by simp [Pc.isNew]), ih]; rfl
      | old a b => rw [if_neg (by simp [Pc.isNew]), ih]; rfl
      | opn a => rw [if_neg (by simp [Pc.isNew]), ih]; rfl
      | new a b n => rw [if_pos (show (Pc.new a b n).isNew = true from rfl)]; rw [ih]; rfl
  unfold t_new_labels
  rw [Pr.ok_bind, need_T (by omega), this]
def tps (l : List Pc) : List Int := tpF (oldP l ++ newP l)
/-- a number of the pieces -/
def Num (l : List Pc) (n : Int) : Prop := ∃ p ∈ l, ∃ q ∈ prs p, n = q.1 ∨ q.2 = some n
theorem tpF_mem {l : List (Int × Option Int)} {k : Int} : k ∈ tpF l ↔ ∃ q ∈ l, (k = q.1 ∨ k = q.1 + 1) ∨ ∃ v, q.2 = some v ∧ (k = v ∨ k = v + 1) := by
  unfold tpF
  simp only [List.mem_flatMap, List.mem_filter, List.mem_cons, List.not_mem_nil, or_false]
  constructor
  · rintro ⟨q, hq, y, ⟨hy | hy, hs⟩, hk⟩
    · subst hy; exact ⟨q, hq, .inl hk⟩
    · subst hy
      obtain ⟨v, hv⟩ := Option.isSome_iff_exists.mp hs
      rw [hv] at hk
      exact ⟨q, hq, .inr ⟨v, hv, hk⟩⟩
  · rintro ⟨q, hq, h | ⟨v, hv, h⟩⟩
    · exact ⟨q, hq, some q.1, ⟨.inl rfl, rfl⟩, h⟩
    · exact ⟨q, hq, q.2, ⟨.inr rfl, by rw [hv]; rfl⟩, by rw [hv]; exact h⟩
theorem prs_mem {l : List Pc} {q : Int × Option Int} : q ∈ oldP l ++ newP l ↔ ∃ p ∈ l, q ∈ prs p := by
  unfold oldP newP
  simp only [List.mem_append, List.mem_map, List.mem_filter]
  constructor
  · rintro (⟨p, ⟨hp, ho⟩, rfl⟩ | ⟨p, ⟨hp, ho⟩, rfl⟩) <;> refine ⟨p, hp, ?_⟩ <;> cases p <;> simp [Pc.isOld, Pc.isNew, prs, Pc.f1] at ho ⊢
  · rintro ⟨p, hp, hq⟩
    cases p with
    | top n => simp [prs] at hq
    | old a b => simp only [prs, List.mem_singleton] at hq; exact .inl ⟨_, ⟨hp, rfl⟩, hq.symm⟩
    | opn a => simp only [prs, List.mem_singleton] at hq; exact .inl ⟨_, ⟨hp, rfl⟩, hq.symm⟩
    | new a b n => simp only [prs, List.mem_singleton] at hq; exact .inr ⟨_, ⟨hp, rfl⟩, hq.symm⟩
theorem tps_num {l : List Pc} {n : Int} (h : Num l n) : n ∈ tps l ∧ n + 1 ∈ tps l := by
  obtain ⟨p, hp, q, hq, h⟩ := h
  have hm := prs_mem.mpr ⟨p, hp, hq⟩
  rcases h with rfl | h
  · exact ⟨tpF_mem.mpr ⟨q, hm, .inl (.inl rfl)⟩, tpF_mem.mpr ⟨q, hm, .inl (.inr rfl)⟩⟩
  · exact ⟨tpF_mem.mpr ⟨q, hm, .inr ⟨n, h, .inl rfl⟩⟩, tpF_mem.mpr ⟨q, hm, .inr ⟨n, h, .inr rfl⟩⟩⟩
theorem tps_of {l : List Pc} {k : Int} (h : k ∈ tps l) : ∃ n, Num l n ∧ (k = n ∨ k = n + 1) := by
  obtain ⟨q, hq, h⟩ := tpF_mem.mp h
  obtain ⟨p, hp, hq⟩ := prs_mem.mp hq
  rcases h with h | ⟨v, hv, h⟩
  · exact ⟨q.1, ⟨p, hp, q, hq, .inl rfl⟩, h⟩
  · exact ⟨v, ⟨p, hp, q, hq, .inr hv⟩, h⟩
theorem tps_len (l : List Pc) : (tps l).length ≤ 8 * l.length := by
  have h1 : ∀ q : List (Int × Option Int), (tpF q).length ≤ 4 * q.length := by
    intro q
    induction q with
    | nil => simp [tpF]
    | cons x q ih =>
      unfold tpF at ih ⊢
      rw [List.flatMap_cons, List.length_append, List.length_cons]
      have : ([some x.1, x.2].filter Option.isSome).flatMap (fun y => [y.getD 0, y.getD 0 + 1]) = [x.1, x.1 + 1] ++ (match x.2 with | some v => [v, v + 1] | none => []) := by
        cases hx : x.2 <;> simp [List.filter]
      rw [this]
      have : (([x.1, x.1 + 1] ++ (match x.2 with | some v => [v, v + 1] | none => []) : List Int)).length ≤ 4 := by cases x.2 <;> simp
      omega
  have h2 := h1 (oldP l ++ newP l)
  have h3 : (oldP l ++ newP l).length ≤ 2 * l.length := by
    unfold oldP newP
    rw [List.length_append, List.length_map, List.length_map]
    have := List.length_filter_le Pc.isOld l
    have := List.length_filter_le Pc.isNew l
    omega
  unfold tps
  omega
theorem turning_t {L : Lay} (h : L.parts.length ≤ 1000) : t_turning_points L = Pr.ok (tps L.parts) := by
  have hp : t_Layout_pieces L = Pr.ok L.parts := rfl
  have hl := tps_len L.parts
  unfold tps at hl
  unfold t_turning_points
  rw [hp, Pr.ok_bind, old_ranges_t h, Pr.ok_bind, Pr.ok_bind, new_labels_t h, Pr.ok_bind, cat_ok, Pr.ok_bind, Pr.ok_bind, need_T (by omega)]
  · rfl
  · have := List.length_filter_le Pc.isOld L.parts
    have := List.length_filter_le Pc.isNew L.parts
    unfold oldP newP
    rw [List.length_map, List.length_map]
    omega
theorem row_new {l : List Pc} : ∀ {k : Int} {x : Int × Int}, 0 ≤ k → lab l k = some x → x.1 < x.2 → Num l x.1 ∧ Num l x.2 := by
  induction l with
  | nil => intro k x _ h; cases h
  | cons p r ih =>
    intro k x hk h hx
    simp only [lab] at h
    split at h
    · cases p with
      | top n => cases h
      | old a b => cases h; simp only at hx; omega
      | opn a => cases h; simp only at hx; omega
      | new a b n =>
        cases h
        exact ⟨⟨_, List.mem_cons_self, (a, some b), List.mem_singleton.mpr rfl, .inl rfl⟩, ⟨_, List.mem_cons_self, (a, some b), List.mem_singleton.mpr rfl, .inr rfl⟩⟩
    · rename_i hn
      obtain ⟨h1, h2⟩ := ih (k := k - rc p) (by omega) h hx
      obtain ⟨p1, m1, q1⟩ := h1
      obtain ⟨p2, m2, q2⟩ := h2
      exact ⟨⟨p1, List.mem_cons_of_mem _ m1, q1⟩, ⟨p2, List.mem_cons_of_mem _ m2, q2⟩⟩
theorem row_old {l : List Pc} : ∀ {k v : Int}, 0 ≤ k → (∀ p ∈ l, pok p) → lab l k = some (v, v) → Num l v ∨ (1 ≤ k ∧ lab l (k - 1) = some (v - 1, v - 1)) := by
  induction l with
  | nil => intro k v _ _ h; cases h
  | cons p r ih =>
    intro k v hk hp h
    simp only [lab] at h ⊢
    split at h
    · rename_i hc
      have hold : ∀ a : Int, labP p k = some (a + k, a + k) → prs p ≠ [] → (∃ ob, (a, ob) ∈ prs p) → (∀ j, labP p j = some (a + j, a + j)) → Num (p :: r) v ∨ (1 ≤ k ∧ (if isOpn p = true ∨ k - 1 < rc p then labP p (k - 1) else lab r (k - 1 - rc p)) = some (v - 1, v - 1)) := by
        intro a h1 _ ⟨ob, hm⟩ hj
        rw [h1] at h
        cases h
        by_cases k0 : k = 0
        · left
          exact ⟨p, List.mem_cons_self, (a, ob), hm, .inl (by subst k0; simp)⟩
        · right
          refine ⟨by omega, ?_⟩
          rw [if_pos (by rcases hc with z | z; exact .inl z; exact .inr (by omega)), hj]
          congr 2 <;> omega
      cases p with
      | top n => cases h
      | old a b => exact hold a rfl (by simp [prs]) ⟨some b, List.mem_singleton.mpr rfl⟩ fun _ => rfl
      | opn a => exact hold a rfl (by simp [prs]) ⟨none, List.mem_singleton.mpr rfl⟩ fun _ => rfl
      | new a b n =>
        have h : some (a, b) = some (v, v) := h
        cases h
        have := hp (.new v v n) List.mem_cons_self
        simp only [pok] at this
        omega
    · rename_i hc
      rcases ih (k := k - rc p) (by omega) (fun q hq => hp q (List.mem_cons_of_mem _ hq)) h with ⟨p1, m1, q1⟩ | ⟨h1, h2⟩
      · exact .inl ⟨p1, List.mem_cons_of_mem _ m1, q1⟩
      · refine .inr ⟨?_, ?_⟩
        · have hop : isOpn p = false := by cases hz : isOpn p with | false => rfl | true => exact absurd (.inl hz) hc
          have := rc_pos (hp p List.mem_cons_self) hop
          omega
        · rw [if_neg (fun z => hc (by rcases z with z | z; exact .inl z; exact .inr (by omega))), show k - 1 - rc p = k - rc p - 1 by omega]
          exact h2
end
section
set_option Elab.async false
set_option linter.all false
set_option maxRecDepth 100000
set_option maxHeartbeats 400000
structure Ali (A B : List Pc) : Prop where
  a : valid A
  b : valid B
  o : ∀ n, (n ∈ tps A ∨ n ∈ tps B) → ∃ r, IsFst (lab A) n r ∧ IsFst (lab B) n r
  c : ∀ n, (n ∈ tps A ∨ n ∈ tps B) → ∃ w, carR (lab A) (0, some n) w ∧ carR (lab B) (0, some n) w
theorem Ali.swap {A B : List Pc} (h : Ali A B) : Ali B A :=
  ⟨h.b, h.a, fun n hn => let ⟨r, h1, h2⟩ := h.o n hn.symm; ⟨r, h2, h1⟩, fun n hn => let ⟨r, h1, h2⟩ := h.c n hn.symm; ⟨r, h2, h1⟩⟩
theorem Ali.none {A B : List Pc} (h : Ali A B) {k : Int} (hk : 0 ≤ k) (ih : ∀ j, 0 ≤ j → j < k → lab A j = lab B j) {y : Int × Int} (hx : lab A k = none) (hy : lab B k = some y) : False := by
  have oA := (rows_of h.a).2
  have oB := (rows_of h.b).2
  obtain ⟨⟨mB, tB, lB⟩, _⟩ := rows_of h.b
  have hN : y.1 ∈ tps A ∨ y.1 ∈ tps B := by
    have ok := (oB k hk).2
    rw [hy] at ok
    by_cases z : y.1 < y.2
    · exact .inr (tps_num (row_new hk hy z).1).1
    · have e : y = (y.1, y.1) := Prod.ext rfl (by have := ok.2; simp only; omega)
      rcases row_old hk (fun p hp => lB.pok hp) (hy.trans (congrArg some e)) with q | ⟨q1, q2⟩
      · exact .inr (tps_num q).1
      · rw [← ih (k - 1) (by omega) (by omega)] at q2
        obtain ⟨x, hx', _⟩ := oA.some_le (show 0 ≤ k - 1 by omega) (show k - 1 ≤ k by omega) q2
        rw [hx] at hx'
        cases hx'
  obtain ⟨r, r1, r2⟩ := h.o _ hN
  have hr := (low_iff oB r2 hk).mp ⟨y, hy, Int.le_refl _⟩
  obtain ⟨x, hx', _⟩ := (low_iff oA r1 hk).mpr hr
  rw [hx] at hx'
  cases hx'
theorem Ali.low {A B : List Pc} (h : Ali A B) {k : Int} (hk : 0 ≤ k) (ih : ∀ j, 0 ≤ j → j < k → lab A j = lab B j) {x y : Int × Int} (hx : lab A k = some x) (hy : lab B k = some y) (hl : x.1 < y.1) : False := by
  have oA := (rows_of h.a).2
  have oB := (rows_of h.b).2
  obtain ⟨⟨mB, tB, lB⟩, _⟩ := rows_of h.b
  have okx := (oA k hk).2
  rw [hx] at okx
  have hN : y.1 ∈ tps A ∨ y.1 ∈ tps B := by
    have ok := (oB k hk).2
    rw [hy] at ok
    by_cases z : y.1 < y.2
    · exact .inr (tps_num (row_new hk hy z).1).1
    · have e : y = (y.1, y.1) := Prod.ext rfl (by have := ok.2; simp only; omega)
      rcases row_old hk (fun p hp => lB.pok hp) (hy.trans (congrArg some e)) with q | ⟨q1, q2⟩
      · exact .inr (tps_num q).1
      · rw [← ih (k - 1) (by omega) (by omega)] at q2
        have hpr := (oA (k - 1) (by omega)).1
        rw [show k - 1 + 1 = k by omega, q2, hx] at hpr
        obtain ⟨p1, p2, p3⟩ := hpr
        simp only at p1 p2 p3
        have hx2 := okx.2
        have hne : x.1 < x.2 := by
          by_cases w : x.1 < x.2
          · exact w
          · have := p3 trivial (by omega)
            omega
        have := (tps_num (row_new hk hx hne).1).2
        rw [show x.1 + 1 = y.1 by omega] at this
        exact .inl this
  obtain ⟨r, r1, r2⟩ := h.o _ hN
  have hr := (low_iff oB r2 hk).mp ⟨y, hy, Int.le_refl _⟩
  obtain ⟨x', hx', hl'⟩ := (low_iff oA r1 hk).mpr hr
  rw [hx] at hx'
  cases hx'
  omega
theorem Ali.high {A B : List Pc} (h : Ali A B) {k : Int} (hk : 0 ≤ k) {x y : Int × Int} (hx : lab A k = some x) (hy : lab B k = some y) (hl : x.1 = y.1) (hh : x.2 < y.2) : False := by
  have oA := (rows_of h.a).2
  have oB := (rows_of h.b).2
  have okx := (oA k hk).2
  rw [hx] at okx
  have hx0 := okx.1
  have hx2 := okx.2
  have hN : x.2 ∈ tps A ∨ x.2 ∈ tps B := by
    by_cases z : x.1 < x.2
    · exact .inl (tps_num (row_new hk hx z).2).1
    · have := (tps_num (row_new hk hy (by omega)).1).1
      rw [show y.1 = x.2 by omega] at this
      exact .inr this
  obtain ⟨w, w1, w2⟩ := h.c _ hN
  obtain ⟨r, e, f1, l1, q1⟩ := w1
  obtain ⟨r', e', f2, l2, q2⟩ := w2
  have a1 := (high_iff oA l1 hk hx).mp (Int.le_refl _)
  have a2 := (low_iff oA f1 hk).mp ⟨x, hx, hx0⟩
  have a3 : ¬ k ≤ e' := fun z => by
    have := (high_iff oB l2 hk hy).mpr z
    omega
  rw [if_pos (by omega)] at q1
  rw [q1] at q2
  split at q2
  · cases q2
    omega
  · cases q2
theorem Ali.rows {A B : List Pc} (h : Ali A B) : ∀ k, 0 ≤ k → lab A k = lab B k := by
  have key : ∀ n : Nat, ∀ k : Int, k = n → lab A k = lab B k := by
    intro n
    induction n using Nat.strongRecOn with
    | ind n ih =>
      intro k hk
      have ih' : ∀ j, 0 ≤ j → j < k → lab A j = lab B j := fun j j0 j1 => ih j.toNat (by omega) j (by omega)
      have ih2 : ∀ j, 0 ≤ j → j < k → lab B j = lab A j := fun j j0 j1 => (ih' j j0 j1).symm
      have k0 : 0 ≤ k := by omega
      cases hx : lab A k with
      | none =>
        cases hy : lab B k with
        | none => rfl
        | some y => exact (h.none k0 ih' hx hy).elim
      | some x =>
        cases hy : lab B k with
        | none => exact (h.swap.none k0 ih2 hy hx).elim
        | some y =>
          have e1 : x.1 = y.1 := by
            by_cases a : x.1 < y.1
            · exact (h.low k0 ih' hx hy a).elim
            · by_cases b : y.1 < x.1
              · exact (h.swap.low k0 ih2 hy hx b).elim
              · omega
          have e2 : x.2 = y.2 := by
            by_cases a : x.2 < y.2
            · exact (h.high k0 hx hy e1 a).elim
            · by_cases b : y.2 < x.2
              · exact (h.swap.high k0 hy hx e1.symm b).elim
              · omega
          rw [Prod.ext e1 e2]
  exact fun k hk => key k.toNat k (by omega)
theorem num_nn {l m : List Pc} {t : Int} (h : Ly l m t) {n : Int} (hn : Num l n) : 0 ≤ n := by
  obtain ⟨p, hp, q, hq, e⟩ := hn
  have := h.pok hp
  cases p <;> simp only [prs, List.mem_singleton, List.not_mem_nil] at hq <;> (try subst hq) <;> simp only [pok] at this <;> rcases e with e | e <;> first | (cases e; done) | (simp only [Option.some.injEq] at e; omega) | (simp only at e; omega)
theorem tps_nn {l m : List Pc} {t : Int} (h : Ly l m t) {k : Int} (hk : k ∈ tps l) : 0 ≤ k := by
  obtain ⟨n, hn, e⟩ := tps_of hk
  have := num_nn h hn
  omega
end
section
set_option Elab.async false
set_option linter.all false
set_option maxRecDepth 100000
set_option maxHeartbeats 400000
theorem num_row {a : Int} : ∀ {m : List Pc}, Cl m → ∀ {n : Int}, Num (m ++ [.opn a]) n → ∃ k x, 0 ≤ k ∧ k ≤ tt m ∧ lab (m ++ [.opn a]) k = some x ∧ (n = x.1 ∨ n = x.2)
  | [], _, n, h => by
    obtain ⟨p, hp, q, hq, e⟩ := h
    rw [List.nil_append, List.mem_singleton] at hp
    subst hp
    simp only [prs, List.mem_singleton] at hq
    subst hq
    refine ⟨0, (a + 0, a + 0), Int.le_refl _, Int.le_refl _, rfl, .inl ?_⟩
    rcases e with e | e
    · simpa using e
    · cases e
  | p :: m, h, n, hn => by
    have h1 := rc_pos h.cons.1.2 h.cons.1.1
    have h2 := tt_nonneg h.cons.2
    have ho := h.cons.1.1
    have hpk := h.cons.1.2
    obtain ⟨p', hp, q, hq, e⟩ := hn
    rcases List.mem_cons.mp hp with hp | hp
    · subst hp
      have at_ : ∀ k, 0 ≤ k → k < rc p' → lab (p' :: m ++ [.opn a]) k = labP p' k := fun k k0 k1 => by
        simp only [List.cons_append, lab]
        rw [if_pos (.inr k1)]
      cases p' with
      | top n => simp [prs] at hq
      | opn a => cases ho
      | new x y z =>
        simp only [prs, List.mem_singleton] at hq
        subst hq
        refine ⟨0, (x, y), Int.le_refl _, by simp only [tt]; omega, at_ 0 (Int.le_refl _) (by omega), ?_⟩
        rcases e with e | e
        · exact .inl e
        · simp only [Option.some.injEq] at e; exact .inr e.symm
      | old x y =>
        simp only [prs, List.mem_singleton] at hq
        subst hq
        simp only [pok] at hpk
        rcases e with e | e
        · exact ⟨0, (x + 0, x + 0), Int.le_refl _, by simp only [tt]; omega, at_ 0 (Int.le_refl _) (by omega), .inl (by simpa using e)⟩
        · simp only [Option.some.injEq] at e
          have hrc : rc (.old x y) = y - x + 1 := rfl
          refine ⟨y - x, (x + (y - x), x + (y - x)), by omega, by simp only [tt]; omega, at_ _ (by omega) (by omega), .inl (by simp only; omega)⟩
    · obtain ⟨k, x, k0, k1, hl, hx⟩ := num_row h.cons.2 ⟨p', hp, q, hq, e⟩
      refine ⟨k + rc p, x, by omega, by simp only [tt]; omega, ?_, hx⟩
      simp only [List.cons_append, lab, ho, Bool.false_eq_true, false_or]
      rw [if_neg (by omega), show k + rc p - rc p = k by omega]
      exact hl
theorem num_le {l m : List Pc} {a : Int} (h : Ly l m a) (ho : Ord (lab l)) {n : Int} (hn : Num l n) : n ≤ a := by
  have h0 := tt_nonneg h.cl
  rw [h.eq] at hn ho
  obtain ⟨k, x, k0, k1, hl, hx⟩ := num_row h.cl hn
  obtain ⟨y, hy, y1, y2⟩ := ho.some_le k0 k1 hl
  have : lab (m ++ [.opn a]) (tt m) = some (a + (tt m - tt m), a + (tt m - tt m)) := by rw [lab_app _ _ _ h.cl h0, if_neg (by omega), lab_opn]
  rw [this] at hy
  cases hy
  simp only at y1 y2
  omega
def isSp : Int × Option Int → Bool
  | (a, none) => decide (0 ≤ a)
  | (a, some b) => decide (0 ≤ a) && decide (a ≤ b)
theorem is_span_t (s : Int × Option Int) : t_is_span s = Pr.ok (isSp s) := by
  obtain ⟨a, ob⟩ := s
  unfold t_is_span t_is_range t_is_number
  simp only [Bool.not_true, Bool.not_false, Bool.and_self, Bool.false_or, decide_true, Bool.false_eq_true, if_false, Pr.ok_bind]
  by_cases ha : a < 0
  · rw [show decide (a < 0) = true by simpa using ha]
    have h0 : ¬ 0 ≤ a := by omega
    cases ob <;> simp [isSp, h0]
  · rw [show decide (a < 0) = false by simpa using ha]
    have h0 : 0 ≤ a := by omega
    simp only [Bool.false_eq_true, if_false]
    cases ob with
    | none => simp [isSp, h0]
    | some b =>
      simp only [Option.isNone_some, Bool.false_eq_true, if_false, cast_some, Pr.ok_bind, if_true]
      by_cases hb : a ≤ b <;> simp [isSp, hb, h0]
theorem isSp_ok {s : Int × Option Int} (h : spanOk s) : isSp s = true := by
  obtain ⟨a, ob⟩ := s
  have h1 : 0 ≤ a := h.1
  cases ob with
  | none => simp [isSp, h1]
  | some b => have h2 : a ≤ b := h.2 b rfl; simp [isSp, h1, h2]
theorem diff_t {A B : Lay} {s : Int × Option Int} (h : spanOk s) {u v : Option (Int × Option Int)} (ha : t_carried A s = Pr.ok u) (hb : t_carried B s = Pr.ok v) : t_is_difference A B s = Pr.ok (!decide (u = v)) := by
  unfold t_is_difference
  rw [is_span_t, isSp_ok h, Pr.ok_bind, if_pos rfl, ha, Pr.ok_bind, hb, Pr.ok_bind]
theorem ok_inj {α : Type} {a b : α} (h : Pr.ok a = Pr.ok b) : a = b := by
  have : (Pr.ok b : Pr α) (fun x => a = x) (fun _ => False) := by rw [← h]; exact (rfl : a = a)
  exact this
theorem dif_loop {A B : Lay} {f g : Int → Rw} (hA : IsL A f) (hB : IsL B g) : ∀ l : List (Int × Option Int), (∀ s ∈ l, spanOk s) → ∃ w, Pr.flow (Pr.forF (ρ := (Option (Int × (Option Int)))) l () (fun (x20 : (Int × (Option Int))) (s19 : Unit) =>
  ((t_is_difference A B x20).bind fun c => if c then (Pr.ok (FlT.rt (some x20))) else
  (Pr.ok (FlT.nx ()))))) (fun (s19 : Unit) => (Pr.ok (none : (Option (Int × (Option Int)))))) (fun (r30 : (Option (Int × (Option Int)))) => r30) = Pr.ok w ∧ (w = none → ∀ s ∈ l, ∃ u, carR f s u ∧ carR g s u) ∧ ∀ s, w = some s → spanOk s ∧ ∃ u v, t_carried A s = Pr.ok u ∧ t_carried B s = Pr.ok v ∧ u ≠ v
  | [], _ => ⟨none, rfl, fun _ s hs => (by cases hs), fun s hs => (by cases hs)⟩
  | x :: l, h => by
    have hx := h x List.mem_cons_self
    obtain ⟨u, eu, hu⟩ := carried_t hA hx
    obtain ⟨v, ev, hv⟩ := carried_t hB hx
    by_cases e : u = v
    · obtain ⟨w, h1, h2, h3⟩ := dif_loop hA hB l fun s hs => h s (List.mem_cons_of_mem _ hs)
      refine ⟨w, ?_, fun hw s hs => ?_, h3⟩
      · rw [forF_nx (s' := ()) l (by rw [diff_t hx eu ev, Pr.ok_bind, decide_eq_true e]; rfl)]
        exact h1
      · rcases List.mem_cons.mp hs with rfl | hs
        · subst e
          exact ⟨u, hu, hv⟩
        · exact h2 hw s hs
    · refine ⟨some x, ?_, fun hw => (by cases hw), fun s hs => ?_⟩
      · rw [forF_rt (r := some x) l (by rw [diff_t hx eu ev, Pr.ok_bind, decide_eq_false e]; rfl)]
        rfl
      · cases hs
        exact ⟨hx, u, v, eu, ev, e⟩
theorem isL_self {L : Lay} {f : Int → Rw} (h : IsL L f) : IsL L (lab L.parts) := ⟨h.st, h.ok, fun _ _ => rfl⟩
theorem difference_t {A B : Lay} {f g : Int → Rw} {ma mb : List Pc} {a b : Int} (hA : IsL A f) (hB : IsL B g) (ya : Ly A.parts ma a) (yb : Ly B.parts mb b) (ha : a ≤ 61) (hb : b ≤ 61) (la : ma.length ≤ 50) (lb : mb.length ≤ 50) :
    ∃ w, t_difference A B = Pr.ok w ∧ (w = none → ∀ k, 0 ≤ k → f k = g k) ∧ ∀ s, w = some s → spanOk s ∧ ∃ u v, t_carried A s = Pr.ok u ∧ t_carried B s = Pr.ok v ∧ u ≠ v := by
  have l1 := ya.len
  have l2 := yb.len
  have t1 := tps_len A.parts
  have t2 := tps_len B.parts
  have oA := (rows_of hA.ok).2
  have oB := (rows_of hB.ok).2
  have bnd : ∀ x ∈ tps A.parts ++ tps B.parts, 0 ≤ x ∧ x ≤ 62 := fun x hx => by
    rcases List.mem_append.mp hx with z | z
    · refine ⟨tps_nn ya z, ?_⟩
      obtain ⟨n, hn, e⟩ := tps_of z
      have := num_le ya oA hn
      omega
    · refine ⟨tps_nn yb z, ?_⟩
      obtain ⟨n, hn, e⟩ := tps_of z
      have := num_le yb oB hn
      omega
  have hs64 : (srt (tps A.parts ++ tps B.parts)).length < 64 := by
    have := nodup_le (l := srt (tps A.parts ++ tps B.parts)) (u := rngI 0 63) ((srt_up _).imp fun h => Int.ne_of_lt h) fun x hx => by
      have := bnd x (srt_mem.mp hx)
      exact rngI_mem.mpr (by omega)
    rw [rngI_len] at this
    omega
  obtain ⟨w, h1, h2, h3⟩ := dif_loop (isL_self hA) (isL_self hB) ((srt (tps A.parts ++ tps B.parts)).map (fun x => ((x, (none : Option Int)) : Int × Option Int)) ++ (srt (tps A.parts ++ tps B.parts)).map (fun x => (((0 : Int), some x) : Int × Option Int))) fun s hs => by
    rcases List.mem_append.mp hs with z | z
    · obtain ⟨x, hx, rfl⟩ := List.mem_map.mp z
      exact ⟨(bnd x (srt_mem.mp hx)).1, fun b e => by cases e⟩
    · obtain ⟨x, hx, rfl⟩ := List.mem_map.mp z
      exact ⟨Int.le_refl _, fun b e => by cases e; exact (bnd x (srt_mem.mp hx)).1⟩
  refine ⟨w, ?_, fun hw k hk => ?_, h3⟩
  · unfold t_difference
    rw [turning_t (by omega), Pr.ok_bind, turning_t (by omega), Pr.ok_bind, cat_ok (by omega), Pr.ok_bind, need_T ⟨by rw [List.length_append]; omega, hs64⟩, Pr.ok_bind, Pr.ok_bind, need_T (by omega), Pr.ok_bind, Pr.ok_bind, need_T (by omega), Pr.ok_bind, filter_T, cat_ok (by rw [List.length_map, List.length_map]; omega), Pr.ok_bind, lim_ok (by rw [List.length_append, List.length_map, List.length_map]; omega), Pr.ok_bind]
    exact h1
  · have al := h2 hw
    have A0 : Ali A.parts B.parts := ⟨hA.ok, hB.ok, fun n hn => by
      have hm : n ∈ srt (tps A.parts ++ tps B.parts) := srt_mem.mpr (List.mem_append.mpr hn)
      obtain ⟨u, ⟨r, h1, e1⟩, ⟨r', h2, e2⟩⟩ := al (n, none) (List.mem_append_left _ (List.mem_map.mpr ⟨n, hm, rfl⟩))
      rw [e1] at e2
      cases e2
      exact ⟨r, h1, h2⟩, fun n hn => by
      have hm : n ∈ srt (tps A.parts ++ tps B.parts) := srt_mem.mpr (List.mem_append.mpr hn)
      exact al (0, some n) (List.mem_append_right _ (List.mem_map.mpr ⟨n, hm, rfl⟩))⟩
    rw [← hA.rows k hk, ← hB.rows k hk]
    exact A0.rows k hk
end
section
set_option Elab.async false
set_option linter.all false
set_option maxRecDepth 100000
set_option maxHeartbeats 1000000
theorem ok_i {α : Type} {a : α} {Q : α → Prop} {E : Exn → Prop} (h : Q a) : (Pr.ok a) Q E := h
def near2 (c : Cmd) : Prop := cmdOk c ∧ c.p2 ≤ 4 ∧ (c.p1 = "delete" → c.p3 ≤ c.p2 + 1) ∧ (c.p1 = "insert" → c.p3 ≤ 2)
def wa (c : Cmd) : Cmd := ⟨(Txt.partition c.p1 ("_" : Str)).1, c.p2, c.p3⟩
structure Word (w : Str) (v : Str) (b : Bool) : Prop where
  pt : (Txt.partition w ("_" : Str)).1 = v
  pc : (Str.length ("_" : Str) == 0) = false ∧ w.length ≤ 16777216
  ok : PyData.strOk w = true
  mem : anyD wordsP (.str w) = true
theorem w_ir : Word "insert_rows" "insert" true := ⟨by decide +kernel, ⟨by decide +kernel, by decide +kernel⟩, by decide +kernel, by decide +kernel⟩
theorem w_ic : Word "insert_columns" "insert" false := ⟨by decide +kernel, ⟨by decide +kernel, by decide +kernel⟩, by decide +kernel, by decide +kernel⟩
theorem w_dr : Word "delete_rows" "delete" true := ⟨by decide +kernel, ⟨by decide +kernel, by decide +kernel⟩, by decide +kernel, by decide +kernel⟩
theorem w_dc : Word "delete_columns" "delete" false := ⟨by decide +kernel, ⟨by decide +kernel, by decide +kernel⟩, by decide +kernel, by decide +kernel⟩
/-- a command of a grid, near the first rows or columns -/
structure GCmd (c : Cmd) : Prop where
  w : ∃ v b, Word c.p1 v b
  n : near2 (wa c)
theorem gcmd_of {b : Cmd} (hb : near2 b) (s : Str) (hs : s = "_rows" ∨ s = "_columns") : GCmd ⟨b.p1 ++ s, b.p2, b.p3⟩ := by
  have key : ∀ (v w : Str) (k : Bool), b.p1 = v → b.p1 ++ s = w → Word w v k → GCmd ⟨b.p1 ++ s, b.p2, b.p3⟩ := fun v w k e1 e2 hw => by
    refine ⟨⟨v, k, by show Word (b.p1 ++ s) v k; rw [e2]; exact hw⟩, ?_⟩
    have : wa ⟨b.p1 ++ s, b.p2, b.p3⟩ = b := by
      unfold wa
      simp only
      rw [e2, hw.pt, ← e1]
    rw [this]
    exact hb
  rcases hb.1 with z | z <;> rcases hs with rfl | rfl
  · exact key _ "insert_rows" _ z.1 (by rw [z.1]; decide +kernel) w_ir
  · exact key _ "insert_columns" _ z.1 (by rw [z.1]; decide +kernel) w_ic
  · exact key _ "delete_rows" _ z.1 (by rw [z.1]; decide +kernel) w_dr
  · exact key _ "delete_columns" _ z.1 (by rw [z.1]; decide +kernel) w_dc
theorem without_t {c : Cmd} (h : GCmd c) : t_without_axis c = Pr.ok (wa c) := by
  obtain ⟨v, b, hw⟩ := h.w
  unfold t_without_axis
  rw [need_ok (show partC c.p1 ("_" : Str) from hw.pc), Pr.ok_bind, Pr.ok_bind]
  rfl
theorem is_grid_t {c : Cmd} (h : GCmd c) : t_is_grid_command c = Pr.ok true := by
  obtain ⟨v, b, hw⟩ := h.w
  unfold t_is_grid_command
  rw [if_neg (by decide), if_neg (by decide), need_ok hw.ok, hw.mem, Pr.ok_bind, if_neg (by decide), without_t h, Pr.ok_bind, is_command_t h.n.1]
theorem check_grid_t {cs : List Cmd} (hc : ∀ c ∈ cs, GCmd c) (hn : cs.length ≤ 1000) : t_check_grid_script cs = Pr.ok () := by
  obtain ⟨u, e, _⟩ := forM_in (fun (x2 : (Int × Cmd)) (s1 : Unit) =>
  (((t_is_grid_command x2.2).bind fun b => Pr.ok (!b)).bind fun c => if c then Pr.bad else
  (Pr.ok ()))) (enumI 0 cs) (fun _ _ => True) (fun x done rest s e _ => ⟨(), by
    have hx : GCmd x.2 := hc _ (enumI_mem (k := 0) (x := x) (by rw [← e]; simp))
    rw [is_grid_t hx]
    rfl, trivial⟩) (enumI 0 cs) [] () rfl trivial
  unfold t_check_grid_script
  rw [lim_ok (by omega), Pr.ok_bind, Pr.ok_bind, e]
  rfl
def axisP (cs : List Cmd) (ax : Str) : List Cmd := (cs.filter fun c => Txt.endswith c.p1 ax).map wa
theorem lcM_in {β γ : Type} {c : β → Pr Bool} {g : β → Pr γ} {cb : β → Bool} {gv : β → γ} : ∀ (l : List β), (∀ x ∈ l, c x = Pr.ok (cb x) ∧ g x = Pr.ok (gv x)) → Pr.lcM l c g = Pr.ok ((l.filter cb).map gv) := lcM_ok
theorem axis_t {cs : List Cmd} (hc : ∀ c ∈ cs, GCmd c) (hn : cs.length ≤ 1000) (ax : Str) : t_axis_script cs ax = Pr.ok (axisP cs ax) := by
  unfold t_axis_script
  rw [Pr.ok_bind, need_ok (by omega), lcM_in (cb := fun c => Txt.endswith c.p1 ax) (gv := wa) cs fun x hx => ⟨rfl, without_t (hc x hx)⟩]
  rfl
theorem axis_near {cs : List Cmd} (hc : ∀ c ∈ cs, GCmd c) (ax : Str) : (∀ c ∈ axisP cs ax, near2 c) ∧ (axisP cs ax).length ≤ cs.length := by
  refine ⟨fun c h => ?_, ?_⟩
  · obtain ⟨d, hd, rfl⟩ := List.mem_map.mp h
    exact (hc d (List.mem_filter.mp hd).1).n
  · unfold axisP
    rw [List.length_map]
    exact List.length_filter_le _ _
theorem run_n {cs : List Cmd} (hc : ∀ c ∈ cs, cmdOk c) (hn : cs.length ≤ 29) : ∃ L, t_run cs () = Pr.ok L ∧ IsN L (rowsC cs plainR) ∧ L.parts.length ≤ 1 + 2 * cs.length := by
  have hv : valid (Sq.mk true [Pc.opn 0]).l := ⟨Int.le_refl _, trivial, rfl⟩
  obtain ⟨q, e, v1, v2, v3⟩ := behind_t (s := ⟨true, [.opn 0]⟩) hv hc (by omega) (by simp)
  have hq : q.l.length ≤ 1 + 2 * cs.length := by simpa using v3
  obtain ⟨l1, l2, l3, l4⟩ := Layout_t v1 (by omega)
  refine ⟨mkLay (nf q.l), ?_, ⟨⟨rfl, l2, fun k hk => ?_⟩, nf_nrm v1⟩, by show (nf q.l).length ≤ _; omega⟩
  · unfold t_run
    rw [check_script_t hc (by omega), Pr.ok_bind, e, Pr.ok_bind, l1]
  · show lab (nf q.l) k = _
    rw [l3 k hk, v2 k hk]
    have : lab [Pc.opn 0] = plainR := by
      funext k
      rw [lab_opn]
      show some (0 + k, 0 + k) = some (k, k)
      congr 2 <;> omega
    rw [this]
theorem far_rows {cs : List Cmd} (hc : ∀ c ∈ cs, near2 c) : ∃ d : Int, d ≤ 2 * cs.length ∧ ∀ k, 6 + 2 * (cs.length : Int) ≤ k → rowsC cs plainR k = some (k + d, k + d) := by
  have key : ∀ (n : Nat) (cs : List Cmd), cs.length = n → (∀ c ∈ cs, near2 c) → ∃ d : Int, d ≤ 2 * n ∧ ∀ k, 6 + 2 * (n : Int) ≤ k → rowsC cs plainR k = some (k + d, k + d) := by
    intro n
    induction n with
    | zero =>
      intro cs h _
      have : cs = [] := List.length_eq_zero_iff.mp h
      subst this
      refine ⟨0, by omega, fun k _ => ?_⟩
      show some (k, k) = _
      rw [Int.add_zero]
    | succ n ih =>
      intro cs h hc
      obtain ⟨ds, c, rfl⟩ : ∃ ds c, cs = ds ++ [c] := ⟨cs.dropLast, cs.getLast (by intro z; rw [z] at h; cases h), (List.dropLast_concat_getLast _).symm⟩
      obtain ⟨d, hd, hk⟩ := ih ds (by simpa using h) fun x hx => hc x (by simp [hx])
      obtain ⟨ok, h4, h5, h6⟩ := hc c (by simp)
      rcases ok with z | z
      · have h6 := h6 z.1
        refine ⟨d - c.p3, by omega, fun k k0 => ?_⟩
        rw [rowsC_snoc, appC_ins z.1, if_neg (by omega), if_neg (by omega), hk _ (by omega)]
        congr 2 <;> omega
      · have h5 := h5 z.1
        refine ⟨d + (c.p3 - c.p2 + 1), by omega, fun k k0 => ?_⟩
        rw [rowsC_snoc, appC_del z.1, if_neg (by omega), hk _ (by omega)]
        congr 2 <;> omega
  exact key cs.length cs rfl hc
theorem tail_bnd {L : Lay} {f : Int → Rw} {m : List Pc} {a k0 d : Int} (h : IsN L f) (hy : Ly L.parts m a) (h0 : 0 ≤ k0) (hf : ∀ k, k0 ≤ k → f k = some (k + d, k + d)) : a ≤ k0 + d := by
  have hn0 := tt_nonneg hy.cl
  have hopn : ∀ k, tt m ≤ k → f k = some (a + (k - tt m), a + (k - tt m)) := fun k hk => by
    rw [← h.rows k (by omega), hy.eq, lab_app _ _ _ hy.cl (by omega), if_neg (by omega), lab_opn]
  by_cases hc : tt m ≤ k0
  · have e1 := hopn k0 hc
    rw [hf k0 (Int.le_refl _)] at e1
    simp only [Option.some.injEq, Prod.mk.injEq] at e1
    omega
  · exfalso
    have e1 := hopn (tt m) (Int.le_refl _)
    rw [hf (tt m) (by omega)] at e1
    simp only [Option.some.injEq, Prod.mk.injEq] at e1
    have e2 := hf (tt m - 1) (by omega)
    rw [← h.rows (tt m - 1) (by omega), hy.eq, lab_app _ _ _ hy.cl (by omega), if_pos (by omega)] at e2
    cases hg : m.getLast? with
    | none =>
      have : m = [] := List.getLast?_eq_none_iff.mp hg
      subst this
      simp only [tt] at hc
      omega
    | some p =>
      have hnn : jn p (.opn a) = none := by
        have := h.nrm
        rw [hy.eq] at this
        exact adj_mid m (.opn a) [] p this hg
      obtain ⟨m', rfl⟩ := snoc_of hg
      have hp := hy.cl p (by simp)
      have hr := rc_pos hp.2 hp.1
      have hm0 := tt_nonneg (hy.cl.left)
      rw [tt_app] at e2 e1
      simp only [tt] at e2 e1
      rw [lab_app _ _ _ hy.cl.left (by omega), if_neg (by omega)] at e2
      have e3 : lab [p] (tt m' + (rc p + 0) - 1 - tt m') = labP p (rc p - 1) := by
        rw [show tt m' + (rc p + 0) - 1 - tt m' = rc p - 1 by omega]
        exact lab_lastrow [] hp.1 hp.2
      rw [e3] at e2
      cases p with
      | top n => cases e2
      | opn x => exact absurd hp.1 (by simp [isOpn])
      | old x y =>
        simp only [labP, rc, Option.some.injEq, Prod.mk.injEq] at e2
        simp only [rc] at e1
        simp only [jn] at hnn
        rw [if_pos (by omega)] at hnn
        cases hnn
      | new x y n =>
        simp only [labP, Option.some.injEq, Prod.mk.injEq] at e2
        have := hp.2
        simp only [pok] at this
        omega
/-- a layout of few near commands -/
structure Few (L : Lay) : Prop where
  n : ∃ f, IsN L f
  y : ∃ m a, Ly L.parts m a ∧ a ≤ 61 ∧ m.length ≤ 50
theorem few_run {cs : List Cmd} (hc : ∀ c ∈ cs, near2 c) (hn : cs.length ≤ 7) : ∃ L, t_run cs () = Pr.ok L ∧ Few L := by
  obtain ⟨L, e, hL, hl⟩ := run_n (fun c h => (hc c h).1) (by omega)
  obtain ⟨⟨m, a, hy⟩, _⟩ := rows_of hL.ok
  obtain ⟨d, hd, hf⟩ := far_rows hc
  have := tail_bnd hL hy (by omega) hf
  have hlen := hy.len
  exact ⟨L, e, ⟨_, hL⟩, m, a, hy, by omega, by omega⟩
theorem run_grid_t {gs : List Cmd} (hc : ∀ c ∈ gs, GCmd c) (hn : gs.length ≤ 7) : ∃ G : Gr, t_run_grid gs = Pr.ok G ∧ Few G.rows ∧ Few G.cols := by
  obtain ⟨n1, l1⟩ := axis_near hc "rows"
  obtain ⟨n2, l2⟩ := axis_near hc "columns"
  obtain ⟨A, eA, fA⟩ := few_run n1 (by omega)
  obtain ⟨B, eB, fB⟩ := few_run n2 (by omega)
  refine ⟨⟨A, B⟩, ?_, fA, fB⟩
  unfold t_run_grid
  rw [check_grid_t hc (by omega), Pr.ok_bind, axis_t hc (by omega), Pr.ok_bind, eA, Pr.ok_bind, axis_t hc (by omega), Pr.ok_bind, eB, Pr.ok_bind]
theorem near_any {E : Exn → Prop} (Q : Cmd → Prop) (h : ∀ c, near2 c → Q c) : t__law_near Q E := by
  unfold t__law_near
  refine bind_i (pull_i (by decide) (by decide) fun v v0 v1 => ?_)
  refine bind_i (bind_i (pull_i (by decide) (by decide) fun w w0 w1 => ok_i ?_))
  by_cases hw : w = 0
  · rw [if_pos (by simpa using hw)]
    refine bind_i (of_i (by simp) (by simp) fun x hx => ok_i (h _ ?_))
    simp only [List.mem_cons, List.not_mem_nil, or_false] at hx
    exact ⟨.inl ⟨rfl, v0, by show 1 ≤ x; omega⟩, by show v ≤ 4; omega, fun z => by rw [ins_ne_del] at z; exact z.elim, fun _ => by show x ≤ 2; omega⟩
  · rw [if_neg (by simpa using hw)]
    refine bind_i (bind_i (of_i (by simp) (by simp) fun x hx => ok_i (ok_i (h _ ?_))))
    simp only [List.mem_cons, List.not_mem_nil, or_false] at hx
    exact ⟨.inr ⟨rfl, v0, by show v ≤ v + x; omega⟩, by show v ≤ 4; omega, fun _ => by show v + x ≤ v + 1; omega, fun z => by rw [del_ne_ins] at z; exact z.elim⟩
theorem add_str (a b : Str) (h : a.length + b.length ≤ 16777216) (M : Sto) : gAdd (.str a) (.str b) M = some (.str (a ++ b), M) := by
  unfold gAdd orG gStr
  simp [h]
theorem forM_all {σ : Type} {body : Int → List σ → Pr (List σ)} {P : σ → Prop} {E : Exn → Prop} (hb : ∀ x s (Q : List σ → Prop), s.length ≤ 1000 → (∀ c, P c → Q (s ++ [c])) → body x s Q E) :
    ∀ (l : List Int) (s : List σ) (Q : List σ → Prop), s.length + l.length ≤ 1000 → (∀ c ∈ s, P c) → (∀ s', (∀ c ∈ s', P c) → s'.length = s.length + l.length → Q s') → Pr.forM l s body Q E
  | [], s, Q, _, h, q => q s h (by simp)
  | x :: l, s, Q, hn, h, q => by
    simp only [List.length_cons] at hn
    refine hb x s _ (by omega) fun c hc => ?_
    refine forM_all hb l (s ++ [c]) Q (by simp; omega) (fun d hd => ?_) fun s' h1 h2 => q s' h1 (by rw [h2]; simp; omega)
    rcases List.mem_append.mp hd with z | z
    · exact h d z
    · rw [List.mem_singleton.mp z]; exact hc
theorem script_any {E : Exn → Prop} (Q : List Cmd → Prop) (h : ∀ gs : List Cmd, (∀ c ∈ gs, GCmd c) → gs.length ≤ 6 → Q gs) : t__law_grid_script 6 Q E := by
  unfold t__law_grid_script
  refine bind_i (bind_i (bind_i (pull_i (by decide) (by decide) fun n n0 n1 => ?_)))
  rw [need_T (sm_of (by omega) (by omega))]
  refine ok_i (forM_all (P := GCmd) (fun x s Q hs hq => ?_) _ [] _ (by rw [rngI_len]; simp; omega) (fun c hc => by cases hc) fun s' h1 h2 => ok_i (h s' h1 (by rw [h2, rngI_len]; simp; omega)))
  refine bind_i (near_any _ fun c hc => ?_)
  refine bind_i (bind_i (bind_i (of_i (by simp) (by simp) fun w hw => ?_)))
  simp only [List.mem_cons, List.not_mem_nil, or_false] at hw
  have hg := gcmd_of hc w hw
  have hlen : c.p1.length + w.length ≤ 16777216 := by
    rcases hc.1 with z | z <;> rcases hw with rfl | rfl <;> rw [z.1] <;> decide +kernel
  exact ⟨c.p1 ++ w, fun M => add_str _ _ hlen M, show Pr.need (s.length < 16777216) (Pr.ok (s ++ [_])) Q E from ⟨by omega, hq _ hg⟩⟩
end
section
set_option Elab.async false
set_option linter.all false
set_option maxRecDepth 100000
set_option maxHeartbeats 1000000
theorem eq_lay {A B : Lay} : t_Layout___eq__ A B = Pr.ok (decide (A.parts = B.parts)) := by
  unfold t_Layout___eq__
  rw [Bool.true_and]
theorem eq_grid (G H : Gr) : t_Grid___eq__ G H = Pr.ok (decide (G.rows.parts = H.rows.parts) && decide (G.cols.parts = H.cols.parts)) := by
  unfold t_Grid___eq__
  rw [Pr.ok_bind, if_pos rfl, eq_lay, Pr.ok_bind, Pr.ok_bind, eq_lay, Pr.ok_bind]
  simp only [Bool.false_eq_true, if_false]
  cases decide (G.rows.parts = H.rows.parts) with
  | true => rw [if_pos rfl, Bool.true_and]
  | false => rw [if_neg (by decide), Bool.false_and]
/-- what a difference of two layouts says -/
structure Dif (A B : Lay) (w : Option (Int × Option Int)) : Prop where
  e : t_difference A B = Pr.ok w
  no : w = none → A.parts = B.parts
  so : ∀ s, w = some s → A.parts ≠ B.parts ∧ spanOk s ∧ ∃ u v, t_carried A s = Pr.ok u ∧ t_carried B s = Pr.ok v ∧ u ≠ v
theorem dif_few {A B : Lay} (hA : Few A) (hB : Few B) : ∃ w, Dif A B w := by
  obtain ⟨f, fA⟩ := hA.n
  obtain ⟨g, gB⟩ := hB.n
  obtain ⟨m1, a1, y1, b1, l1⟩ := hA.y
  obtain ⟨m2, a2, y2, b2, l2⟩ := hB.y
  obtain ⟨w, e, h1, h2⟩ := difference_t fA.toIsL gB.toIsL y1 y2 b1 b2 l1 l2
  refine ⟨w, e, fun hw => ?_, fun s hs => ?_⟩
  · rw [fA.uniq gB (h1 hw)]
  · obtain ⟨so, u, v, eu, ev, ne⟩ := h2 s hs
    refine ⟨fun z => ne ?_, so, u, v, eu, ev, ne⟩
    have : A = B := by rw [fA.st, gB.st, z]
    rw [this, ev] at eu
    exact (ok_inj eu).symm
/-- what the boxes say -/
def boxOf (u v : Option (Int × Option Int)) : Option ((Int × Option Int) × (Int × Option Int)) := match u, v with
  | some a, some b => some (a, b)
  | _, _ => none
theorem box_t {G : Gr} {b : (Int × Option Int) × (Int × Option Int)} {u v : Option (Int × Option Int)} (h1 : t_carried G.rows b.1 = Pr.ok u) (h2 : t_carried G.cols b.2 = Pr.ok v) : t_carried_box G b = Pr.ok (boxOf u v) := by
  unfold t_carried_box t_Grid_rows t_Grid_columns
  rw [Pr.ok_bind, h1, Pr.ok_bind, Pr.ok_bind, h2, Pr.ok_bind]
  cases u with
  | none => rfl
  | some x =>
    cases v with
    | none => rfl
    | some y =>
      rw [if_neg (by simp)]
      exact cast_ok rfl
theorem box_ne1 {u v c d : Option (Int × Option Int)} (h : u ≠ v) (hc : c.isSome = true) (hd : d.isSome = true) : boxOf u c ≠ boxOf v d := by
  obtain ⟨x, rfl⟩ := Option.isSome_iff_exists.mp hc
  obtain ⟨y, rfl⟩ := Option.isSome_iff_exists.mp hd
  cases u <;> cases v <;> simp [boxOf] at h ⊢
  intro z
  exact absurd z h
theorem box_ne2 {u v c d : Option (Int × Option Int)} (h : u ≠ v) (hc : c.isSome = true) (hd : d.isSome = true) : boxOf c u ≠ boxOf d v := by
  obtain ⟨x, rfl⟩ := Option.isSome_iff_exists.mp hc
  obtain ⟨y, rfl⟩ := Option.isSome_iff_exists.mp hd
  cases u <;> cases v <;> simp [boxOf] at h ⊢
  intro _
  exact h
theorem all_some {A : Lay} (hA : Few A) : ∃ c, t_carried A (0, none) = Pr.ok c ∧ c.isSome = true := by
  obtain ⟨f, fA⟩ := hA.n
  obtain ⟨r, e, _⟩ := carried_open fA.toIsL (a := 0) (Int.le_refl _)
  exact ⟨_, e, rfl⟩
structure DBox (G H : Gr) (w : Option ((Int × Option Int) × (Int × Option Int))) : Prop where
  e : t_difference_box G H = Pr.ok w
  no : w = none → G.rows.parts = H.rows.parts ∧ G.cols.parts = H.cols.parts
  so : ∀ s, w = some s → ¬ (G.rows.parts = H.rows.parts ∧ G.cols.parts = H.cols.parts) ∧ isSp s.1 = true ∧ isSp s.2 = true ∧ ∃ u v, t_carried_box G s = Pr.ok u ∧ t_carried_box H s = Pr.ok v ∧ u ≠ v
theorem dbox {G H : Gr} (g1 : Few G.rows) (g2 : Few G.cols) (h1 : Few H.rows) (h2 : Few H.cols) : ∃ w, DBox G H w := by
  obtain ⟨w1, d1⟩ := dif_few g1 h1
  obtain ⟨w2, d2⟩ := dif_few g2 h2
  have e0 : t_difference_box G H = (if w1.isSome then (cast (α := ((Option (Int × (Option Int))) × (Int × (Option Int)))) (β := (Option ((Int × (Option Int)) × (Int × (Option Int))))) ((w1, (((0 : Int), (none : Option Int)) : Int × Option Int)) : ((Option (Int × (Option Int))) × (Int × (Option Int))))) else
      (if w2.isNone then (Pr.ok (none : (Option ((Int × (Option Int)) × (Int × (Option Int)))))) else (cast (α := ((Int × (Option Int)) × (Option (Int × (Option Int))))) (β := (Option ((Int × (Option Int)) × (Int × (Option Int))))) (((((0 : Int), (none : Option Int)) : Int × Option Int), w2) : ((Int × (Option Int)) × (Option (Int × (Option Int)))))))) := by
    unfold t_difference_box t_Grid_rows t_Grid_columns
    simp only [Pr.ok_bind]
    rw [d1.e, Pr.ok_bind, d2.e, Pr.ok_bind]
  cases w1 with
  | some s =>
    obtain ⟨ne, so, u, v, eu, ev, nuv⟩ := d1.so s rfl
    obtain ⟨c, ec, hc⟩ := all_some g2
    obtain ⟨d, ed, hd⟩ := all_some h2
    refine ⟨some (s, (0, none)), ?_, fun z => (by cases z), fun t ht => ?_⟩
    · rw [e0, if_pos (show (some s : Option (Int × Option Int)).isSome = true from rfl)]
      exact cast_ok rfl
    · cases ht
      exact ⟨fun z => ne z.1, isSp_ok so, rfl, _, _, box_t eu ec, box_t ev ed, box_ne1 nuv hc hd⟩
  | none =>
    have er := d1.no rfl
    cases w2 with
    | none =>
      refine ⟨none, ?_, fun _ => ⟨er, d2.no rfl⟩, fun t ht => (by cases ht)⟩
      rw [e0]
      rfl
    | some s =>
      obtain ⟨ne, so, u, v, eu, ev, nuv⟩ := d2.so s rfl
      obtain ⟨c, ec, hc⟩ := all_some g1
      obtain ⟨d, ed, hd⟩ := all_some h1
      refine ⟨some ((0, none), s), ?_, fun z => (by cases z), fun t ht => ?_⟩
      · rw [e0, if_neg (by decide), if_neg (by simp)]
        exact cast_ok rfl
      · cases ht
        exact ⟨fun z => ne z.2, rfl, isSp_ok so, _, _, box_t ec eu, box_t ed ev, box_ne2 nuv hc hd⟩
theorem dbox_self {G : Gr} (g1 : Few G.rows) (g2 : Few G.cols) : t_difference_box G G = Pr.ok none := by
  obtain ⟨w, h⟩ := dbox g1 g2 g1 g2
  cases w with
  | none => exact h.e
  | some s => exact absurd ⟨rfl, rfl⟩ (h.so s rfl).1
theorem gcmd_more : GCmd (T3.mk ("delete_columns" : Str) (4 : Int) (4 : Int)) := by
  have := gcmd_of (b := ⟨"delete", 4, 4⟩) ⟨.inr ⟨rfl, by decide, by decide⟩, by decide, fun _ => by decide, fun z => by rw [del_ne_ins] at z; exact z.elim⟩ "_columns" (.inr rfl)
  have e : (("delete" : Str) ++ ("_columns" : Str)) = "delete_columns" := by decide +kernel
  rw [show (T3.mk (("delete" : Str) ++ ("_columns" : Str)) (4 : Int) (4 : Int)) = T3.mk ("delete_columns" : Str) 4 4 by rw [e]] at this
  exact this
theorem cut_sub {α : Type} (l : List α) (lo hi : Option Int) : (∀ x ∈ cutD l lo hi, x ∈ l) ∧ (cutD l lo hi).length ≤ l.length := by
  unfold cutD
  refine ⟨fun x hx => List.mem_of_mem_drop (List.mem_of_mem_take hx), ?_⟩
  simp only [List.length_take, List.length_drop]
  omega
theorem law_holds : t_law (fun b => b = true) (fun _ => False) := by
  unfold t_law
  rw [need_T (sm_of (by omega) (by omega)), Pr.ok_bind]
  refine flow_i (fun x _ Q q => ?_) rfl
  refine bind_i (script_any _ fun gs hc hn => ?_)
  refine bind_i (bind_i (bind_i (script_any _ fun hs hc2 hn2 => ?_)))
  rw [cat_ok (by simp; omega), Pr.ok_bind]
  refine ok_i (of_i (by simp) (by simp) fun other hot => ?_)
  have ho : (∀ c ∈ other, GCmd c) ∧ other.length ≤ 7 := by
    simp only [List.mem_cons, List.not_mem_nil, or_false] at hot
    rcases hot with rfl | rfl | rfl | rfl
    · exact ⟨hc, by omega⟩
    · have := cut_sub gs none (some (-(1 : Int)))
      exact ⟨fun c h => hc c (this.1 c h), by have := this.2; omega⟩
    · exact ⟨hc2, by omega⟩
    · refine ⟨fun c h => ?_, by simp; omega⟩
      rcases List.mem_append.mp h with z | z
      · exact hc c z
      · rw [List.mem_singleton.mp z]; exact gcmd_more
  obtain ⟨G, eG, g1, g2⟩ := run_grid_t hc (by omega)
  obtain ⟨H, eH, h1, h2⟩ := run_grid_t ho.1 ho.2
  obtain ⟨w, dw⟩ := dbox g1 g2 h1 h2
  rw [eG, Pr.ok_bind, eH, Pr.ok_bind, dw.e, Pr.ok_bind, eq_grid, Pr.ok_bind, Pr.ok_bind, Pr.ok_bind]
  simp only [Bool.false_eq_true, if_false]
  have hk : w.isNone = (decide (G.rows.parts = H.rows.parts) && decide (G.cols.parts = H.cols.parts)) := by
    cases w with
    | none =>
      have := dw.no rfl
      simp [this.1, this.2]
    | some s =>
      have := (dw.so s rfl).1
      show false = _
      cases hh : (decide (G.rows.parts = H.rows.parts) && decide (G.cols.parts = H.cols.parts)) with
      | false => rfl
      | true =>
        simp only [Bool.and_eq_true, decide_eq_true_eq] at hh
        exact absurd hh this
  rw [decide_eq_true hk, Bool.not_true, if_neg (by decide), dbox_self g1 g2, Pr.ok_bind, Pr.ok_bind]
  show (if false = true then _ else _ : Pr (FlT Unit Bool)) Q _
  rw [if_neg (by decide)]
  cases w with
  | none =>
    show (Pr.flow (σ := Unit) (ρ := Bool) (if false = true then _ else Pr.ok (FlT.nx ())) _ _) Q _
    rw [if_neg (by decide)]
    exact q
  | some s =>
    obtain ⟨_, s1, s2, u, v, eu, ev, ne⟩ := dw.so s rfl
    simp only [Option.isSome_some, if_true]
    rw [op1_ok (c := true) (fun M => rfl), Pr.ok_bind, Pr.ok_bind]
    simp only [Bool.not_true, Bool.false_eq_true, if_false]
    rw [cast_some, Pr.ok_bind, Pr.ok_bind, Pr.ok_bind]
    simp only [decide_true, Bool.not_true, Bool.false_eq_true, if_false]
    simp only [Pr.ok_bind]
    rw [need_T (by simp), lcM_ok (cb := fun _ => true) (gv := isSp) _ (fun k hk => ⟨rfl, is_span_t k⟩), eu, ev]
    simp only [Pr.ok_bind, List.filter, List.map_cons, List.map_nil, s1, s2, List.all_cons, List.all_nil, id, Bool.and_self, Bool.not_true, Bool.false_eq_true, if_false, decide_eq_false ne]
    exact q
theorem law_ok (ns : List Int) (h : ns.length ≤ 63) : ∃ M, F_law [.scr ns] [] = .ok (.bl true) M := law_of law_holds ns h
end
end T
namespace T
open PySem L2 Ip
theorem main : Main := fun ns h => law_ok ns h
end T
open PySem PySem.W PyProof.Rows in
set_option maxRecDepth 100000 in
set_option maxHeartbeats 0 in
theorem PySem.Challenge.cw_spanrows_k38_whole_grids_alike_or_not_holds : PySem.Challenge.rw_spanrows_k38_whole_grids_alike_or_not.Holds := by
  w_on; o_law; k_head; (case hw => w_witness2)
  k_fill
  refine T.walk (l := PySem.Challenge.rw_spanrows_k38_whole_grids_alike_or_not) rfl rfl (fun w h Y => PySem.W.kIn_of Y) ?F
  case F =>
    intro w mg fa h KX G hmg
    refine' T.all_mk T.main KX G hmg ?z_all ?z_bool ?z_enumerate ?z_int ?z_isinstance ?z_len ?z_list ?z_max ?z_min ?z_range ?z_set ?z_sorted ?z_tuple ?z_zip ?aC_Layout ?pg_Layout ?hd_Layout ?po_Layout ?sa_Layout ?mk_Layout ?kc_Layout ?rd_Layout ?ga_Layout ?na_Layout_parts ?na_Layout_starts ?cv_Layout_LIMIT ?aC_Grid ?pg_Grid ?hd_Grid ?po_Grid ?sa_Grid ?mk_Grid ?kc_Grid ?rd_Grid ?ga_Grid ?na_Grid_row_layout ?na_Grid_column_layout ?gp_ALL_ROWS ?lp_ALL_ROWS ?gp_PLAIN ?lp_PLAIN ?lr_PLAIN ?gp_WORDS ?lp_WORDS ?a__law_bag ?l__law_bag ?c__law_bag ?k__law_bag ?a__law_pull ?l__law_pull ?c__law_pull ?k__law_pull ?a__law_of ?l__law_of ?c__law_of ?k__law_of ?a__law_near ?l__law_near ?c__law_near ?k__law_near ?a__law_grid_script ?l__law_grid_script ?c__law_grid_script ?k__law_grid_script ?a_without_axis ?l_without_axis ?c_without_axis ?k_without_axis ?a_is_number ?l_is_number ?c_is_number ?k_is_number ?a_are_numbers ?l_are_numbers ?c_are_numbers ?k_are_numbers ?a_is_command ?l_is_command ?c_is_command ?k_is_command ?a_is_grid_command ?l_is_grid_command ?c_is_grid_command ?k_is_grid_command ?a_check_grid_script ?l_check_grid_script ?c_check_grid_script ?k_check_grid_script ?a_axis_script ?l_axis_script ?c_axis_script ?k_axis_script ?a_check_script ?l_check_script ?c_check_script ?k_check_script ?a_Layout_pieces ?i_Layout_pieces ?l_Layout_pieces ?c_Layout_pieces ?k_Layout_pieces ?a_old_rows_before ?l_old_rows_before ?c_old_rows_before ?k_old_rows_before ?a_insert_pieces ?l_insert_pieces ?c_insert_pieces ?k_insert_pieces ?a_delete_pieces ?l_delete_pieces ?c_delete_pieces ?k_delete_pieces ?a_command_pieces ?l_command_pieces ?c_command_pieces ?k_command_pieces ?a_row_count ?l_row_count ?c_row_count ?k_row_count ?a_starts_of ?l_starts_of ?c_starts_of ?k_starts_of ?a_index_of_row ?l_index_of_row ?c_index_of_row ?k_index_of_row ?a_first_rows ?l_first_rows ?c_first_rows ?k_first_rows ?a_without_first_rows ?l_without_first_rows ?c_without_first_rows ?k_without_first_rows ?a_part ?l_part ?c_part ?k_part ?a_label_in ?l_label_in ?c_label_in ?k_label_in ?a_label_at ?l_label_at ?c_label_at ?k_label_at ?a_renamed ?l_renamed ?c_renamed ?k_renamed ?a_joined ?l_joined ?c_joined ?k_joined ?a_normal_form ?l_normal_form ?c_normal_form ?k_normal_form ?a_followed ?l_followed ?c_followed ?k_followed ?a_pieces_behind ?l_pieces_behind ?c_pieces_behind ?k_pieces_behind ?a_is_range ?l_is_range ?c_is_range ?k_is_range ?a_is_piece ?l_is_piece ?c_is_piece ?k_is_piece ?a_is_open ?l_is_open ?c_is_open ?k_is_open ?a_first_label ?l_first_label ?c_first_label ?k_first_label ?a_may_follow ?l_may_follow ?c_may_follow ?k_may_follow ?a_first_wrong ?l_first_wrong ?c_first_wrong ?k_first_wrong ?a_Layout___init__ ?i_Layout___init__ ?l_Layout___init__ ?c_Layout___init__ ?k_Layout___init__ ?a_run ?l_run ?w_run ?c_run ?k_run ?a_Grid___init__ ?i_Grid___init__ ?l_Grid___init__ ?c_Grid___init__ ?k_Grid___init__ ?a_run_grid ?l_run_grid ?c_run_grid ?k_run_grid ?a_Grid_rows ?r_Grid_rows ?g_Grid_rows ?t_Grid_rows ?l_Grid_rows ?c_Grid_rows ?k_Grid_rows ?a_old_ranges ?l_old_ranges ?c_old_ranges ?k_old_ranges ?a_new_labels ?l_new_labels ?c_new_labels ?k_new_labels ?a_turning_points ?l_turning_points ?c_turning_points ?k_turning_points ?a_is_span ?l_is_span ?c_is_span ?k_is_span ?a_check_span ?l_check_span ?c_check_span ?k_check_span ?a_first_row_from ?l_first_row_from ?c_first_row_from ?k_first_row_from ?a_lesser ?l_lesser ?c_lesser ?k_lesser ?a_last_row_up_to ?l_last_row_up_to ?c_last_row_up_to ?k_last_row_up_to ?a_carried_by ?l_carried_by ?c_carried_by ?k_carried_by ?a_carried ?l_carried ?c_carried ?k_carried ?a_is_difference ?l_is_difference ?c_is_difference ?k_is_difference ?a_difference ?l_difference ?c_difference ?k_difference ?a_Grid_columns ?r_Grid_columns ?g_Grid_columns ?t_Grid_columns ?l_Grid_columns ?c_Grid_columns ?k_Grid_columns ?a_difference_box ?l_difference_box ?c_difference_box ?k_difference_box ?a_Layout___eq__ ?i_Layout___eq__ ?l_Layout___eq__ ?c_Layout___eq__ ?k_Layout___eq__ ?a_Grid___eq__ ?i_Grid___eq__ ?l_Grid___eq__ ?c_Grid___eq__ ?k_Grid___eq__ ?a_carried_box ?l_carried_box ?c_carried_box ?k_carried_box ?a_law ?l_law ?c_law ?k_law ?eh_Grid ?en_Grid ?et_Grid ?em_Grid ?ee_Grid ?ey_Grid ?eh_Layout ?en_Layout ?et_Layout ?em_Layout ?ee_Layout ?ey_Layout
    (case z_all => k_is)
    (case z_bool => k_is)
    (case z_enumerate => k_is)
    (case z_int => k_is)
    (case z_isinstance => k_is)
    (case z_len => k_is)
    (case z_list => k_is)
    (case z_max => k_is)
    (case z_min => k_is)
    (case z_range => k_is)
    (case z_set => k_is)
    (case z_sorted => k_is)
    (case z_tuple => k_is)
    (case z_zip => k_is)
    (case aC_Layout => k_is)
    (case pg_Layout => k_is)
    (case hd_Layout => k_is)
    (case po_Layout => k_is)
    (case sa_Layout => k_is)
    (case mk_Layout => k_is)
    (case kc_Layout => k_is)
    (case rd_Layout => k_is)
    (case ga_Layout => k_is)
    (case na_Layout_parts => k_is)
    (case na_Layout_starts => k_is)
    (case cv_Layout_LIMIT => k_is)
    (case aC_Grid => k_is)
    (case pg_Grid => k_is)
    (case hd_Grid => k_is)
    (case po_Grid => k_is)
    (case sa_Grid => k_is)
    (case mk_Grid => k_is)
    (case kc_Grid => k_is)
    (case rd_Grid => k_is)
    (case ga_Grid => k_is)
    (case na_Grid_row_layout => k_is)
    (case na_Grid_column_layout => k_is)
    (case gp_ALL_ROWS => k_is)
    (case lp_ALL_ROWS => k_is)
    (case gp_PLAIN => k_is)
    (case lp_PLAIN => k_is)
    (case lr_PLAIN => k_is)
    (case gp_WORDS => k_is)
    (case lp_WORDS => k_is)
    (case a__law_bag => k_is)
    (case l__law_bag => k_is)
    (case c__law_bag => k_is)
    (case k__law_bag => k_is)
    (case a__law_pull => k_is)
    (case l__law_pull => k_is)
    (case c__law_pull => k_is)
    (case k__law_pull => k_is)
    (case a__law_of => k_is)
    (case l__law_of => k_is)
    (case c__law_of => k_is)
    (case k__law_of => k_is)
    (case a__law_near => k_is)
    (case l__law_near => k_is)
    (case c__law_near => k_is)
    (case k__law_near => k_is)
    (case a__law_grid_script => k_is)
    (case l__law_grid_script => k_is)
    (case c__law_grid_script => k_is)
    (case k__law_grid_script => k_is)
    (case a_without_axis => k_is)
    (case l_without_axis => k_is)
    (case c_without_axis => k_is)
    (case k_without_axis => k_is)
    (case a_is_number => k_is)
    (case l_is_number => k_is)
    (case c_is_number => k_is)
    (case k_is_number => k_is)
    (case a_are_numbers => k_is)
    (case l_are_numbers => k_is)
    (case c_are_numbers => k_is)
    (case k_are_numbers => k_is)
    (case a_is_command => k_is)
    (case l_is_command => k_is)
    (case c_is_command => k_is)
    (case k_is_command => k_is)
    (case a_is_grid_command => k_is)
    (case l_is_grid_command => k_is)
    (case c_is_grid_command => k_is)
    (case k_is_grid_command => k_is)
    (case a_check_grid_script => k_is)
    (case l_check_grid_script => k_is)
    (case c_check_grid_script => k_is)
    (case k_check_grid_script => k_is)
    (case a_axis_script => k_is)
    (case l_axis_script => k_is)
    (case c_axis_script => k_is)
    (case k_axis_script => k_is)
    (case a_check_script => k_is)
    (case l_check_script => k_is)
    (case c_check_script => k_is)
    (case k_check_script => k_is)
    (case a_Layout_pieces => k_is)
    (case i_Layout_pieces => k_is)
    (case l_Layout_pieces => k_is)
    (case c_Layout_pieces => k_is)
    (case k_Layout_pieces => k_is)
    (case a_old_rows_before => k_is)
    (case l_old_rows_before => k_is)
    (case c_old_rows_before => k_is)
    (case k_old_rows_before => k_is)
    (case a_insert_pieces => k_is)
    (case l_insert_pieces => k_is)
    (case c_insert_pieces => k_is)
    (case k_insert_pieces => k_is)
    (case a_delete_pieces => k_is)
    (case l_delete_pieces => k_is)
    (case c_delete_pieces => k_is)
    (case k_delete_pieces => k_is)
    (case a_command_pieces => k_is)
    (case l_command_pieces => k_is)
    (case c_command_pieces => k_is)
    (case k_command_pieces => k_is)
    (case a_row_count => k_is)
    (case l_row_count => k_is)
    (case c_row_count => k_is)
    (case k_row_count => k_is)
    (case a_starts_of => k_is)
    (case l_starts_of => k_is)
    (case c_starts_of => k_is)
    (case k_starts_of => k_is)
    (case a_index_of_row => k_is)
    (case l_index_of_row => k_is)
    (case c_index_of_row => k_is)
    (case k_index_of_row => k_is)
    (case a_first_rows => k_is)
    (case l_first_rows => k_is)
    (case c_first_rows => k_is)
    (case k_first_rows => k_is)
    (case a_without_first_rows => k_is)
    (case l_without_first_rows => k_is)
    (case c_without_first_rows => k_is)
    (case k_without_first_rows => k_is)
    (case a_part => k_is)
    (case l_part => k_is)
    (case c_part => k_is)
    (case k_part => k_is)
    (case a_label_in => k_is)
    (case l_label_in => k_is)
    (case c_label_in => k_is)
    (case k_label_in => k_is)
    (case a_label_at => k_is)
    (case l_label_at => k_is)
    (case c_label_at => k_is)
    (case k_label_at => k_is)
    (case a_renamed => k_is)
    (case l_renamed => k_is)
    (case c_renamed => k_is)
    (case k_renamed => k_is)
    (case a_joined => k_is)
    (case l_joined => k_is)
    (case c_joined => k_is)
    (case k_joined => k_is)
    (case a_normal_form => k_is)
    (case l_normal_form => k_is)
    (case c_normal_form => k_is)
    (case k_normal_form => k_is)
    (case a_followed => k_is)
    (case l_followed => k_is)
    (case c_followed => k_is)
    (case k_followed => k_is)
    (case a_pieces_behind => k_is)
    (case l_pieces_behind => k_is)
    (case c_pieces_behind => k_is)
    (case k_pieces_behind => k_is)
    (case a_is_range => k_is)
    (case l_is_range => k_is)
    (case c_is_range => k_is)
    (case k_is_range => k_is)
    (case a_is_piece => k_is)
    (case l_is_piece => k_is)
    (case c_is_piece => k_is)
    (case k_is_piece => k_is)
    (case a_is_open => k_is)
    (case l_is_open => k_is)
    (case c_is_open => k_is)
    (case k_is_open => k_is)
    (case a_first_label => k_is)
    (case l_first_label => k_is)
    (case c_first_label => k_is)
    (case k_first_label => k_is)
    (case a_may_follow => k_is)
    (case l_may_follow => k_is)
    (case c_may_follow => k_is)
    (case k_may_follow => k_is)
    (case a_first_wrong => k_is)
    (case l_first_wrong => k_is)
    (case c_first_wrong => k_is)
    (case k_first_wrong => k_is)
    (case a_Layout___init__ => k_is)
    (case i_Layout___init__ => k_is)
    (case l_Layout___init__ => k_is)
    (case c_Layout___init__ => k_is)
    (case k_Layout___init__ => k_is)
    (case a_run => k_is)
    (case l_run => k_is)
    (case w_run => k_is)
    (case c_run => k_is)
    (case k_run => k_is)
    (case a_Grid___init__ => k_is)
    (case i_Grid___init__ => k_is)
    (case l_Grid___init__ => k_is)
    (case c_Grid___init__ => k_is)
    (case k_Grid___init__ => k_is)
    (case a_run_grid => k_is)
    (case l_run_grid => k_is)
    (case c_run_grid => k_is)
    (case k_run_grid => k_is)
    (case a_Grid_rows => k_is)
    (case r_Grid_rows => k_is)
    (case g_Grid_rows => k_is)
    (case t_Grid_rows => k_is)
    (case l_Grid_rows => k_is)
    (case c_Grid_rows => k_is)
    (case k_Grid_rows => k_is)
    (case a_old_ranges => k_is)
    (case l_old_ranges => k_is)
    (case c_old_ranges => k_is)
    (case k_old_ranges => k_is)
    (case a_new_labels => k_is)
    (case l_new_labels => k_is)
    (case c_new_labels => k_is)
    (case k_new_labels => k_is)
    (case a_turning_points => k_is)
    (case l_turning_points => k_is)
    (case c_turning_points => k_is)
    (case k_turning_points => k_is)
    (case a_is_span => k_is)
    (case l_is_span => k_is)
    (case c_is_span => k_is)
    (case k_is_span => k_is)
    (case a_check_span => k_is)
    (case l_check_span => k_is)
    (case c_check_span => k_is)
    (case k_check_span => k_is)
    (case a_first_row_from => k_is)
    (case l_first_row_from => k_is)
    (case c_first_row_from => k_is)
    (case k_first_row_from => k_is)
    (case a_lesser => k_is)
    (case l_lesser => k_is)
    (case c_lesser => k_is)
    (case k_lesser => k_is)
    (case a_last_row_up_to => k_is)
    (case l_last_row_up_to => k_is)
    (case c_last_row_up_to => k_is)
    (case k_last_row_up_to => k_is)
    (case a_carried_by => k_is)
    (case l_carried_by => k_is)
    (case c_carried_by => k_is)
    (case k_carried_by => k_is)
    (case a_carried => k_is)
    (case l_carried => k_is)
    (case c_carried => k_is)
    (case k_carried => k_is)
    (case a_is_difference => k_is)
    (case l_is_difference => k_is)
    (case c_is_difference => k_is)
    (case k_is_difference => k_is)
    (case a_difference => k_is)
    (case l_difference => k_is)
    (case c_difference => k_is)
    (case k_difference => k_is)
    (case a_Grid_columns => k_is)
    (case r_Grid_columns => k_is)
    (case g_Grid_columns => k_is)
    (case t_Grid_columns => k_is)
    (case l_Grid_columns => k_is)
    (case c_Grid_columns => k_is)
    (case k_Grid_columns => k_is)
    (case a_difference_box => k_is)
    (case l_difference_box => k_is)
    (case c_difference_box => k_is)
    (case k_difference_box => k_is)
    (case a_Layout___eq__ => k_is)
    (case i_Layout___eq__ => k_is)
    (case l_Layout___eq__ => k_is)
    (case c_Layout___eq__ => k_is)
    (case k_Layout___eq__ => k_is)
    (case a_Grid___eq__ => k_is)
    (case i_Grid___eq__ => k_is)
    (case l_Grid___eq__ => k_is)
    (case c_Grid___eq__ => k_is)
    (case k_Grid___eq__ => k_is)
    (case a_carried_box => k_is)
    (case l_carried_box => k_is)
    (case c_carried_box => k_is)
    (case k_carried_box => k_is)
    (case a_law => k_is)
    (case l_law => k_is)
    (case c_law => k_is)
    (case k_law => k_is)
    (case eh_Grid => k_is)
    (case en_Grid => k_is)
    (case et_Grid => k_is)
    (case em_Grid => k_is)
    (case ee_Grid => k_is)
    (case ey_Grid => k_is)
    (case eh_Layout => k_is)
    (case en_Layout => k_is)
    (case et_Layout => k_is)
    (case em_Layout => k_is)
    (case ee_Layout => k_is)
    (case ey_Layout => k_is)

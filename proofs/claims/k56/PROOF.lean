import PyProof.Rows.All
import Wide.All
import OpenK.AllK
import Wide.FinOn
import KE.OsRunLaw
import HandS.ForMost
import HandS.ForExc
import HandS.IsInst
import HandS.Wide
import HandS.Flow
import HandS.TupAny
import HandS.Lambda
import HandS.EndOwn
import HandS.Style
import HandS.Text
import HandS.Flt
import HandS.FStr
import HandS.New0
import PyProof.InstSpecial
import KE.GoesMore
import KE.GoesEnum
import HandS.ClsMeth
import HandS.Property
import HandS.More
import HandS.OwnEq
import HandS.Defaults
import HandS.Star
import HandS.TryOnly
import HandS.ExcInit
import HandS.ExcOwn
import HandS.ExcField
import HandS.WordsExc
import HandS.HotCalls
import HandS.TryMany
import KE.KNestM
import HandS.Comp
import HandS.SetFor
import HandS.Strs
import HandS.Deep
import HandS.DictComp
import HandS.SortRule
import HandS.Conv
import HandS.TupSets
import PyProof.DictMoreH
import KE.KDflt
import HandS.GenList
import KE.SortKeyHeap
import KE.KLam
import HandS.Nested
import HandS.FStrTup
import KE.KDictKeyed
import PyProof.StrBlock2
import KE.KUnpack
import PyProof.CollectIter
import PyProof.Rows.Range3
import HandS.Codes
import PySem.Challenge.RW_spanrows_k56_whole_layouts_and_their_tex
set_option Elab.async false
set_option linter.all false
set_option maxRecDepth 100000
section
set_option Elab.async false
set_option linter.all false
set_option maxRecDepth 100000
set_option maxHeartbeats 4000000
set_option autoImplicit false
namespace Ip
open PySem L2
inductive D where
  | non | bl (b : Bool) | int (i : Int) | str (s : Str)
  | tup (l : List D) | lst (l : List D)
  | scr (ns : List Int)
  | ty (n : String)
  | ref (n : Nat)
  | obj (c : Str) (ks : List Str) (vs : List D)
  | cls (c : Str)
  | dK (ks : List Key) (vs : List D)
  | dT (ks : List (List Key)) (vs : List D)
inductive Cell where
  | lst (xs : List D)
  | ins (c : Str) (ks : List Str) (vs : List D)
  | dK (ks : List Key) (vs : List D)
  | dT (ks : List (List Key)) (vs : List D)
abbrev Sto := List Cell
abbrev En := List (Option D)
/-- where the cells stand; what must not be touched meanwhile -/
structure Rho where
  c : List Addr
  t : List Addr
instance : Membership Addr Rho := ⟨fun ρ a => a ∈ ρ.c ∨ a ∈ ρ.t⟩
theorem Rho.inl {ρ : Rho} {a : Addr} (h : a ∈ ρ.c) : a ∈ ρ := Or.inl h
theorem Rho.inr {ρ : Rho} {a : Addr} (h : a ∈ ρ.t) : a ∈ ρ := Or.inr h
structure Gx where
  K : PySem.W.Frag
  cl : Str → Option Addr
/-- some ints -/
def intsV (vs : List V) : Prop := vs ≠ [] ∧ ∀ v ∈ vs, ∃ i : Int, v = .int i
/-- a tuple stands there; one of ints is tracked -/
def TpA (G : Gx) (H : Hp) (a : Addr) (vs : List V) : Prop := SqT G.K H a vs ∧ (intsV vs → H a = some (.tup vs))
theorem TpA.of {G : Gx} {H : Hp} {a : Addr} {vs : List V} (h : H a = some (.tup vs)) : TpA G H a vs := ⟨SqT.of h, fun _ => h⟩
theorem TpA.no {G : Gx} {H : Hp} {a : Addr} {vs : List V} (h : SqT G.K H a vs) (n : ¬ intsV vs) : TpA G H a vs := ⟨h, fun z => absurd z n⟩
mutual
inductive RV (G : Gx) (H : Hp) (ρ : Rho) : D → V → Prop
  | non : RV G H ρ .non .non
  | bl (b : Bool) : RV G H ρ (.bl b) (.bl b)
  | int (i : Int) : RV G H ρ (.int i) (.int i)
  | str (s : Str) : RV G H ρ (.str s) (.str s)
  | ty (n : String) : RV G H ρ (.ty n) (.ty n)
  | tup {a : Addr} {vs : List V} {ds : List D} : TpA G H a vs → RVs G H ρ ds vs → RV G H ρ (.tup ds) (.ref a)
  | lst {a : Addr} {vs : List V} {ds : List D} : H a = some (.lst vs) → a ∉ ρ → RVs G H ρ ds vs → RV G H ρ (.lst ds) (.ref a)
  | scr {a : Addr} {ns : List Int} : (Rd H a (.lst (ns.map V.int)) ∧ a ∉ ρ) ∨ (∀ H', SqL G.K H' a (ns.map V.int)) → RV G H ρ (.scr ns) (.ref a)
  | ref {n : Nat} {a : Addr} : ρ.c[n]? = some a → RV G H ρ (.ref n) (.ref a)
  | obj {c : Str} {C a dx : Addr} {ks : List Str} {ds : List D} {vs : List V} : G.cl c = some C → H a = some (.ins C dx (ks.zip vs)) → ks.length = vs.length → a ∉ ρ → RVs G H ρ ds vs → RV G H ρ (.obj c ks ds) (.ref a)
  | cls {c : Str} {C : Addr} : G.cl c = some C → RV G H ρ (.cls c) (.ref C)
  | dK {a : Addr} {ks : List Key} {vs : List V} {ds : List D} : H a = some (.dK (ks.zip vs)) → ks.length = vs.length → a ∉ ρ → RVs G H ρ ds vs → RV G H ρ (.dK ks ds) (.ref a)
  | dT {a : Addr} {ks : List (List Key)} {vs : List V} {ds : List D} : Rd H a (.dT (ks.zip vs)) → ks.length = vs.length → a ∉ ρ → RVs G H ρ ds vs → RV G H ρ (.dT ks ds) (.ref a)
inductive RVs (G : Gx) (H : Hp) (ρ : Rho) : List D → List V → Prop
  | nil : RVs G H ρ [] []
  | cons {d : D} {v : V} {ds : List D} {vs : List V} : RV G H ρ d v → RVs G H ρ ds vs → RVs G H ρ (d :: ds) (v :: vs)
end
/-- objects that trees speak of -/
def plainO (o : HO) : Prop := (∃ xs, o = .lst xs) ∨ (∃ C dx fs, o = .ins C dx fs) ∨ (∃ q u, o = .frz q u) ∨ (∃ kvs, o = .dK kvs) ∨ ∃ kvs, o = .dT kvs
theorem plainO.l {xs : List V} : plainO (.lst xs) := .inl ⟨_, rfl⟩
theorem plainO.i {C dx : Addr} {fs : List (Str × V)} : plainO (.ins C dx fs) := .inr (.inl ⟨_, _, _, rfl⟩)
theorem plainO.f {q : Obj} {u : HO} : plainO (.frz q u) := .inr (.inr (.inl ⟨_, _, rfl⟩))
theorem plainO.k {kvs : List (Key × V)} : plainO (.dK kvs) := .inr (.inr (.inr (.inl ⟨_, rfl⟩)))
theorem plainO.d {kvs : List (List Key × V)} : plainO (.dT kvs) := .inr (.inr (.inr (.inr ⟨_, rfl⟩)))
theorem plainO.tbl {o : HO} (h : plainO o) (ps : Array Value) : o ≠ .tbl ps := fun z => by rcases h with ⟨_, h⟩ | ⟨_, _, _, h⟩ | ⟨_, _, h⟩ | ⟨_, h⟩ | ⟨_, h⟩ <;> rw [h] at z <;> cases z
/-- trees stay what they are -/
structure Mo (G : Gx) (H : Hp) (ρ : Rho) (H' : Hp) (ρ' : Rho) : Prop where
  pre : ∀ (n : Nat) (a : Addr), ρ.c[n]? = some a → ρ'.c[n]? = some a
  tup : ∀ a xs, TpA G H a xs → TpA G H' a xs
  keep : ∀ (a : Addr) (o : HO), a ∉ ρ → plainO o → H a = some o → H' a = some o ∧ a ∉ ρ'
/-- the heap goes on: the cells stay where they are, what is no cell stays as it is -/
structure Ext (G : Gx) (H : Hp) (ρ : Rho) (H' : Hp) (ρ' : Rho) : Prop where
  pre : ∀ (n : Nat) (a : Addr), ρ.c[n]? = some a → ρ'.c[n]? = some a
  res : ρ'.t = ρ.t
  same : ∀ a, a ∈ ρ.t → H' a = H a
  tup : ∀ a xs, TpA G H a xs → TpA G H' a xs
  keep : ∀ (a : Addr) (o : HO), a ∉ ρ → (∀ ps, o ≠ .tbl ps) → H a = some o → H' a = some o ∧ a ∉ ρ'
theorem Ext.mo {G : Gx} {H H' : Hp} {ρ ρ' : Rho} (e : Ext G H ρ H' ρ') : Mo G H ρ H' ρ' := ⟨e.pre, e.tup, fun a o n p h => e.keep a o n p.tbl h⟩
theorem Ext.refl {G : Gx} {H : Hp} {ρ : Rho} : Ext G H ρ H ρ := ⟨fun _ _ h => h, rfl, fun _ _ => rfl, fun _ _ h => h, fun _ _ h1 _ h2 => ⟨h2, h1⟩⟩
theorem Ext.trans {G : Gx} {H H1 H2 : Hp} {ρ ρ1 ρ2 : Rho} (a : Ext G H ρ H1 ρ1) (b : Ext G H1 ρ1 H2 ρ2) : Ext G H ρ H2 ρ2 :=
  ⟨fun n c h => b.pre n c (a.pre n c h), b.res.trans a.res, fun c hc => (b.same c (by rw [a.res]; exact hc)).trans (a.same c hc), fun c xs h => b.tup c xs (a.tup c xs h), fun c o h1 h3 h2 => b.keep c o (a.keep c o h1 h3 h2).2 h3 (a.keep c o h1 h3 h2).1⟩
theorem Mo.rd {G : Gx} {H H' : Hp} {ρ ρ' : Rho} (e : Mo G H ρ H' ρ') {a : Addr} {kvs : List (List Key × V)} (n : a ∉ ρ) (h : Rd H a (.dT kvs)) : Rd H' a (.dT kvs) ∧ a ∉ ρ' := by
  rcases h with h | ⟨o, h⟩
  · exact ⟨.inl (e.keep _ _ n .d h).1, (e.keep _ _ n .d h).2⟩
  · exact ⟨.inr ⟨o, (e.keep _ _ n .f h).1⟩, (e.keep _ _ n .f h).2⟩
mutual
theorem RV.mo {G : Gx} {H H' : Hp} {ρ ρ' : Rho} (e : Mo G H ρ H' ρ') : ∀ {d : D} {v : V}, RV G H ρ d v → RV G H' ρ' d v
  | _, _, .non => .non
  | _, _, .bl b => .bl b
  | _, _, .int i => .int i
  | _, _, .str s => .str s
  | _, _, .ty s => .ty s
  | _, _, .tup h r => .tup (e.tup _ _ h) (RVs.mo e r)
  | _, _, .lst h n r => .lst (e.keep _ _ n .l h).1 (e.keep _ _ n .l h).2 (RVs.mo e r)
  | _, _, .scr h => .scr (by
      rcases h with ⟨h | ⟨o, h⟩, n⟩ | h
      · exact .inl ⟨.inl (e.keep _ _ n .l h).1, (e.keep _ _ n .l h).2⟩
      · exact .inl ⟨.inr ⟨o, (e.keep _ _ n .f h).1⟩, (e.keep _ _ n .f h).2⟩
      · exact .inr h)
  | _, _, .ref h => .ref (e.pre _ _ h)
  | _, _, .obj c h l n r => .obj c (e.keep _ _ n .i h).1 l (e.keep _ _ n .i h).2 (RVs.mo e r)
  | _, _, .cls h => .cls h
  | _, _, .dK h l n r => .dK (e.keep _ _ n .k h).1 l (e.keep _ _ n .k h).2 (RVs.mo e r)
  | _, _, .dT h l n r => .dT (e.rd n h).1 l (e.rd n h).2 (RVs.mo e r)
theorem RVs.mo {G : Gx} {H H' : Hp} {ρ ρ' : Rho} (e : Mo G H ρ H' ρ') : ∀ {ds : List D} {vs : List V}, RVs G H ρ ds vs → RVs G H' ρ' ds vs
  | _, _, .nil => .nil
  | _, _, .cons a b => .cons (RV.mo e a) (RVs.mo e b)
end
theorem RV.mono {G : Gx} {H H' : Hp} {ρ ρ' : Rho} (e : Ext G H ρ H' ρ') {d : D} {v : V} (h : RV G H ρ d v) : RV G H' ρ' d v := h.mo e.mo
theorem RVs.mono {G : Gx} {H H' : Hp} {ρ ρ' : Rho} (e : Ext G H ρ H' ρ') {d : List D} {v : List V} (h : RVs G H ρ d v) : RVs G H' ρ' d v := h.mo e.mo
section
variable {G : Gx} {H : Hp} {ρ : Rho}
theorem RVs.length : ∀ {ds : List D} {vs : List V}, RVs G H ρ ds vs → vs.length = ds.length
  | _, _, .nil => rfl
  | _, _, .cons _ t => by simp [RVs.length t]
theorem RVs.get : ∀ {ds : List D} {vs : List V} {i : Nat} {d : D}, RVs G H ρ ds vs → ds[i]? = some d → ∃ v, vs[i]? = some v ∧ RV G H ρ d v
  | _, _, _, _, .nil, h => by simp at h
  | _, _, 0, _, .cons r _, h => by simp at h; subst h; exact ⟨_, rfl, r⟩
  | _, _, i + 1, _, .cons _ t, h => by
    obtain ⟨v, h1, h2⟩ := RVs.get (i := i) t (by simpa using h)
    exact ⟨v, by simpa using h1, h2⟩
theorem RVs.append : ∀ {ds es : List D} {vs ws : List V}, RVs G H ρ ds vs → RVs G H ρ es ws → RVs G H ρ (ds ++ es) (vs ++ ws)
  | _, _, _, _, .nil, b => b
  | _, _, _, _, .cons r t, b => .cons r (RVs.append t b)
theorem RVs.take : ∀ {ds : List D} {vs : List V} (n : Nat), RVs G H ρ ds vs → RVs G H ρ (ds.take n) (vs.take n)
  | _, _, 0, _ => .nil
  | _, _, _ + 1, .nil => .nil
  | _, _, n + 1, .cons r t => .cons r (RVs.take n t)
theorem RVs.drop : ∀ {ds : List D} {vs : List V} (n : Nat), RVs G H ρ ds vs → RVs G H ρ (ds.drop n) (vs.drop n)
  | _, _, 0, h => h
  | _, _, _ + 1, .nil => .nil
  | _, _, n + 1, .cons _ t => RVs.drop n t
theorem RVs.set {d : D} {v : V} (r : RV G H ρ d v) : ∀ {ds : List D} {vs : List V} (i : Nat), RVs G H ρ ds vs → RVs G H ρ (ds.set i d) (vs.set i v)
  | _, _, _, .nil => .nil
  | _, _, 0, .cons _ t => .cons r t
  | _, _, i + 1, .cons q t => .cons q (RVs.set r i t)
theorem RVs.rep {ds : List D} {vs : List V} (h : RVs G H ρ ds vs) : ∀ k : Nat, RVs G H ρ (List.replicate k ds).flatten (List.replicate k vs).flatten
  | 0 => .nil
  | k + 1 => by
    rw [List.replicate_succ, List.replicate_succ, List.flatten_cons, List.flatten_cons]
    exact RVs.append h (RVs.rep h k)
theorem RVs.ints : ∀ (ns : List Int), RVs G H ρ (ns.map D.int) (ns.map V.int)
  | [] => .nil
  | n :: ns => .cons (.int n) (RVs.ints ns)
theorem RVs.one {d : D} {v : V} (h : RV G H ρ d v) : RVs G H ρ [d] [v] := .cons h .nil
theorem RVs.two {d e : D} {v w : V} (h : RV G H ρ d v) (h2 : RV G H ρ e w) : RVs G H ρ [d, e] [v, w] := .cons h (.cons h2 .nil)
def COk (G : Gx) (H : Hp) (ρ : Rho) (a : Addr) : Cell → Prop
  | .lst ds => ∃ vs, H a = some (.lst vs) ∧ RVs G H ρ ds vs
  | .ins c ks ds => ∃ C dx vs, G.cl c = some C ∧ H a = some (.ins C dx (ks.zip vs)) ∧ ks.length = vs.length ∧ RVs G H ρ ds vs
  | .dK ks ds => ∃ vs, H a = some (.dK (ks.zip vs)) ∧ ks.length = vs.length ∧ RVs G H ρ ds vs
  | .dT ks ds => ∃ vs, H a = some (.dT (ks.zip vs)) ∧ ks.length = vs.length ∧ RVs G H ρ ds vs
def isCO (o : HO) : Prop := (∃ xs, o = .lst xs) ∨ (∃ C dx fs, o = .ins C dx fs) ∨ (∃ kvs, o = .dK kvs) ∨ ∃ kvs, o = .dT kvs
theorem isCO.i {C dx : Addr} {fs : List (Str × V)} : isCO (.ins C dx fs) := .inr (.inl ⟨_, _, _, rfl⟩)
theorem isCO.tup {o : HO} (h : isCO o) (xs : List V) : o ≠ .tup xs := fun z => by rcases h with ⟨_, h⟩ | ⟨_, _, _, h⟩ | ⟨_, h⟩ | ⟨_, h⟩ <;> rw [h] at z <;> cases z
theorem isCO.frz {o : HO} (h : isCO o) (q : Obj) (u : HO) : o ≠ .frz q u := fun z => by rcases h with ⟨_, h⟩ | ⟨_, _, _, h⟩ | ⟨_, h⟩ | ⟨_, h⟩ <;> rw [h] at z <;> cases z
theorem isCO.tbl {o : HO} (h : isCO o) (ps : Array Value) : o ≠ .tbl ps := fun z => by rcases h with ⟨_, h⟩ | ⟨_, _, _, h⟩ | ⟨_, h⟩ | ⟨_, h⟩ <;> rw [h] at z <;> cases z
theorem isCO.code {o : HO} (h : isCO o) {c : Addr} {q : Str} : o ≠ LamX.CodeO c q := fun z => by unfold LamX.CodeO at z; rcases h with ⟨_, h⟩ | ⟨_, _, _, h⟩ | ⟨_, h⟩ | ⟨_, h⟩ <;> rw [h] at z <;> cases z
/-- the name of a lambda -/
def lamQ (q : Str) : Bool := q.cps.toList.getLast? == some 62
/-- the tables of code objects that are told of -/
def TabR (G : Gx) (H : Hp) : Prop := ∀ (q : Str) (P : Addr), lamQ q = true → G.cl q = some P → LamX.TabS H P q
theorem TabR.keeps {H H' : Hp} (t : TabR G H) (e : ∀ b o, H b = some o → ¬ isCO o → H' b = some o) : TabR G H' := fun q P hq hc => by
  obtain ⟨ps, h1, h2, h3⟩ := t q P hq hc
  refine ⟨ps, e _ _ h1 (fun z => z.tbl ps rfl), h2, fun pos cv hcv => ?_⟩
  obtain ⟨c, e1, e2⟩ := h3 pos cv hcv
  exact ⟨c, e1, e _ _ e2 (fun z => z.code rfl)⟩
structure RS (G : Gx) (H : Hp) (ρ : Rho) (M : Sto) : Prop where
  len : ρ.c.length = M.length
  nd : ρ.c.Nodup
  dis : ∀ a, a ∈ ρ.c → a ∉ ρ.t
  trt : ∀ a, a ∈ ρ.t → ∃ o, H a = some o ∧ isCO o
  at_ : ∀ (n : Nat) (c : Cell), M[n]? = some c → ∃ a, ρ.c[n]? = some a ∧ COk G H ρ a c
  tb : TabR G H
theorem RS.trk {M : Sto} (S : RS G H ρ M) {a : Addr} (h : a ∈ ρ.c) : ∃ (n : Nat) (c : Cell), ρ.c[n]? = some a ∧ M[n]? = some c ∧ COk G H ρ a c := by
  obtain ⟨n, hn, e⟩ := List.getElem_of_mem h
  have hm : n < M.length := by rw [← S.len]; exact hn
  obtain ⟨b, hb, q⟩ := S.at_ n M[n] (List.getElem?_eq_getElem hm)
  have hb' : ρ.c[n]? = some a := by rw [List.getElem?_eq_getElem hn, e]
  rw [hb'] at hb
  cases hb
  exact ⟨n, M[n], hb', List.getElem?_eq_getElem hm, q⟩
theorem COk.has {a : Addr} {c : Cell} (h : COk G H ρ a c) : ∃ o, H a = some o ∧ isCO o := by
  cases c with
  | lst ds => obtain ⟨vs, e, _⟩ := h; exact ⟨_, e, .inl ⟨_, rfl⟩⟩
  | ins c ks ds => obtain ⟨C, dx, vs, _, e, _⟩ := h; exact ⟨_, e, .i⟩
  | dK ks ds => obtain ⟨vs, e, _⟩ := h; exact ⟨_, e, .inr (.inr (.inl ⟨_, rfl⟩))⟩
  | dT ks ds => obtain ⟨vs, e, _⟩ := h; exact ⟨_, e, .inr (.inr (.inr ⟨_, rfl⟩))⟩
theorem COk.mo {H' : Hp} {ρ' : Rho} {a : Addr} {c : Cell} (e : Mo G H ρ H' ρ') (hk : H' a = H a) (h : COk G H ρ a c) : COk G H' ρ' a c := by
  cases c with
  | lst ds => obtain ⟨vs, q, r⟩ := h; exact ⟨vs, hk.trans q, r.mo e⟩
  | ins c ks ds => obtain ⟨C, dx, vs, hc, q, l, r⟩ := h; exact ⟨C, dx, vs, hc, hk.trans q, l, r.mo e⟩
  | dK ks ds => obtain ⟨vs, q, l, r⟩ := h; exact ⟨vs, hk.trans q, l, r.mo e⟩
  | dT ks ds => obtain ⟨vs, q, l, r⟩ := h; exact ⟨vs, hk.trans q, l, r.mo e⟩
theorem COk.mono {H' : Hp} {ρ' : Rho} {a : Addr} {c : Cell} (e : Ext G H ρ H' ρ') (hk : H' a = H a) (h : COk G H ρ a c) : COk G H' ρ' a c := by
  cases c with
  | lst ds => obtain ⟨vs, q, r⟩ := h; exact ⟨vs, hk.trans q, r.mono e⟩
  | ins c ks ds => obtain ⟨C, dx, vs, hc, q, l, r⟩ := h; exact ⟨C, dx, vs, hc, hk.trans q, l, r.mono e⟩
  | dK ks ds => obtain ⟨vs, q, l, r⟩ := h; exact ⟨vs, hk.trans q, l, r.mono e⟩
  | dT ks ds => obtain ⟨vs, q, l, r⟩ := h; exact ⟨vs, hk.trans q, l, r.mono e⟩
theorem RS.has {M : Sto} (S : RS G H ρ M) {a : Addr} (h : a ∈ ρ) : ∃ o, H a = some o ∧ isCO o := by
  rcases h with h | h
  · obtain ⟨_, _, _, _, q⟩ := S.trk h
    exact q.has
  · exact S.trt a h
theorem RS.fresh {M : Sto} (S : RS G H ρ M) {p : Addr} (hp : H p = none) : p ∉ ρ := fun hm => by
  obtain ⟨o, e, _⟩ := S.has hm
  rw [hp] at e; cases e
theorem sqT_upd {p : Addr} {o : HO} {a : Addr} {xs : List V} (h : SqT G.K H a xs) (hn : ∀ u, H p = some u → (∀ ys, u ≠ .tup ys) ∧ (∀ q w, u ≠ .frz q w)) : SqT G.K (upd H p o) a xs := by
  rcases h with (h | ⟨q, h⟩) | h
  · have : a ≠ p := fun z => by subst z; exact (hn _ h).1 _ rfl
    exact .inl (.inl (by rw [upd_ne this]; exact h))
  · have : a ≠ p := fun z => by subst z; exact (hn _ h).2 _ _ rfl
    exact .inl (.inr ⟨q, by rw [upd_ne this]; exact h⟩)
  · exact .inr h
theorem tpA_upd {p : Addr} {o : HO} {a : Addr} {xs : List V} (h : TpA G H a xs) (hn : ∀ u, H p = some u → (∀ ys, u ≠ .tup ys) ∧ (∀ q w, u ≠ .frz q w)) : TpA G (upd H p o) a xs :=
  ⟨sqT_upd h.1 hn, fun z => by
    have e := h.2 z
    rw [upd_ne (fun q : a = p => (hn _ (by rw [← q]; exact e)).1 _ rfl)]
    exact e⟩
theorem RS.ne_new {M : Sto} (S : RS G H ρ M) {p a : Addr} (hp : H p = none) (h : a ∈ ρ) : a ≠ p := fun z => by subst z; exact S.fresh hp h
/-- a new thing that is no cell -/
theorem Ext.new {M : Sto} (S : RS G H ρ M) {p : Addr} {o : HO} (hp : H p = none) : Ext G H ρ (upd H p o) ρ :=
  ⟨fun _ _ h => h, rfl, fun a h => upd_ne (S.ne_new hp (.inr h)), fun a xs h => tpA_upd h (fun u z => by rw [hp] at z; cases z), fun a u h1 _ h2 => ⟨by rw [upd_ne (ne_of_none h2 hp)]; exact h2, h1⟩⟩
theorem RS.ext {M : Sto} (S : RS G H ρ M) {H' : Hp} (e : Ext G H ρ H' ρ) (hk : ∀ a, a ∈ ρ.c → H' a = H a) (ht : TabR G H') : RS G H' ρ M :=
  ⟨S.len, S.nd, S.dis, fun a h => by rw [e.same a h]; exact S.trt a h, fun n c h => by
    obtain ⟨a, ha, q⟩ := S.at_ n c h
    exact ⟨a, ha, q.mono e (hk a (List.mem_of_getElem? ha))⟩, ht⟩
theorem RS.new {M : Sto} (S : RS G H ρ M) {p : Addr} {o : HO} (hp : H p = none) : RS G (upd H p o) ρ M :=
  S.ext (Ext.new S hp) (fun a ha => upd_ne (S.ne_new hp (.inl ha))) (S.tb.keeps fun b u z _ => by rw [upd_ne (ne_of_none z hp)]; exact z)
def Rho.add (ρ : Rho) (p : Addr) : Rho := ⟨ρ.c ++ [p], ρ.t⟩
/-- a new cell -/
theorem Ext.cell {M : Sto} (S : RS G H ρ M) {p : Addr} {o : HO} (hp : H p = none) : Ext G H ρ (upd H p o) (ρ.add p) :=
  ⟨fun n a h => by show (ρ.c ++ [p])[n]? = some a; rw [List.getElem?_append_left (List.getElem?_eq_some_iff.mp h).1]; exact h, rfl, fun a h => upd_ne (S.ne_new hp (.inr h)), fun a xs h => tpA_upd h (fun u z => by rw [hp] at z; cases z),
   fun a u h1 _ h2 => ⟨by rw [upd_ne (ne_of_none h2 hp)]; exact h2, fun z => by
     rcases z with z | z
     · rcases List.mem_append.mp z with z | z
       · exact h1 (.inl z)
       · exact ne_of_none h2 hp (by simpa using z)
     · exact h1 (.inr z)⟩⟩
theorem RS.cell {M : Sto} (S : RS G H ρ M) {p : Addr} {o : HO} {c : Cell} (hp : H p = none) (hc : COk G (upd H p o) (ρ.add p) p c) : RS G (upd H p o) (ρ.add p) (M ++ [c]) :=
  ⟨by show (ρ.c ++ [p]).length = _; simp [S.len], List.nodup_append.mpr ⟨S.nd, by simp, fun a ha b hb => by
      have : b = p := by simpa using hb
      subst this
      exact S.ne_new hp (.inl ha)⟩,
   fun a ha hb => by
      rcases List.mem_append.mp ha with z | z
      · exact S.dis a z hb
      · exact S.ne_new hp (.inr hb) (by simpa using z),
   fun a h => by rw [upd_ne (S.ne_new hp (.inr h))]; exact S.trt a h,
   fun n c' h => by
    by_cases hn : n < M.length
    · rw [List.getElem?_append_left hn] at h
      obtain ⟨a, ha, q⟩ := S.at_ n c' h
      refine ⟨a, ?_, q.mono (Ext.cell S hp) (upd_ne (S.ne_new hp (.inl (List.mem_of_getElem? ha))))⟩
      show (ρ.c ++ [p])[n]? = some a
      rw [List.getElem?_append_left (by rw [S.len]; exact hn)]; exact ha
    · have e : n = M.length := by
        have := (List.getElem?_eq_some_iff.mp h).1
        simp at this; omega
      subst e
      simp at h
      subst h
      exact ⟨p, by show (ρ.c ++ [p])[M.length]? = some p; rw [← S.len]; simp, hc⟩, S.tb.keeps fun b u z _ => by rw [upd_ne (ne_of_none z hp)]; exact z⟩
/-- a cell is written -/
theorem Ext.write {M : Sto} (S : RS G H ρ M) {n : Nat} {a : Addr} {o : HO} (ha : ρ.c[n]? = some a) : Ext G H ρ (upd H a o) ρ :=
  ⟨fun _ _ h => h, rfl, fun b h => upd_ne (fun z => by subst z; exact S.dis b (List.mem_of_getElem? ha) h), fun b xs h => tpA_upd h (fun u z => by
      obtain ⟨w, e, q⟩ := S.has (.inl (List.mem_of_getElem? ha))
      rw [e] at z; cases z; exact ⟨q.tup, q.frz⟩),
    fun b u h1 _ h2 => ⟨by rw [upd_ne (fun z => h1 (by rw [z]; exact .inl (List.mem_of_getElem? ha)))]; exact h2, h1⟩⟩
theorem nodup_at : ∀ {l : List Addr}, l.Nodup → ∀ {n m : Nat} {a : Addr}, l[n]? = some a → l[m]? = some a → n = m
  | [], _, _, _, _, h, _ => by simp at h
  | x :: l, nd, 0, 0, _, _, _ => rfl
  | x :: l, nd, 0, m + 1, a, h1, h2 => by
    have e : x = a := by simpa using h1
    subst e
    exact absurd (List.mem_of_getElem? (by simpa using h2)) (List.nodup_cons.mp nd).1
  | x :: l, nd, n + 1, 0, a, h1, h2 => by
    have e : x = a := by simpa using h2
    subst e
    exact absurd (List.mem_of_getElem? (by simpa using h1)) (List.nodup_cons.mp nd).1
  | x :: l, nd, n + 1, m + 1, a, h1, h2 => by
    rw [nodup_at (List.nodup_cons.mp nd).2 (n := n) (m := m) (a := a) (by simpa using h1) (by simpa using h2)]
theorem RS.write {M : Sto} (S : RS G H ρ M) {n : Nat} {a : Addr} {o : HO} {c : Cell} (ha : ρ.c[n]? = some a) (hc : COk G (upd H a o) ρ a c) : RS G (upd H a o) ρ (M.set n c) :=
  ⟨by simp [S.len], S.nd, S.dis, fun b h => by rw [(Ext.write S ha).same b h]; exact S.trt b h, fun m c' h => by
    by_cases hm : m = n
    · subst hm
      have hl : m < M.length := by rw [← S.len]; exact (List.getElem?_eq_some_iff.mp ha).1
      rw [List.getElem?_set_self hl] at h
      cases h
      exact ⟨a, ha, hc⟩
    · rw [List.getElem?_set_ne (Ne.symm hm)] at h
      obtain ⟨b, hb, q⟩ := S.at_ m c' h
      exact ⟨b, hb, q.mono (Ext.write S ha) (upd_ne fun z => by subst z; exact hm (nodup_at S.nd hb ha))⟩, S.tb.keeps fun b u z nz => by
    rw [upd_ne fun e => ?_]
    · exact z
    · obtain ⟨w, e1, q⟩ := S.has (.inl (List.mem_of_getElem? ha))
      rw [e, e1] at z
      cases z
      exact nz q⟩
end
def RE (G : Gx) (H : Hp) (ρ : Rho) (env : En) (σ : L2.St) : Prop := env.length = σ.length ∧ ∀ (i : Nat) (d : D), env[i]? = some (some d) → ∃ v, σ[i]? = some (some v) ∧ RV G H ρ d v
theorem RE.mo {G : Gx} {H H' : Hp} {ρ ρ' : Rho} {env : En} {σ : L2.St} (e : Mo G H ρ H' ρ') (h : RE G H ρ env σ) : RE G H' ρ' env σ :=
  ⟨h.1, fun i d q => let ⟨v, a, b⟩ := h.2 i d q; ⟨v, a, b.mo e⟩⟩
theorem RE.mono {G : Gx} {H H' : Hp} {ρ ρ' : Rho} {env : En} {σ : L2.St} (e : Ext G H ρ H' ρ') (h : RE G H ρ env σ) : RE G H' ρ' env σ :=
  ⟨h.1, fun i d q => let ⟨v, a, b⟩ := h.2 i d q; ⟨v, a, b.mono e⟩⟩
theorem RE.set {G : Gx} {H : Hp} {ρ : Rho} {env : En} {σ : L2.St} {d : D} {v : V} (i : Nat) (h : RE G H ρ env σ) (r : RV G H ρ d v) : RE G H ρ (env.set i (some d)) (σ.set i (some v)) :=
  ⟨by simp [h.1], fun j d' q => by
    by_cases hj : j = i
    · subst hj
      have hl : j < env.length := by
        have := (List.getElem?_eq_some_iff.mp q).1
        simpa using this
      rw [List.getElem?_set_self hl] at q
      cases q
      exact ⟨v, List.getElem?_set_self (by rw [← h.1]; exact hl), r⟩
    · rw [List.getElem?_set_ne (Ne.symm hj)] at q
      obtain ⟨w, a, b⟩ := h.2 j d' q
      exact ⟨w, by rw [List.getElem?_set_ne (Ne.symm hj)]; exact a, b⟩⟩
structure Exn where
  c : Str
  ks : List Str
  vs : List D
inductive Out (α : Type) where
  | ok (a : α) (M : Sto)
  | exc (e : Exn) (env : En) (M : Sto)
  | bad
def Out.post {α : Type} (o : Out α) (Q : α → Sto → Prop) (E : Exn → En → Sto → Prop) : Prop :=
  match o with
  | .ok a M => Q a M
  | .exc e env M => E e env M
  | .bad => False
def Out.bind {α β : Type} (o : Out α) (k : α → Sto → Out β) : Out β :=
  match o with
  | .ok a M => k a M
  | .exc e env M => .exc e env M
  | .bad => .bad
theorem post_bind {α β : Type} {o : Out α} {k : α → Sto → Out β} {Q : β → Sto → Prop} {E : Exn → En → Sto → Prop} (h : (o.bind k).post Q E) : o.post (fun a M => (k a M).post Q E) E := by
  cases o <;> exact h
theorem Out.post.imp {α : Type} {o : Out α} {Q Q' : α → Sto → Prop} {E E' : Exn → En → Sto → Prop} (h : o.post Q E) (hq : ∀ a M, Q a M → Q' a M) (he : ∀ e env M, E e env M → E' e env M) : o.post Q' E' := by
  cases o with
  | ok a M => exact hq _ _ h
  | exc e env M => exact he _ _ _ h
  | bad => exact h
def eP (G : Gx) (W : WX) (H : Hp) (ρ : Rho) : Exn → En → Sto → Prop := fun e env M' =>
  ∀ ρ' H' σ' C d vs, Ext G H ρ H' ρ' → RS G H' ρ' M' → RE G H' ρ' env σ' → G.cl e.c = some C → H' d = some (.xd (e.ks.zip vs)) → d ∉ ρ' → e.ks.length = vs.length → RVs G H' ρ' e.vs vs → W (.ref C) (some d) σ' H'
def oP (G : Gx) (H : Hp) (ρ : Rho) (Q : VK) : D → Sto → Prop := fun d M' => ∀ ρ' v H', Ext G H ρ H' ρ' → RS G H' ρ' M' → RV G H' ρ' d v → Q v H'
def bP (G : Gx) (H : Hp) (ρ : Rho) (Q : Bool → Hp → Prop) : Bool → Sto → Prop := fun b M' => ∀ ρ' H', Ext G H ρ H' ρ' → RS G H' ρ' M' → Q b H'
def aP (G : Gx) (H : Hp) (ρ : Rho) (Q : List V → Hp → Prop) : List D → Sto → Prop := fun ds M' => ∀ ρ' vs H', Ext G H ρ H' ρ' → RS G H' ρ' M' → RVs G H' ρ' ds vs → Q vs H'
section
variable {G : Gx} {W : WX} {H H1 : Hp} {ρ ρ1 : Rho}
theorem eP.sh (x : Ext G H ρ H1 ρ1) {e : Exn} {env : En} {M : Sto} (h : eP G W H ρ e env M) : eP G W H1 ρ1 e env M :=
  fun ρ' H' σ' C d vs a b c e1 e2 e3 e4 e5 => h ρ' H' σ' C d vs (x.trans a) b c e1 e2 e3 e4 e5
theorem oP.sh (x : Ext G H ρ H1 ρ1) {Q : VK} {d : D} {M : Sto} (h : oP G H ρ Q d M) : oP G H1 ρ1 Q d M := fun ρ' v H' a b c => h ρ' v H' (x.trans a) b c
theorem bP.sh (x : Ext G H ρ H1 ρ1) {Q : Bool → Hp → Prop} {d : Bool} {M : Sto} (h : bP G H ρ Q d M) : bP G H1 ρ1 Q d M := fun ρ' H' a b => h ρ' H' (x.trans a) b
end
abbrev DE := En → Sto → Out D
abbrev DA := En → Sto → Out (List D)
abbrev DT := En → Sto → Out Bool
def dE (G : Gx) (W : WX) (f : DE) : TE := fun σ H Q => ∃ ρ env M, RE G H ρ env σ ∧ RS G H ρ M ∧ (f env M).post (oP G H ρ Q) (eP G W H ρ)
def dA (G : Gx) (W : WX) (f : DA) : TA := fun σ H Q => ∃ ρ env M, RE G H ρ env σ ∧ RS G H ρ M ∧ (f env M).post (aP G H ρ Q) (eP G W H ρ)
def dT (G : Gx) (W : WX) (f : DT) : TT := fun σ H Q => ∃ ρ env M, RE G H ρ env σ ∧ RS G H ρ M ∧ (f env M).post (bP G H ρ Q) (eP G W H ρ)
end Ip
end
section
set_option Elab.async false
set_option linter.all false
set_option maxRecDepth 100000
set_option maxHeartbeats 4000000
set_option autoImplicit false
namespace Ip
open PySem L2
theorem PEweak {X : Cx} {e : Expr} {t t' : TE} (h : PE X e t) (w : ∀ σ H Q, t' σ H Q → t σ H Q) : PE X e t' := ⟨fun pins s σ H Q I z => h.run pins s σ H Q I (w σ H Q z)⟩
theorem PTweak {X : Cx} {e : Expr} {t t' : TT} (h : PT X e t) (w : ∀ σ H Q, t' σ H Q → t σ H Q) : PT X e t' := ⟨fun pins s σ H Q I z => h.run pins s σ H Q I (w σ H Q z)⟩
theorem PWweak {X : Cx} {e : Expr} {t t' : TT} (h : PW X e t) (w : ∀ σ H Q, t' σ H Q → t σ H Q) : PW X e t' := ⟨fun wh pins s σ H Q I z => h.run wh pins s σ H Q I (w σ H Q z)⟩
theorem PAweak {X : Cx} {e : List Expr} {t t' : TA} (h : PA X e t) (w : ∀ σ H Q, t' σ H Q → t σ H Q) : PA X e t' := ⟨fun pos pins s σ H Q I z => h.run pos pins s σ H Q I (w σ H Q z)⟩
theorem PSweak {X : Cx} {e : Stmt} {t t' : TS} (h : PS X e t) (w : ∀ D σ H, t' D σ H → t D σ H) : PS X e t' := ⟨fun pins s σ H D I z => h.run pins s σ H D I (w D σ H z)⟩
theorem PSsweak {X : Cx} {e : List Stmt} {t t' : TS} (h : PSs X e t) (w : ∀ D σ H, t' D σ H → t D σ H) : PSs X e t' := ⟨fun pins s σ H D I z => h.run pins s σ H D I (w D σ H z)⟩
theorem PIweak {X : Cx} {tg e : Expr} {t t' : TI} (h : PI X tg e t) (w : ∀ σ H Q, t' σ H Q → t σ H Q) : PI X tg e t' := ⟨fun pins s σ H Q I z => h.run pins s σ H Q I (w σ H Q z)⟩
theorem PTsweak {X : Cx} {e : List Expr} {t t' : TT} (h : PTs X e t) (w : ∀ σ H Q, t' σ H Q → t σ H Q) : PTs X e t' := ⟨fun pins s σ H Q I z => h.run pins s σ H Q I (w σ H Q z)⟩
theorem POweak {X : Cx} {e : Option Expr} {t t' : TO} (h : PO X e t) (w : ∀ σ H Q, t' σ H Q → t σ H Q) : PO X e t' := ⟨fun pins s σ H Q I z => h.run pins s σ H Q I (w σ H Q z)⟩
abbrev gx (X : Cx) (cl : Str → Option Addr) : Gx := ⟨X.K, cl⟩
def SE (X : Cx) (cl : Str → Option Addr) (W : WX) (e : Expr) (f : DE) : Prop := PE X e (dE (gx X cl) W f)
def SA (X : Cx) (cl : Str → Option Addr) (W : WX) (es : List Expr) (f : DA) : Prop := PA X es (dA (gx X cl) W f)
def ST (X : Cx) (cl : Str → Option Addr) (W : WX) (e : Expr) (f : DT) : Prop := PT X e (dT (gx X cl) W f)
def SW (X : Cx) (cl : Str → Option Addr) (W : WX) (e : Expr) (f : DT) : Prop := PW X e (dT (gx X cl) W f)
def dVar (i : Nat) : DE := fun env M => match env[i]? with
  | some (some d) => .ok d M
  | _ => .bad
def dC (d : D) : DE := fun _ M => .ok d M
def liftM (o : Option (D × Sto)) : Out D := match o with
  | some p => .ok p.1 p.2
  | none => .bad
abbrev G2 := D → D → Sto → Option (D × Sto)
def dBin (g : G2) (fa fb : DE) : DE := fun env M => (fa env M).bind fun x M1 => (fb env M1).bind fun y M2 => liftM (g x y M2)
def dUn (g : D → Sto → Option (D × Sto)) (fa : DE) : DE := fun env M => (fa env M).bind fun x M1 => liftM (g x M1)
def dNilA : DA := fun _ M => .ok [] M
def dConsA (fa : DE) (fr : DA) : DA := fun env M => (fa env M).bind fun x M1 => (fr env M1).bind fun xs M2 => .ok (x :: xs) M2
def dTup (fa : DA) : DE := fun env M => (fa env M).bind fun xs M1 => if xs.length ≤ 16777216 then .ok (.tup xs) M1 else .bad
def dLst (fa : DA) : DE := fun env M => (fa env M).bind fun xs M1 => if xs.length ≤ 16777216 then .ok (.lst xs) M1 else .bad
def dLstC (fa : DA) : DE := fun env M => (fa env M).bind fun xs M1 => if xs.length ≤ 16777216 then .ok (.ref M1.length) (M1 ++ [.lst xs]) else .bad
def dCallB (g : List D → Sto → Option (D × Sto)) (fa : DA) : DE := fun env M => (fa env M).bind fun xs M1 => liftM (g xs M1)
def dIfE (ft : DT) (fa fb : DE) : DE := fun env M => (ft env M).bind fun c M1 => if c then fa env M1 else fb env M1
def dAndV (fa fb : DE) : DE := fun env M => (fa env M).bind fun x M1 => match x with
  | .bl true => fb env M1
  | .bl false => .ok (.bl false) M1
  | _ => .bad
def dOrV (fa fb : DE) : DE := fun env M => (fa env M).bind fun x M1 => match x with
  | .bl true => .ok (.bl true) M1
  | .bl false => fb env M1
  | _ => .bad
def dNotV (fa : DE) : DE := fun env M => (fa env M).bind fun x M1 => match x with
  | .bl b => .ok (.bl (!b)) M1
  | _ => .bad
def dAnd (fa fb : DT) : DT := fun env M => (fa env M).bind fun c M1 => if c then fb env M1 else .ok false M1
def dOr (fa fb : DT) : DT := fun env M => (fa env M).bind fun c M1 => if c then .ok true M1 else fb env M1
def dNot (fa : DT) : DT := fun env M => (fa env M).bind fun c M1 => .ok (!c) M1
/-- the truth of a value that is no object -/
def truD (x : D) (M : Sto) : Option Bool := match x with
  | .non => some false
  | .bl b => some b
  | .int i => some (i != 0)
  | .lst l => some (!l.isEmpty)
  | .tup l => some (!l.isEmpty)
  | .ref n => match M[n]? with
    | some (.lst l) => some (!l.isEmpty)
    | _ => none
  | _ => none
def dTru (fa : DE) : DT := fun env M => (fa env M).bind fun x M1 => match truD x M1 with
  | some b => .ok b M1
  | none => .bad
def dChain (g g' : G2) (fa fb fc : DE) : DE := fun env M => (fa env M).bind fun x M1 => (fb env M1).bind fun y M2 => (liftM (g x y M2)).bind fun z M3 => match z with
  | .bl true => (fc env M3).bind fun w M4 => liftM (g' y w M4)
  | .bl false => .ok (.bl false) M3
  | _ => .bad
def OpS (G : Gx) (r : R2) (g : G2) : Prop := ∀ (H : Hp) (ρ : Rho) (M : Sto) (x y : V) (dx dy d : D) (M' : Sto) (Q : VK), RS G H ρ M → RV G H ρ dx x → RV G H ρ dy y → g dx dy M = some (d, M') → oP G H ρ Q d M' → r x y H Q
def UnS (G : Gx) (r : V → Hp → VK → Prop) (g : D → Sto → Option (D × Sto)) : Prop := ∀ (H : Hp) (ρ : Rho) (M : Sto) (x : V) (dx d : D) (M' : Sto) (Q : VK), RS G H ρ M → RV G H ρ dx x → g dx M = some (d, M') → oP G H ρ Q d M' → r x H Q
def CallS (G : Gx) (r : List V → Hp → VK → Prop) (g : List D → Sto → Option (D × Sto)) : Prop := ∀ (H : Hp) (ρ : Rho) (M : Sto) (xs : List V) (ds : List D) (d : D) (M' : Sto) (Q : VK), RS G H ρ M → RVs G H ρ ds xs → g ds M = some (d, M') → oP G H ρ Q d M' → r xs H Q
section
variable {X : Cx} {cl : Str → Option Addr} {W : WX} {G : Gx}
theorem lift_some {o : Option (D × Sto)} {Q : D → Sto → Prop} {E : Exn → En → Sto → Prop} (h : (liftM o).post Q E) : ∃ d M, o = some (d, M) ∧ Q d M := by
  cases o with
  | none => exact h.elim
  | some p => exact ⟨p.1, p.2, rfl, h⟩
theorem two {r : R2} {g : G2} {fa fb : DE} {σ : L2.St} {H : Hp} {Q : VK} {ρ : Rho} {env : En} {M : Sto} (hg : OpS G r g) (hE : RE G H ρ env σ) (hS : RS G H ρ M) (h : (dBin g fa fb env M).post (oP G H ρ Q) (eP G W H ρ)) : tOp r (dE G W fa) (dE G W fb) σ H Q := by
  refine ⟨ρ, env, M, hE, hS, (post_bind h).imp (fun x M1 hx ρ1 v H1 e1 S1 r1 => ?_) (fun _ _ _ z => z)⟩
  refine ⟨ρ1, env, M1, hE.mono e1, S1, (post_bind hx).imp (fun y M2 hy ρ2 w H2 e2 S2 r2 => ?_) (fun _ _ _ z => eP.sh e1 z)⟩
  obtain ⟨d, M', e, q⟩ := lift_some hy
  exact hg H2 ρ2 M2 v w x y d M' Q S2 (r1.mono e2) r2 e (oP.sh (e1.trans e2) q)
theorem se_var {i : Nat} {x : Str} {pos : Pos} (hN : X.N[i]? = some x) (hv : Vis X.env.scope x) (hd : (x == ("__debug__" : Str)) = false := by decide) (hcd : (x == ("__classdict__" : Str)) = false := by decide) : SE X cl W (.Name x pos) (dVar i) := by
  refine PEweak (pe_var hN hv hd hcd) fun σ H Q ⟨ρ, env, M, hE, hS, h⟩ => ?_
  unfold dVar at h
  split at h
  · rename_i d hd'
    obtain ⟨v, e, r⟩ := hE.2 i d hd'
    exact ⟨v, e, h ρ v H .refl hS r⟩
  · exact h.elim
theorem se_const {e : Expr} {d : D} {v : V} (h : PE X e (tC v)) (hr : ∀ H ρ, RV (gx X cl) H ρ d v) : SE X cl W e (dC d) :=
  PEweak h fun σ H Q ⟨ρ, env, M, hE, hS, q⟩ => q ρ v H .refl hS (hr H ρ)
theorem se_int {i j pos} : SE X cl W (.Constant (.int i) j pos) (dC (.int i)) := se_const pe_int fun _ _ => .int i
theorem se_bl {b j pos} : SE X cl W (.Constant (.bool b) j pos) (dC (.bl b)) := se_const pe_bl fun _ _ => .bl b
theorem se_non {j pos} : SE X cl W (.Constant .none j pos) (dC .non) := se_const pe_non fun _ _ => .non
theorem se_str {x j pos} : SE X cl W (.Constant (.str x) j pos) (dC (.str x)) := se_const pe_str fun _ _ => .str x
theorem se_bin {op : Operator} {r : R2} {g : G2} {a b : Expr} {fa fb : DE} {pos : Pos} (ho : OpR X (binaryOp op) r) (hg : OpS (gx X cl) r g) (ha : SE X cl W a fa) (hb : SE X cl W b fb) : SE X cl W (.BinOp a op b pos) (dBin g fa fb) :=
  PEweak (pe_op ho ha hb) fun _ _ _ ⟨_, _, _, hE, hS, h⟩ => two hg hE hS h
theorem se_cmp {op : CmpOp} {r : R2} {g : G2} {a b : Expr} {fa fb : DE} {pos : Pos} (ho : OpR X (compareOp op) r) (hg : OpS (gx X cl) r g) (ha : SE X cl W a fa) (hb : SE X cl W b fb) (hm : behindInMarks op b = false) : SE X cl W (.Compare a [op] [b] pos) (dBin g fa fb) :=
  PEweak (pe_cmpR ho ha hb hm) fun _ _ _ ⟨_, _, _, hE, hS, h⟩ => two hg hE hS h
theorem se_ix {r : R2} {g : G2} {a b : Expr} {fa fb : DE} {pos : Pos} (ho : IxR X r) (hg : OpS (gx X cl) r g) (ha : SE X cl W a fa) (hb : SE X cl W b fb) (hs : PlainIx b) : SE X cl W (.Subscript a b pos) (dBin g fa fb) :=
  PEweak (pe_ix ho ha hb hs) fun _ _ _ ⟨_, _, _, hE, hS, h⟩ => two hg hE hS h
theorem se_un {op : UnaryOp} {r : V → Hp → VK → Prop} {g : D → Sto → Option (D × Sto)} {a : Expr} {fa : DE} {pos : Pos} (ho : UnR X (unaryOp op) r) (hg : UnS (gx X cl) r g) (ha : SE X cl W a fa) : SE X cl W (.UnaryOp op a pos) (dUn g fa) :=
  PEweak (pe_un ho ha) fun σ H Q ⟨ρ, env, M, hE, hS, h⟩ => by
    refine ⟨ρ, env, M, hE, hS, (post_bind h).imp (fun x M1 hx ρ1 v H1 e1 S1 r1 => ?_) (fun _ _ _ z => z)⟩
    obtain ⟨d, M', e, q⟩ := lift_some hx
    exact hg H1 ρ1 M1 v x d M' Q S1 r1 e (oP.sh e1 q)
theorem sa_nil : SA X cl W [] dNilA := PAweak pa_nil fun σ H Q ⟨ρ, env, M, hE, hS, h⟩ => h ρ [] H .refl hS .nil
theorem sa_cons {e : Expr} {es : List Expr} {fe : DE} {fr : DA} (he : SE X cl W e fe) (hr : SA X cl W es fr) (hs : starEach (e :: es) X.env = (false, eval e X.env) :: starEach es X.env := by rfl) : SA X cl W (e :: es) (dConsA fe fr) :=
  PAweak (pa_cons he hr hs) fun σ H Q ⟨ρ, env, M, hE, hS, h⟩ => by
    refine ⟨ρ, env, M, hE, hS, (post_bind h).imp (fun x M1 hx ρ1 v H1 e1 S1 r1 => ?_) (fun _ _ _ z => z)⟩
    refine ⟨ρ1, env, M1, hE.mono e1, S1, (post_bind hx).imp (fun y M2 hy ρ2 w H2 e2 S2 r2 => ?_) (fun _ _ _ z => eP.sh e1 z)⟩
    exact hy ρ2 (v :: w) H2 (e1.trans e2) S2 (.cons (r1.mono e2) r2)
theorem line_of {n : Nat} (h : n ≤ 16777216) : n ≤ sizeLine := by rw [sizeLine_eq]; exact h
theorem se_tup {es : List Expr} {fa : DA} {k : Nat} {pos : Pos} (ha : SA X cl W es fa) : SE X cl W (.Tuple es k pos) (dTup fa) :=
  PEweak (pe_tup ha) fun σ H Q ⟨ρ, env, M, hE, hS, h⟩ => by
    refine ⟨ρ, env, M, hE, hS, (post_bind h).imp (fun x M1 hx ρ1 v H1 e1 S1 r1 => ?_) (fun _ _ _ z => z)⟩
    split at hx
    · rename_i hl
      exact ⟨by rw [r1.length]; exact line_of hl, fun p hp => hx ρ1 _ _ (e1.trans (Ext.new S1 hp)) (S1.new hp) (.tup (TpA.of upd_same) (r1.mono (Ext.new S1 hp)))⟩
    · exact hx.elim
theorem se_lst {es : List Expr} {fa : DA} {pos : Pos} (ha : SA X cl W es fa) : SE X cl W (.List es pos) (dLst fa) :=
  PEweak (pe_lst ha) fun σ H Q ⟨ρ, env, M, hE, hS, h⟩ => by
    refine ⟨ρ, env, M, hE, hS, (post_bind h).imp (fun x M1 hx ρ1 v H1 e1 S1 r1 => ?_) (fun _ _ _ z => z)⟩
    split at hx
    · rename_i hl
      exact ⟨by rw [r1.length]; exact line_of hl, fun p hp => hx ρ1 _ _ (e1.trans (Ext.new S1 hp)) (S1.new hp) (.lst upd_same (S1.fresh hp) (r1.mono (Ext.new S1 hp)))⟩
    · exact hx.elim
theorem RS.newLst {H : Hp} {ρ : Rho} {M : Sto} {ds : List D} {vs : List V} {p : Addr} (S : RS G H ρ M) (hp : H p = none) (r : RVs G H ρ ds vs) : RS G (upd H p (.lst vs)) (ρ.add p) (M ++ [.lst ds]) :=
  S.cell hp ⟨vs, upd_same, r.mono (Ext.cell S hp)⟩
theorem RS.at_new {H : Hp} {ρ : Rho} {M : Sto} {p : Addr} (S : RS G H ρ M) : (ρ.add p).c[M.length]? = some p := by show (ρ.c ++ [p])[M.length]? = some p; rw [← S.len]; simp
theorem se_lstC {es : List Expr} {fa : DA} {pos : Pos} (ha : SA X cl W es fa) : SE X cl W (.List es pos) (dLstC fa) :=
  PEweak (pe_lst ha) fun σ H Q ⟨ρ, env, M, hE, hS, h⟩ => by
    refine ⟨ρ, env, M, hE, hS, (post_bind h).imp (fun x M1 hx ρ1 v H1 e1 S1 r1 => ?_) (fun _ _ _ z => z)⟩
    split at hx
    · rename_i hl
      exact ⟨by rw [r1.length]; exact line_of hl, fun p hp => hx _ _ _ (e1.trans (Ext.cell S1 hp)) (S1.newLst hp r1) (.ref S1.at_new)⟩
    · exact hx.elim
theorem se_callB {id : String} {r : List V → Hp → VK → Prop} {g : List D → Sto → Option (D × Sto)} {x : Str} {e : Expr} {es : List Expr} {fa : DA} {p pos : Pos} (hc : CallR X (.builtin id) r) (hg' : CallS (gx X cl) r g) (hg : Gl X x) (hm : X.mg x = none) (hv : bootBuiltins x = some (.builtin id)) (ha : SA X cl W (e :: es) fa)
    (hn : x ≠ "__name__" := by decide) (hdb : (x == ("__debug__" : Str)) = false := by decide)
    (he : starEach (e :: es) X.env = (false, eval e X.env) :: starEach es X.env := by rfl) (hpl : (backTo pos (starEach es X.env)).any (·.1) = false := by rfl) : SE X cl W (.Call (.Name x p) (e :: es) [] pos) (dCallB g fa) :=
  PEweak (pe_callB hc hg hm hv ha hn hdb he hpl) fun σ H Q ⟨ρ, env, M, hE, hS, h⟩ => by
    refine ⟨ρ, env, M, hE, hS, (post_bind h).imp (fun x M1 hx ρ1 v H1 e1 S1 r1 => ?_) (fun _ _ _ z => z)⟩
    obtain ⟨d, M', e, q⟩ := lift_some hx
    exact hg' H1 ρ1 M1 v x d M' Q S1 r1 e (oP.sh e1 q)
theorem se_callTy {T : String} {r : List V → Hp → VK → Prop} {g : List D → Sto → Option (D × Sto)} {x : Str} {e : Expr} {es : List Expr} {fa : DA} {p pos : Pos} (hc : CallR X (.type T) r) (hg' : CallS (gx X cl) r g) (hg : Gl X x) (hm : X.mg x = none) (hv : bootBuiltins x = some (.type T)) (ha : SA X cl W (e :: es) fa)
    (hn : x ≠ "__name__" := by decide) (hdb : (x == ("__debug__" : Str)) = false := by decide)
    (he : starEach (e :: es) X.env = (false, eval e X.env) :: starEach es X.env := by rfl) (hpl : (backTo pos (starEach es X.env)).any (·.1) = false := by rfl) : SE X cl W (.Call (.Name x p) (e :: es) [] pos) (dCallB g fa) :=
  PEweak (pe_callTy hc hg hm hv ha hn hdb he hpl) fun σ H Q ⟨ρ, env, M, hE, hS, h⟩ => by
    refine ⟨ρ, env, M, hE, hS, (post_bind h).imp (fun x M1 hx ρ1 v H1 e1 S1 r1 => ?_) (fun _ _ _ z => z)⟩
    obtain ⟨d, M', e, q⟩ := lift_some hx
    exact hg' H1 ρ1 M1 v x d M' Q S1 r1 e (oP.sh e1 q)
theorem tru_ok' {H : Hp} {ρ : Rho} {M : Sto} {d : D} {v : V} {b : Bool} (S : RS G H ρ M) (r : RV G H ρ d v) (h : truD d M = some b) : TruV G.K v H b := by
  cases r with
  | non => cases h; rfl
  | bl c => cases h; rfl
  | int i => cases h; rfl
  | str s => cases h
  | ty s => cases h
  | tup hs rs => cases h; exact .inr (.inl ⟨_, hs.1, by cases rs <;> rfl⟩)
  | lst hs hn rs => cases h; exact .inl ⟨_, SqL.of hs, by cases rs <;> rfl⟩
  | scr hs => cases h
  | obj => cases h
  | cls => cases h
  | dK => cases h
  | dT => cases h
  | ref hn =>
    rename_i n a
    have h' : (match M[n]? with
      | some (.lst l) => some (!l.isEmpty)
      | _ => none) = some b := h
    split at h'
    · rename_i l hl
      cases h'
      obtain ⟨b, hb, vs, hv, rs⟩ := S.at_ _ _ hl
      rw [hn] at hb; cases hb
      exact .inl ⟨_, SqL.of hv, by cases rs <;> rfl⟩
    · cases h'
theorem st_val {e : Expr} {fe : DE} (he : SE X cl W e fe) (ht : ∀ whole, isTrue e X.env whole = (do let v ← whole; standAt e.pos; holding [v] (truthy v)) := by intro _; rfl) : ST X cl W e (dTru fe) :=
  PTweak (pt_truth he ht) fun σ H Q ⟨ρ, env, M, hE, hS, h⟩ => by
    refine ⟨ρ, env, M, hE, hS, (post_bind h).imp (fun x M1 hx ρ1 v H1 e1 S1 r1 => ?_) (fun _ _ _ z => z)⟩
    split at hx
    · rename_i b hb
      exact ⟨b, tru_ok' S1 r1 hb, hx ρ1 H1 e1 S1⟩
    · exact hx.elim
def dB (fe : DE) : DT := fun env M => (fe env M).bind fun x M1 => match x with
  | .bl b => .ok b M1
  | _ => .bad
theorem dB_ok {fe : DE} {σ : L2.St} {H : Hp} {Q : Bool → Hp → Prop} (h : dT G W (dB fe) σ H Q) : dE G W fe σ H fun x H' => ∃ k, x = .bl k ∧ Q k H' := by
  obtain ⟨ρ, env, M, hE, hS, h⟩ := h
  refine ⟨ρ, env, M, hE, hS, (post_bind h).imp (fun x M1 hx ρ1 v H1 e1 S1 r1 => ?_) (fun _ _ _ z => z)⟩
  cases r1 with
  | bl b => exact ⟨b, rfl, hx ρ1 H1 e1 S1⟩
  | _ => exact hx.elim
theorem st_cmp {op : CmpOp} {r : R2} {g : G2} {a b : Expr} {fa fb : DE} {pos : Pos} (ho : OpR X (compareOp op) r) (hg : OpS (gx X cl) r g) (ha : SE X cl W a fa) (hb : SE X cl W b fb) (hm : behindInMarks op b = false) : ST X cl W (.Compare a [op] [b] pos) (dB (dBin g fa fb)) :=
  PTweak (pt_cmpR ho ha hb hm) fun σ H Q h => by
    obtain ⟨ρ, env, M, hE, hS, h⟩ := dB_ok h
    exact two hg hE hS h
theorem sw_and1 {a : Expr} {fa : DT} {pos : Pos} (ha : ST X cl W a fa) : SW X cl W (.BoolOp .And [a] pos) fa := pw_and1 ha
theorem sw_or1 {a : Expr} {fa : DT} {pos : Pos} (ha : ST X cl W a fa) : SW X cl W (.BoolOp .Or [a] pos) fa := pw_or1 ha
theorem sw_and {a b : Expr} {rest : List Expr} {fa fb : DT} {pos : Pos} (ha : ST X cl W a fa) (hb : SW X cl W (.BoolOp .And (b :: rest) pos) fb) : SW X cl W (.BoolOp .And (a :: b :: rest) pos) (dAnd fa fb) :=
  PWweak (pw_and ha hb) fun σ H Q ⟨ρ, env, M, hE, hS, h⟩ => by
    refine ⟨ρ, env, M, hE, hS, (post_bind h).imp (fun c M1 hx ρ1 H1 e1 S1 => ?_) (fun _ _ _ z => z)⟩
    cases c with
    | true => exact ⟨ρ1, env, M1, hE.mono e1, S1, Out.post.imp hx (fun _ _ z => bP.sh e1 z) (fun _ _ _ z => eP.sh e1 z)⟩
    | false => exact hx ρ1 H1 e1 S1
theorem sw_or {a b : Expr} {rest : List Expr} {fa fb : DT} {pos : Pos} (ha : ST X cl W a fa) (hb : SW X cl W (.BoolOp .Or (b :: rest) pos) fb) : SW X cl W (.BoolOp .Or (a :: b :: rest) pos) (dOr fa fb) :=
  PWweak (pw_or ha hb) fun σ H Q ⟨ρ, env, M, hE, hS, h⟩ => by
    refine ⟨ρ, env, M, hE, hS, (post_bind h).imp (fun c M1 hx ρ1 H1 e1 S1 => ?_) (fun _ _ _ z => z)⟩
    cases c with
    | false => exact ⟨ρ1, env, M1, hE.mono e1, S1, Out.post.imp hx (fun _ _ z => bP.sh e1 z) (fun _ _ _ z => eP.sh e1 z)⟩
    | true => exact hx ρ1 H1 e1 S1
theorem SW.st {e : Expr} {f : DT} (h : SW X cl W e f) : ST X cl W e f := PW.pt h
theorem st_not {a : Expr} {fa : DT} {pos : Pos} (ha : ST X cl W a fa) : ST X cl W (.UnaryOp .Not a pos) (dNot fa) :=
  PTweak (pt_not ha) fun σ H Q ⟨ρ, env, M, hE, hS, h⟩ => ⟨ρ, env, M, hE, hS, (post_bind h).imp (fun c M1 hx ρ1 H1 e1 S1 => hx ρ1 H1 e1 S1) (fun _ _ _ z => z)⟩
theorem se_one {op : BoolOp} {a : Expr} {fa : DE} {pos : Pos} (ha : SE X cl W a fa) : SE X cl W (.BoolOp op [a] pos) fa := pe_one ha
theorem se_and {a b : Expr} {rest : List Expr} {fa fb : DE} {pos : Pos} (ha : SE X cl W a fa) (hb : SE X cl W (.BoolOp .And (b :: rest) pos) fb) : SE X cl W (.BoolOp .And (a :: b :: rest) pos) (dAndV fa fb) :=
  PEweak (pe_and ha hb) fun σ H Q ⟨ρ, env, M, hE, hS, h⟩ => by
    refine ⟨ρ, env, M, hE, hS, (post_bind h).imp (fun c M1 hx ρ1 v H1 e1 S1 r1 => ?_) (fun _ _ _ z => z)⟩
    cases r1 with
    | bl b =>
      cases b with
      | true => exact ⟨true, rfl, ρ1, env, M1, hE.mono e1, S1, Out.post.imp hx (fun _ _ z => oP.sh e1 z) (fun _ _ _ z => eP.sh e1 z)⟩
      | false => exact ⟨false, rfl, hx ρ1 _ H1 e1 S1 (.bl false)⟩
    | _ => exact hx.elim
theorem se_or {a b : Expr} {rest : List Expr} {fa fb : DE} {pos : Pos} (ha : SE X cl W a fa) (hb : SE X cl W (.BoolOp .Or (b :: rest) pos) fb) : SE X cl W (.BoolOp .Or (a :: b :: rest) pos) (dOrV fa fb) :=
  PEweak (pe_or ha hb) fun σ H Q ⟨ρ, env, M, hE, hS, h⟩ => by
    refine ⟨ρ, env, M, hE, hS, (post_bind h).imp (fun c M1 hx ρ1 v H1 e1 S1 r1 => ?_) (fun _ _ _ z => z)⟩
    cases r1 with
    | bl b =>
      cases b with
      | false => exact ⟨false, rfl, ρ1, env, M1, hE.mono e1, S1, Out.post.imp hx (fun _ _ z => oP.sh e1 z) (fun _ _ _ z => eP.sh e1 z)⟩
      | true => exact ⟨true, rfl, hx ρ1 _ H1 e1 S1 (.bl true)⟩
    | _ => exact hx.elim
theorem se_not {a : Expr} {fa : DE} {pos : Pos} (ha : SE X cl W a fa) : SE X cl W (.UnaryOp .Not a pos) (dNotV fa) :=
  PEweak (pe_not ha) fun σ H Q ⟨ρ, env, M, hE, hS, h⟩ => by
    refine ⟨ρ, env, M, hE, hS, (post_bind h).imp (fun c M1 hx ρ1 v H1 e1 S1 r1 => ?_) (fun _ _ _ z => z)⟩
    cases r1 with
    | bl b => exact ⟨b, rfl, hx ρ1 _ H1 e1 S1 (.bl _)⟩
    | _ => exact hx.elim
theorem se_if {c a b : Expr} {fc : DT} {fa fb : DE} {pos : Pos} (hc : ST X cl W c fc) (ha : SE X cl W a fa) (hb : SE X cl W b fb) : SE X cl W (.IfExp c a b pos) (dIfE fc fa fb) :=
  PEweak (pe_ifExp hc ha hb) fun σ H Q ⟨ρ, env, M, hE, hS, h⟩ => by
    refine ⟨ρ, env, M, hE, hS, (post_bind h).imp (fun c M1 hx ρ1 H1 e1 S1 => ?_) (fun _ _ _ z => z)⟩
    cases c with
    | true => exact ⟨ρ1, env, M1, hE.mono e1, S1, Out.post.imp hx (fun _ _ z => oP.sh e1 z) (fun _ _ _ z => eP.sh e1 z)⟩
    | false => exact ⟨ρ1, env, M1, hE.mono e1, S1, Out.post.imp hx (fun _ _ z => oP.sh e1 z) (fun _ _ _ z => eP.sh e1 z)⟩
theorem se_chain {op op' : CmpOp} {r r' : R2} {g g' : G2} {a b c : Expr} {fa fb fc : DE} {pos : Pos} (ho : OpR X (compareOp op) r) (hg : OpS (gx X cl) r g) (ho' : OpR X (compareOp op') r') (hg' : OpS (gx X cl) r' g') (ha : SE X cl W a fa) (hb : SE X cl W b fb) (hc : SE X cl W c fc)
    (hm : lastMarks [op, op'] [b, c] = false := by with_unfolding_all rfl) : SE X cl W (.Compare a [op, op'] [b, c] pos) (dChain g g' fa fb fc) :=
  PEweak (pe_chain ho ho' ha hb hc hm) fun σ H Q ⟨ρ, env, M, hE, hS, h⟩ => by
    refine ⟨ρ, env, M, hE, hS, (post_bind h).imp (fun x M1 hx ρ1 v H1 e1 S1 r1 => ?_) (fun _ _ _ z => z)⟩
    refine ⟨ρ1, env, M1, hE.mono e1, S1, (post_bind hx).imp (fun y M2 hy ρ2 w H2 e2 S2 r2 => ?_) (fun _ _ _ z => eP.sh e1 z)⟩
    obtain ⟨d, M3, e, q⟩ := lift_some (post_bind hy)
    refine hg H2 ρ2 M2 v w x y d M3 _ S2 (r1.mono e2) r2 e fun ρ3 z H3 e3 S3 r3 => ?_
    cases r3 with
    | bl k =>
      refine ⟨k, rfl, ?_⟩
      cases k with
      | false =>
        rw [if_neg (by decide)]
        exact q ρ3 _ H3 (e1.trans (e2.trans e3)) S3 (.bl _)
      | true =>
        rw [if_pos rfl]
        refine ⟨ρ3, env, M3, hE.mono (e1.trans (e2.trans e3)), S3, (post_bind q).imp (fun u M4 hu ρ4 w4 H4 e4 S4 r4 => ?_) (fun _ _ _ z => eP.sh (e1.trans (e2.trans e3)) z)⟩
        obtain ⟨d5, M5, e5, q5⟩ := lift_some hu
        exact hg' H4 ρ4 M4 w w4 y u d5 M5 Q S4 (r2.mono (e3.trans e4)) r4 e5 (oP.sh (e1.trans (e2.trans (e3.trans e4))) q5)
    | _ => exact q.elim
end
end Ip
end
section
set_option Elab.async false
set_option linter.all false
set_option maxRecDepth 100000
set_option maxHeartbeats 4000000
set_option autoImplicit false
namespace Ip
open PySem L2
inductive Fl where
  | nx (env : En) | rt (d : D) | bk (env : En) | ct (env : En)
abbrev DS := En → Sto → Out Fl
def nP (G : Gx) (H : Hp) (ρ : Rho) (N : L2.St → Hp → Prop) : En → Sto → Prop := fun env' M' => ∀ ρ' σ' H', Ext G H ρ H' ρ' → RS G H' ρ' M' → RE G H' ρ' env' σ' → N σ' H'
def sP (G : Gx) (H : Hp) (ρ : Rho) (D : Ends) : Fl → Sto → Prop
  | .nx env', M' => nP G H ρ D.nx env' M'
  | .rt d, M' => oP G H ρ D.rt d M'
  | .bk env', M' => nP G H ρ D.bk env' M'
  | .ct env', M' => nP G H ρ D.ct env' M'
def dS (G : Gx) (W : WX) (f : DS) : TS := fun D σ H => ∃ ρ env M, RE G H ρ env σ ∧ RS G H ρ M ∧ (f env M).post (sP G H ρ D) (eP G W H ρ)
def SS (X : Cx) (cl : Str → Option Addr) (W : WX) (st : Stmt) (f : DS) : Prop := PS X st (dS (gx X cl) W f)
def SSs (X : Cx) (cl : Str → Option Addr) (W : WX) (sts : List Stmt) (f : DS) : Prop := PSs X sts (dS (gx X cl) W f)
def dSeq (f g : DS) : DS := fun env M => (f env M).bind fun fl M1 => match fl with
  | .nx env1 => g env1 M1
  | o => .ok o M1
def dSkip : DS := fun env M => .ok (.nx env) M
def dSet (i : Nat) (fe : DE) : DS := fun env M => (fe env M).bind fun d M1 => .ok (.nx (env.set i (some d))) M1
def dDrop (fe : DE) : DS := fun env M => (fe env M).bind fun _ M1 => .ok (.nx env) M1
def dRet (fe : DE) : DS := fun env M => (fe env M).bind fun d M1 => .ok (.rt d) M1
def dRetN : DS := fun _ M => .ok (.rt .non) M
def dIf (ft : DT) (fa fb : DS) : DS := fun env M => (ft env M).bind fun c M1 => if c then fa env M1 else fb env M1
def dBad : DS := fun _ _ => .bad
abbrev DG := D → En → Option En
def dG (G : Gx) (t : DG) : TG := fun v σ H Q => ∃ ρ env d env', RE G H ρ env σ ∧ RV G H ρ d v ∧ t d env = some env' ∧ ∀ σ', RE G H ρ env' σ' → Q σ' H
def tgName (i : Nat) : DG := fun d env => some (env.set i (some d))
def tgAll : List Nat → List D → En → Option En
  | [], [], env => some env
  | i :: is, d :: ds, env => tgAll is ds (env.set i (some d))
  | _, _, _ => none
def tgTup (is : List Nat) : DG := fun d env => match d with
  | .tup ds => tgAll is ds env
  | _ => none
def SG (X : Cx) (cl : Str → Option Addr) (tg : Expr) (t : DG) : Prop := PG X tg (dG (gx X cl) t)
section
variable {X : Cx} {cl : Str → Option Addr} {W : WX} {G : Gx} {H H1 : Hp} {ρ ρ1 : Rho}
theorem nP.sh (x : Ext G H ρ H1 ρ1) {N : L2.St → Hp → Prop} {env : En} {M : Sto} (h : nP G H ρ N env M) : nP G H1 ρ1 N env M := fun ρ' v H' a b c => h ρ' v H' (x.trans a) b c
theorem sP.sh (x : Ext G H ρ H1 ρ1) {D : Ends} {fl : Fl} {M : Sto} (h : sP G H ρ D fl M) : sP G H1 ρ1 D fl M := by
  cases fl with
  | nx env => exact nP.sh x h
  | rt d => exact oP.sh x h
  | bk env => exact nP.sh x h
  | ct env => exact nP.sh x h
theorem PGweak {tg : Expr} {t t' : TG} (h : PG X tg t) (w : ∀ v σ H Q, t' v σ H Q → t v σ H Q) : PG X tg t' := ⟨fun pins s σ H v u Q I r z => h.run pins s σ H v u Q I r (w v σ H Q z)⟩
theorem ss_nil : SSs X cl W [] dSkip := PSsweak pss_nil fun D σ H ⟨ρ, env, M, hE, hS, h⟩ => h ρ σ H .refl hS hE
theorem ss_cons {st : Stmt} {sts : List Stmt} {f g : DS} (h1 : SS X cl W st f) (h2 : SSs X cl W sts g) : SSs X cl W (st :: sts) (dSeq f g) :=
  PSsweak (pss_cons h1 h2) fun D σ H ⟨ρ, env, M, hE, hS, h⟩ => by
    refine ⟨ρ, env, M, hE, hS, (post_bind h).imp (fun fl M1 hx => ?_) (fun _ _ _ z => z)⟩
    cases fl with
    | nx env1 => exact fun ρ' σ' H' e1 S1 E1 => ⟨ρ', env1, M1, E1, S1, Out.post.imp hx (fun _ _ z => sP.sh e1 z) (fun _ _ _ z => eP.sh e1 z)⟩
    | rt d => exact hx
    | bk env1 => exact hx
    | ct env1 => exact hx
theorem ss_one {st : Stmt} {f : DS} (h1 : SS X cl W st f) : SSs X cl W [st] f := pss_one h1
theorem ss_never {st : Stmt} : SS X cl W st dBad := PSweak ps_never fun D σ H ⟨ρ, env, M, hE, hS, h⟩ => h
theorem ss_expr {e : Expr} {fe : DE} {pos : Pos} (he : SE X cl W e fe) (hs : swapsWith e none pos.line X.env = pure false := by rfl) : SS X cl W (.Expr e pos) (dDrop fe) :=
  PSweak (ps_expr he hs) fun D σ H ⟨ρ, env, M, hE, hS, h⟩ =>
    ⟨ρ, env, M, hE, hS, (post_bind h).imp (fun d M1 hx ρ1 v H1 e1 S1 r1 => hx ρ1 σ H1 e1 S1 (hE.mono e1)) (fun _ _ _ z => z)⟩
theorem ss_ret {e : Expr} {fe : DE} {pos : Pos} (he : SE X cl W e fe) : SS X cl W (.Return (some e) pos) (dRet fe) :=
  PSweak (ps_ret he) fun D σ H ⟨ρ, env, M, hE, hS, h⟩ =>
    ⟨ρ, env, M, hE, hS, (post_bind h).imp (fun d M1 hx ρ1 v H1 e1 S1 r1 => hx ρ1 v H1 e1 S1 r1) (fun _ _ _ z => z)⟩
theorem ss_if {c : Expr} {a b : List Stmt} {ft : DT} {fa fb : DS} {pos : Pos} (hc : ST X cl W c ft) (ha : SSs X cl W a fa) (hb : SSs X cl W b fb) : SS X cl W (.If c a b pos) (dIf ft fa fb) :=
  PSweak (ps_if hc ha hb) fun D σ H ⟨ρ, env, M, hE, hS, h⟩ => by
    refine ⟨ρ, env, M, hE, hS, (post_bind h).imp (fun c M1 hx ρ1 H1 e1 S1 => ?_) (fun _ _ _ z => z)⟩
    cases c with
    | true => exact ⟨ρ1, env, M1, hE.mono e1, S1, Out.post.imp hx (fun _ _ z => sP.sh e1 z) (fun _ _ _ z => eP.sh e1 z)⟩
    | false => exact ⟨ρ1, env, M1, hE.mono e1, S1, Out.post.imp hx (fun _ _ z => sP.sh e1 z) (fun _ _ _ z => eP.sh e1 z)⟩
theorem ss_set {i : Nat} {x : Str} {e : Expr} {fe : DE} {pos pos' : Pos} (hN : X.N.Nodup) (hi : X.N[i]? = some x) (hx : Loc X.env.scope x) (he : SE X cl W e fe) (hs : swapsWith e (some (.Name x pos')) pos.line X.env = pure false := by rfl) (hf : X.fn x = true ∨ X.env.scope.names.lookup x = some .local := by first | exact .inl rfl | exact .inr rfl | assumption) :
    SS X cl W (.Assign [.Name x pos'] e pos) (dSet i fe) :=
  PSweak (ps_set hN hi hx he hs hf) fun D σ H ⟨ρ, env, M, hE, hS, h⟩ =>
    ⟨ρ, env, M, hE, hS, (post_bind h).imp (fun d M1 hx ρ1 v H1 e1 S1 r1 => hx ρ1 _ H1 e1 S1 ((hE.mono e1).set i r1)) (fun _ _ _ z => z)⟩
theorem sg_name {i : Nat} {x : Str} {pos : Pos} (hN : X.N.Nodup) (hi : X.N[i]? = some x) (hx : Loc X.env.scope x) (hf : X.fn x = true ∨ X.env.scope.names.lookup x = some .local := by first | exact .inl rfl | exact .inr rfl | assumption) : SG X cl (.Name x pos) (tgName i) :=
  PGweak (pg_name hN hi hx hf) fun v σ H Q ⟨ρ, env, d, env', hE, r, e, h⟩ => by
    cases e
    exact h _ (hE.set i r)
/-- names of a tuple target -/
def gsNames : List Nat → TGs
  | [] => gNil
  | i :: is => gCons (gName i) (gsNames is)
theorem gsNames_ok {is : List Nat} : ∀ {ds : List D} {vs : List V} {env env' : En} {σ : L2.St} {Q : L2.St → Hp → Prop}, RVs G H ρ ds vs → RE G H ρ env σ → tgAll is ds env = some env' → (∀ σ', RE G H ρ env' σ' → Q σ' H) → gsNames is vs σ H Q := by
  induction is with
  | nil =>
    intro ds vs env env' σ Q r hE e h
    cases r with
    | nil => cases e; exact ⟨rfl, h σ hE⟩
    | cons _ _ => cases e
  | cons i is ih =>
    intro ds vs env env' σ Q r hE e h
    cases r with
    | nil => cases e
    | cons r1 r2 => exact ⟨_, _, rfl, ih r2 (hE.set i r1) e h⟩
theorem tgAll_len : ∀ {is : List Nat} {ds : List D} {env env' : En}, tgAll is ds env = some env' → ds.length = is.length
  | [], [], _, _, _ => rfl
  | [], _ :: _, _, _, h => by cases h
  | _ :: _, [], _, _, h => by cases h
  | i :: is, d :: ds, env, env', h => by
    have := tgAll_len (is := is) (ds := ds) h
    simp [this]
theorem sg_tup {es : List Expr} {k n : Nat} {is : List Nat} {pos : Pos} (hc : X.calm = true) (h : PGs X es (gsNames is)) (hl : is.length = n) (hn : (assignEach es X.env).length = n := by rfl) (hst : (assignEach es X.env).findIdx? (·.1) = none := by rfl) : SG X cl (.Tuple es k pos) (tgTup is) :=
  PGweak (pg_tup hc h hn hst) fun v σ H Q ⟨ρ, env, d, env', hE, r, e, q⟩ => by
    cases r with
    | tup hs rs => exact ⟨_, _, rfl, hs.1, by rw [rs.length, tgAll_len e, hl], gsNames_ok rs hE e q⟩
    | _ => cases e
def dAsg (t : DG) (fe : DE) : DS := fun env M => (fe env M).bind fun d M1 => match t d env with
  | some env' => .ok (.nx env') M1
  | none => .bad
theorem ss_asg {tg e : Expr} {fe : DE} {t : DG} {pos : Pos} (he : SE X cl W e fe) (hg : SG X cl tg t) (hs : swapsWithSole [tg] e pos.line X.env = pure false := by rfl) (hw : swappedStores [tg] e X.env = pure none := by rfl)
    (h1 : (assignEach [tg] X.env).map (·.2) = [assign tg X.env] := by rfl) : SS X cl W (.Assign [tg] e pos) (dAsg t fe) :=
  PSweak (ps_asg he hg hs hw h1) fun D σ H ⟨ρ, env, M, hE, hS, h⟩ => by
    refine ⟨ρ, env, M, hE, hS, (post_bind h).imp (fun d M1 hx ρ1 v H1 e1 S1 r1 => ?_) (fun _ _ _ z => z)⟩
    split at hx
    · rename_i env' he'
      exact ⟨ρ1, env, d, env', hE.mono e1, r1, he', fun σ' E' => hx ρ1 σ' H1 e1 S1 E'⟩
    · exact hx.elim
def dPar (i j : Nat) (fa : DA) : DS := fun env M => (fa env M).bind fun ds M1 => match ds with
  | [x, y] => .ok (.nx ((env.set i (some x)).set j (some y))) M1
  | _ => .bad
theorem ss_par {i j : Nat} {x y : Str} {a b : Expr} {fa : DA} {px py pt pos : Pos} {kt k2 pt2} (hc : X.calm = true) (hN : X.N.Nodup) (hi : X.N[i]? = some x) (hj : X.N[j]? = some y) (hij : i ≠ j)
    (hx : X.env.scope.names.lookup x = some .local) (hy : X.env.scope.names.lookup y = some .local) (ha : SA X cl W [a, b] fa)
    (hw : swappedStores [.Tuple [.Name x px, .Name y py] kt pt] (.Tuple [a, b] k2 pt2) X.env = pure (some [x, y]))
    (hs : swapsWithSole [.Tuple [.Name x px, .Name y py] kt pt] (.Tuple [a, b] k2 pt2) pos.line X.env = pure false := by rfl) :
    SS X cl W (.Assign [.Tuple [.Name x px, .Name y py] kt pt] (.Tuple [a, b] k2 pt2) pos) (dPar i j fa) :=
  PSweak (ps_par hc hN hi hj hij hx hy ha hw hs) fun D σ H ⟨ρ, env, M, hE, hS, h⟩ => by
    refine ⟨ρ, env, M, hE, hS, (post_bind h).imp (fun ds M1 hx ρ1 vs H1 e1 S1 r1 => ?_) (fun _ _ _ z => z)⟩
    cases r1 with
    | nil => exact hx.elim
    | cons q1 q2 =>
      cases q2 with
      | nil => exact hx.elim
      | cons q2 q3 =>
        cases q3 with
        | cons _ _ => exact hx.elim
        | nil => exact ⟨_, _, rfl, hx ρ1 _ H1 e1 S1 (((hE.mono e1).set i q1).set j q2)⟩
def Good (J : It) (G : Gx) (items : List D) (ρ0 : Rho) (H0 : Hp) : Prop := ∀ (H : Hp) (ρ : Rho), Mo G H0 ρ0 H ρ → ∀ i : Nat,
  (∀ d, items[i]? = some d → J.go i H ∧ ∀ x H', J.yld i H x H' → (∃ M, RS G H ρ M) → Ext G H ρ H' ρ ∧ (∀ M, RS G H ρ M → RS G H' ρ M) ∧ RV G H' ρ d x) ∧ (items.length ≤ i → J.stop i H)
def dI (G : Gx) (W : WX) (f : DA) : TI := fun σ H R => ∃ ρ env M, RE G H ρ env σ ∧ RS G H ρ M ∧ (f env M).post (fun items M' => ∀ ρ' H' J, Ext G H ρ H' ρ' → RS G H' ρ' M' → Good J G items ρ' H' → R J H') (eP G W H ρ)
def SI (X : Cx) (cl : Str → Option Addr) (W : WX) (tg iter : Expr) (f : DA) : Prop := PI X tg iter (dI (gx X cl) W f)
def forGo (t : DG) (fb : DS) : List D → DS
  | [], env, M => .ok (.nx env) M
  | d :: ds, env, M => match t d env with
    | none => .bad
    | some env1 => (fb env1 M).bind fun fl M1 => match fl with
      | .nx e => forGo t fb ds e M1
      | .ct e => forGo t fb ds e M1
      | .bk e => .ok (.nx e) M1
      | .rt d => .ok (.rt d) M1
def dFor (t : DG) (fi : DA) (fb : DS) : DS := fun env M => (fi env M).bind fun items M1 => forGo t fb items env M1
theorem ss_for {tg iter : Expr} {body : List Stmt} {t : DG} {fi : DA} {fb : DS} {pos : Pos} (hp : PassesOwn (model X.prog X.w) X.A X.env X.xe) (hc : X.calm = true) (hi : SI X cl W tg iter fi) (hg : SG X cl tg t) (hb : SSs X cl W body fb)
    (hs : ∀ x, foldedSetIterable iter X.env x = pure x := by intro _; rfl) : SS X cl W (.For tg iter body [] pos) (dFor t fi fb) :=
  PSweak (ps_for hp hc hi hg hb hs) fun D σ H ⟨ρ, env, M, hE, hS, h⟩ => by
    refine ⟨ρ, env, M, hE, hS, (post_bind h).imp (fun items M1 hx ρ1 H1 J e1 S1 good => ?_) (fun _ _ _ z => z)⟩
    refine ⟨fun i m σ H => m = items.length - i ∧ i ≤ items.length ∧ ∃ ρ env M, Ext (gx X cl) H1 ρ1 H ρ ∧ RE (gx X cl) H ρ env σ ∧ RS (gx X cl) H ρ M ∧ (forGo t fb (items.drop i) env M).post (sP (gx X cl) H ρ D) (eP (gx X cl) W H ρ),
      ⟨items.length, by simp, Nat.zero_le _, ρ1, env, M1, .refl, hE.mono e1, S1, Out.post.imp hx (fun _ _ z => sP.sh e1 z) (fun _ _ _ z => eP.sh e1 z)⟩, ?_⟩
    rintro i m σ' H' ⟨rfl, hi, ρ', env', M', x1, E', S', q⟩
    obtain ⟨g1, g2⟩ := good H' ρ' x1.mo i
    by_cases hlt : i < items.length
    · have hd : items[i]? = some items[i] := List.getElem?_eq_getElem hlt
      obtain ⟨go, yl⟩ := g1 _ hd
      have hdrop : items.drop i = items[i] :: items.drop (i + 1) := List.drop_eq_getElem_cons hlt
      rw [hdrop] at q
      refine .inr ⟨go, fun σ H => ∃ ρ env M, Ext (gx X cl) H1 ρ1 H ρ ∧ RE (gx X cl) H ρ env σ ∧ RS (gx X cl) H ρ M ∧ (forGo t fb (items.drop (i + 1)) env M).post (sP (gx X cl) H ρ D) (eP (gx X cl) W H ρ),
        fun σ2 H2 n2 => ⟨items.length - (i + 1), by omega, rfl, hlt, n2⟩, fun x H2 y => ?_⟩
      obtain ⟨x2, rs2, r2⟩ := yl x H2 y ⟨M', S'⟩
      unfold forGo at q
      split at q
      · exact q.elim
      · rename_i env1 he1
        refine ⟨ρ', env', items[i], env1, E'.mono x2, r2, he1, fun σ3 E3 => ?_⟩
        refine ⟨ρ', env1, M', E3, rs2 M' S', (post_bind q).imp (fun fl M4 h4 => ?_) (fun _ _ _ z => eP.sh x2 z)⟩
        cases fl with
        | nx e => exact fun ρ5 σ5 H5 x5 S5 E5 => ⟨ρ5, e, M4, x1.trans (x2.trans x5), E5, S5, Out.post.imp h4 (fun _ _ z => sP.sh (x2.trans x5) z) (fun _ _ _ z => eP.sh (x2.trans x5) z)⟩
        | ct e => exact fun ρ5 σ5 H5 x5 S5 E5 => ⟨ρ5, e, M4, x1.trans (x2.trans x5), E5, S5, Out.post.imp h4 (fun _ _ z => sP.sh (x2.trans x5) z) (fun _ _ _ z => eP.sh (x2.trans x5) z)⟩
        | bk e => exact nP.sh x2 h4
        | rt d => exact oP.sh x2 h4
    · have e : i = items.length := by omega
      subst e
      rw [List.drop_length] at q
      exact .inl ⟨g2 (Nat.le_refl _), q ρ' σ' H' .refl S' E'⟩
end
end Ip
end
section
set_option Elab.async false
set_option linter.all false
set_option maxRecDepth 100000
set_option maxHeartbeats 4000000
set_option autoImplicit false
namespace Ip
open PySem L2
def noex {α : Type} (o : Out α) : Out α := match o with
  | .ok a M => .ok a M
  | _ => .bad
theorem noex_post {α : Type} {o : Out α} {Q : α → Sto → Prop} {E E' : Exn → En → Sto → Prop} (h : (noex o).post Q E) : o.post Q E' := by
  cases o with
  | ok a M => exact h
  | exc e env M => exact h.elim
  | bad => exact h
abbrev W0 : WX := fun _ _ _ _ => False
def wipeE (env : En) : List Nat → En
  | [] => env
  | v :: vs => (wipeE env vs).set v none
def lcGo (t : DG) (ft : DT) (fe : DE) : List D → List D → En → Sto → Out (List D)
  | [], acc, _, M => .ok acc M
  | d :: ds, acc, env, M => match t d env with
    | none => .bad
    | some env1 => (noex (ft env1 M)).bind fun b M1 => if b then (noex (fe env1 M1)).bind fun y M2 => if acc.length < 16777216 then lcGo t ft fe ds (acc ++ [y]) env M2 else .bad
      else lcGo t ft fe ds acc env M1
def dLc (vs : List Nat) (t : DG) (fi : DA) (ft : DT) (fe : DE) : DE := fun env M => (fi env M).bind fun items M1 => (lcGo t ft fe items [] (wipeE env vs) M1).bind fun l M2 => .ok (.lst l) M2
def dYes : DT := fun _ M => .ok true M
theorem wipeE_len (env : En) : ∀ vs : List Nat, (wipeE env vs).length = env.length
  | [] => rfl
  | v :: vs => by unfold wipeE; rw [List.length_set, wipeE_len env vs]
theorem wipeE_some {env : En} {i : Nat} {d : D} : ∀ {vs : List Nat}, (wipeE env vs)[i]? = some (some d) → env[i]? = some (some d) ∧ i ∉ vs
  | [], h => ⟨h, by simp⟩
  | v :: vs, h => by
    unfold wipeE at h
    by_cases e : v = i
    · subst e
      rw [List.getElem?_set] at h
      simp at h
    · rw [List.getElem?_set_ne e] at h
      obtain ⟨a, b⟩ := wipeE_some h
      exact ⟨a, fun z => (List.mem_cons.mp z).elim (fun z => e z.symm) b⟩
theorem RE.wipe {G : Gx} {H : Hp} {ρ : Rho} {env : En} {σ : L2.St} (vs : List Nat) (h : RE G H ρ env σ) : RE G H ρ (wipeE env vs) (wipe σ vs) :=
  ⟨by rw [wipeE_len, wipe_length, h.1], fun i d q => by
    obtain ⟨a, b⟩ := wipeE_some q
    obtain ⟨v, e, r⟩ := h.2 i d a
    exact ⟨v, by rw [wipe_out b]; exact e, r⟩⟩
theorem wipe_in {σ : L2.St} {i : Nat} : ∀ {vs : List Nat}, i ∈ vs → (wipe σ vs)[i]? = if i < σ.length then some none else none
  | v :: vs, h => by
    unfold wipe
    by_cases e : v = i
    · subst e
      rw [List.getElem?_set, if_pos rfl, wipe_length]
    · rw [List.getElem?_set_ne e]
      exact wipe_in ((List.mem_cons.mp h).elim (fun z => absurd z.symm e) id)
theorem wipe_eq {σ τ : L2.St} {vs : List Nat} (hl : σ.length = τ.length) (h : ∀ i : Nat, i ∉ vs → σ[i]? = τ[i]?) : wipe σ vs = wipe τ vs := by
  refine List.ext_getElem? fun i => ?_
  by_cases hi : i ∈ vs
  · rw [wipe_in hi, wipe_in hi, hl]
  · rw [wipe_out hi, wipe_out hi, h i hi]
/-- a target whose names are all the comprehension's own -/
def TgOk (G : Gx) (vs : List Nat) (g : TG) (t : DG) : Prop := ∀ (H : Hp) (ρ : Rho) (v : V) (σ : L2.St) (env env' : En) (d : D) (Q : L2.St → Hp → Prop), RE G H ρ env σ → RV G H ρ d v → t d env = some env' →
  (∀ σ', RE G H ρ env' σ' → wipe σ' vs = wipe σ vs → Q σ' H) → g v σ H Q
theorem tgok_name {G : Gx} {vs : List Nat} {i : Nat} (hi : i ∈ vs) : TgOk G vs (gName i) (tgName i) := fun H ρ v σ env env' d Q hE r e h => by
  cases e
  exact h _ (hE.set i r) (wipe_eq (by simp) fun j hj => List.getElem?_set_ne (fun z : i = j => hj (z ▸ hi)))
section
variable {X : Cx} {cl : Str → Option Addr} {W : WX} {G : Gx}
theorem lc_ok {vs : List Nat} {g : TG} {t : DG} {fi : DA} {ft : DT} {fe : DE} (hg : TgOk G vs g t) {σ : L2.St} {H : Hp} {Q : VK} (h : dE G W (dLc vs t fi ft fe) σ H Q) : tLc (dI G W fi) g (dT G W0 ft) (dE G W0 fe) vs σ H Q := by
  obtain ⟨ρ, env, M, hE, hS, h⟩ := h
  refine ⟨ρ, env, M, hE, hS, (post_bind h).imp (fun items M1 hx ρ1 H1 J e1 S1 good D hD => ?_) (fun _ _ _ z => z)⟩
  have hD1 : D ∉ ρ1 := S1.fresh hD
  refine ⟨fun i m H => m = items.length - i ∧ i ≤ items.length ∧ ∃ (ρ : Rho) (M : Sto) (acc : List Ip.D) (av : List V), ρ.t = D :: ρ1.t ∧ Ext G H1 ρ1 H ⟨ρ.c, ρ1.t⟩ ∧ H D = some (.lst av) ∧ RVs G H ρ acc av ∧ RE G H ρ (wipeE env vs) (wipe σ vs) ∧ RS G H ρ M ∧
    (lcGo t ft fe (items.drop i) acc (wipeE env vs) M).post (fun l M' => oP G H1 ρ1 Q (.lst l) M') (fun _ _ _ => False), ⟨items.length, by simp, Nat.zero_le _, ⟨ρ1.c, D :: ρ1.t⟩, M1, [], [], rfl, ?_, upd_same, .nil, ?_, ?_, ?_⟩, ?_⟩
  · exact Ext.new S1 hD
  · refine RE.mo (H := H1) (ρ := ρ1) ?_ ((hE.mono e1).wipe vs)
    exact ⟨fun _ _ z => z, fun a xs z => tpA_upd z (fun u w => by rw [hD] at w; cases w), fun a o n nt z => ⟨by rw [upd_ne (ne_of_none z hD)]; exact z, fun w => by
      rcases w with w | w
      · exact n (.inl w)
      · rcases List.mem_cons.mp w with w | w
        · exact ne_of_none z hD w
        · exact n (.inr w)⟩⟩
  · have mo : Mo G H1 ρ1 (upd H1 D (.lst [])) ⟨ρ1.c, D :: ρ1.t⟩ := ⟨fun _ _ z => z, fun a xs z => tpA_upd z (fun u w => by rw [hD] at w; cases w), fun a o n nt z => ⟨by rw [upd_ne (ne_of_none z hD)]; exact z, fun w => by
      rcases w with w | w
      · exact n (.inl w)
      · rcases List.mem_cons.mp w with w | w
        · exact ne_of_none z hD w
        · exact n (.inr w)⟩⟩
    refine ⟨S1.len, S1.nd, fun a ha hb => ?_, fun a ha => ?_, fun n c hc => ?_, S1.tb.keeps fun b u z _ => by rw [upd_ne (ne_of_none z hD)]; exact z⟩
    · rcases List.mem_cons.mp hb with z | z
      · exact hD1 (.inl (by rw [← z]; exact ha))
      · exact S1.dis a ha z
    · rcases List.mem_cons.mp ha with z | z
      · exact ⟨_, by rw [z]; exact upd_same, .inl ⟨_, rfl⟩⟩
      · rw [upd_ne (S1.ne_new hD (.inr z))]; exact S1.trt a z
    · obtain ⟨a, ha, q⟩ := S1.at_ n c hc
      exact ⟨a, ha, q.mo mo (upd_ne (S1.ne_new hD (.inl (List.mem_of_getElem? ha))))⟩
  · have hx' := post_bind hx
    rw [List.drop_zero]
    cases hlc : lcGo t ft fe items [] (wipeE env vs) M1 with
    | ok l M2 => rw [hlc] at hx'; exact oP.sh e1 hx'
    | bad => rw [hlc] at hx'; exact hx'
    | exc e ev M2 =>
      exfalso
      -- a comprehension's walk raises nothing
      have : ∀ (ds acc : List Ip.D) (env : En) (M : Sto) (e : Exn) (ev : En) (M2 : Sto), lcGo t ft fe ds acc env M ≠ .exc e ev M2 := by
        intro ds
        induction ds with
        | nil => intro acc env M e ev M2 z; cases z
        | cons d ds ih =>
          intro acc env M e ev M2 z
          unfold lcGo at z
          split at z
          · cases z
          · cases h1 : ft _ M with
            | bad => rw [h1] at z; cases z
            | exc _ _ _ => rw [h1] at z; cases z
            | ok b M3 =>
              rw [h1] at z
              cases b with
              | false => exact ih _ _ _ _ _ _ z
              | true =>
                change (noex (fe _ M3)).bind _ = _ at z
                cases h2 : fe _ M3 with
                | bad => rw [h2] at z; cases z
                | exc _ _ _ => rw [h2] at z; cases z
                | ok y M4 =>
                  rw [h2] at z
                  change (if acc.length < 16777216 then _ else _) = _ at z
                  split at z
                  · exact ih _ _ _ _ _ _ z
                  · cases z
      exact this _ _ _ _ _ _ _ hlc
  · rintro i m H2 ⟨rfl, hi, ρ2, M2, acc, av, ht, x2, hDv, ra, E2, S2, q⟩
    have mk2 : ∀ (a : Addr) (o : HO), a ∉ ρ1 → (∀ ps, o ≠ .tbl ps) → H1 a = some o → H2 a = some o ∧ a ∉ ρ2 := fun a o n nt z => ⟨(x2.keep a o n nt z).1, fun w => by
      rcases w with w | w
      · exact (x2.keep a o n nt z).2 (.inl w)
      · rw [ht] at w
        rcases List.mem_cons.mp w with w | w
        · exact ne_of_none z hD w
        · exact n (.inr w)⟩
    have mo2 : Mo G H1 ρ1 H2 ρ2 := ⟨x2.pre, x2.tup, fun a o n p z => mk2 a o n p.tbl z⟩
    have hDt : D ∈ ρ2.t := by rw [ht]; exact List.mem_cons_self
    obtain ⟨g1, g2⟩ := good H2 ρ2 mo2 i
    by_cases hlt : i < items.length
    · have hd : items[i]? = some items[i] := List.getElem?_eq_getElem hlt
      obtain ⟨go, yl⟩ := g1 _ hd
      have hdrop : items.drop i = items[i] :: items.drop (i + 1) := List.drop_eq_getElem_cons hlt
      rw [hdrop] at q
      refine .inr ⟨go, fun H => ∃ (ρ : Rho) (M : Sto) (acc : List Ip.D) (av : List V), ρ.t = D :: ρ1.t ∧ Ext G H1 ρ1 H ⟨ρ.c, ρ1.t⟩ ∧ H D = some (.lst av) ∧ RVs G H ρ acc av ∧ RE G H ρ (wipeE env vs) (wipe σ vs) ∧ RS G H ρ M ∧
        (lcGo t ft fe (items.drop (i + 1)) acc (wipeE env vs) M).post (fun l M' => oP G H1 ρ1 Q (.lst l) M') (fun _ _ _ => False), fun H' n2 => ⟨items.length - (i + 1), by omega, rfl, hlt, n2⟩, fun x H3 y => ?_⟩
      obtain ⟨x3, rs3, r3⟩ := yl x H3 y ⟨M2, S2⟩
      unfold lcGo at q
      split at q
      · exact q.elim
      · rename_i env1 he1
        refine hg H3 ρ2 x _ _ env1 _ _ (E2.mono x3) r3 he1 fun σ4 E4 w4 => ⟨w4.trans (by rw [wipe_eq (σ := wipe σ vs) (τ := σ) (vs := vs) (wipe_length _ _) fun j hj => wipe_out hj]), ?_⟩
        -- from where the turn began to where it is
        have step : ∀ {H5 : Hp} {ρ5 : Rho}, Ext G H2 ρ2 H5 ρ5 → Ext G H1 ρ1 H5 ⟨ρ5.c, ρ1.t⟩ ∧ ρ5.t = D :: ρ1.t ∧ H5 D = some (.lst av) := fun {H5 ρ5} x5 =>
          ⟨⟨fun n a z => x5.pre n a (x2.pre n a z), rfl, fun a z => (x5.same a (by rw [ht]; exact List.mem_cons_of_mem _ z)).trans (x2.same a z), fun a xs z => x5.tup a xs (x2.tup a xs z), fun a o n nt z => by
              obtain ⟨k1, k2⟩ := mk2 a o n nt z
              obtain ⟨k3, k4⟩ := x5.keep a o k2 nt k1
              exact ⟨k3, fun w => by
                rcases w with w | w
                · exact k4 (.inl w)
                · exact n (.inr w)⟩⟩, x5.res.trans ht, (x5.same D hDt).trans hDv⟩
        refine ⟨ρ2, env1, M2, E4, rs3 M2 S2, (noex_post (post_bind q)).imp (fun b M5 hb ρ5 H5 x5 S5 => ?_) (fun _ _ _ z => z)⟩
        cases b with
        | false =>
          obtain ⟨s1, s2, s3⟩ := step (x3.trans x5)
          exact ⟨ρ5, M5, acc, av, s2, s1, s3, ra.mono (x3.trans x5), E2.mono (x3.trans x5), S5, hb⟩
        | true =>
          rw [if_pos rfl]
          refine ⟨ρ5, env1, M5, E4.mono x5, S5, (noex_post (post_bind (show (Out.bind (noex (fe env1 M5)) _).post _ _ from hb))).imp (fun y M6 hy ρ6 v6 H6 x6 S6 r6 => ?_) (fun _ _ _ z => z)⟩
          obtain ⟨s1, s2, s3⟩ := step (x3.trans (x5.trans x6))
          split at hy
          · rename_i hlen
            have hD6 : D ∈ ρ6.t := by rw [s2]; exact List.mem_cons_self
            have mo6 : Mo G H6 ρ6 (upd H6 D (.lst (av ++ [v6]))) ρ6 := ⟨fun _ _ z => z, fun a xs z => tpA_upd z (fun u w => by rw [s3] at w; cases w; exact ⟨fun _ z => (by cases z), fun _ _ z => (by cases z)⟩), fun a o n nt z => ⟨by rw [upd_ne (fun w : a = D => n (by rw [w]; exact .inr hD6))]; exact z, n⟩⟩
            have la : av.length = acc.length := ra.length
            refine ⟨av, s3, by rw [la]; rw [sizeLine_eq]; exact hlen, ρ6, M6, acc ++ [y], av ++ [v6], s2, ⟨s1.pre, rfl, fun a z => ?_, fun a xs z => mo6.tup a xs (s1.tup a xs z), fun a o n nt z => ?_⟩, upd_same, ?_, (E2.mono (x3.trans (x5.trans x6))).mo mo6, ?_, hy⟩
            · rw [upd_ne (fun w : a = D => hD1 (by rw [← w]; exact .inr z))]
              exact s1.same a z
            · obtain ⟨k1, k2⟩ := s1.keep a o n nt z
              exact ⟨by rw [upd_ne (ne_of_none z hD)]; exact k1, k2⟩
            · exact ((ra.mono (x3.trans (x5.trans x6))).append (.one r6)).mo mo6
            · refine ⟨S6.len, S6.nd, S6.dis, fun a ha => ?_, fun n c hc => ?_, S6.tb.keeps fun b u z nz => by rw [upd_ne (fun w : b = D => nz (by rw [w, s3] at z; cases z; exact .inl ⟨_, rfl⟩))]; exact z⟩
              · by_cases z : a = D
                · exact ⟨_, by rw [z]; exact upd_same, .inl ⟨_, rfl⟩⟩
                · rw [upd_ne z]; exact S6.trt a ha
              · obtain ⟨a, ha, q⟩ := S6.at_ n c hc
                exact ⟨a, ha, q.mo mo6 (upd_ne (fun z : a = D => S6.dis a (List.mem_of_getElem? ha) (by rw [z]; exact hD6)))⟩
          · exact hy.elim
    · have e : i = items.length := by omega
      subst e
      rw [List.drop_length] at q
      refine .inl ⟨g2 (Nat.le_refl _), q ⟨ρ2.c, ρ1.t⟩ (.ref D) H2 x2 ?_ ?_⟩
      · have mo : Mo G H2 ρ2 H2 ⟨ρ2.c, ρ1.t⟩ := ⟨fun _ _ z => z, fun _ _ z => z, fun a o n nt z => ⟨z, fun w => by
          rcases w with w | w
          · exact n (.inl w)
          · exact n (.inr (by rw [ht]; exact List.mem_cons_of_mem _ w))⟩⟩
        refine ⟨S2.len, S2.nd, fun a ha hb => S2.dis a ha (by rw [ht]; exact List.mem_cons_of_mem _ hb), fun a ha => S2.trt a (by rw [ht]; exact List.mem_cons_of_mem _ ha), fun n c hc => ?_, S2.tb⟩
        obtain ⟨a, ha, q⟩ := S2.at_ n c hc
        exact ⟨a, ha, q.mo mo rfl⟩
      · have mo : Mo G H2 ρ2 H2 ⟨ρ2.c, ρ1.t⟩ := ⟨fun _ _ z => z, fun _ _ z => z, fun a o n nt z => ⟨z, fun w => by
          rcases w with w | w
          · exact n (.inl w)
          · exact n (.inr (by rw [ht]; exact List.mem_cons_of_mem _ w))⟩⟩
        exact .lst hDv (fun w => by
          rcases w with w | w
          · exact S2.dis D w hDt
          · exact hD1 (.inr w)) (ra.mo mo)
end
end Ip
end
section
set_option Elab.async false
set_option linter.all false
set_option maxRecDepth 100000
set_option maxHeartbeats 4000000
set_option autoImplicit false
namespace Ip
open PySem PyProof.Rows L2
section
variable {X : Cx} {cl : Str → Option Addr} {W : WX} {G : Gx}
theorem se_lc {elt tg iter : Expr} {ifs : List Expr} {scope : Scope} {own : List (Str × Nat)} {pos : Pos} {g : TG} {t : DG} {fi : DA} {ft : DT} {fe : DE} (hc : X.calm = true) (hN : X.N.Nodup) (hi : SI X cl W tg iter fi) (ok : BlkOk X.N X.env.scope scope own)
    (hgp : ∀ (s : Shared) (H : Hp) (C : Addr) (c : List (Str × Addr)) (fp : List Addr), PG (X.blk s H scope (compEnvC scope c C X.env) fp) tg g) (hg : TgOk (gx X cl) (own.map (·.2)) g t)
    (ht : ∀ (s : Shared) (H : Hp) (C : Addr) (c : List (Str × Addr)) (fp : List Addr), PTs (X.blk s H scope (compEnvC scope c C X.env) fp) ifs (dT (gx X cl) W0 ft))
    (he : ∀ (s : Shared) (H : Hp) (C : Addr) (c : List (Str × Addr)) (fp : List Addr), PE (X.blk s H scope (compEnvC scope c C X.env) fp) elt (dE (gx X cl) W0 fe)) (hs : ∀ x, foldedSetIterable iter X.env x = pure x := by intro _; rfl) :
    SE X cl W (.ListComp elt [⟨tg, iter, ifs, 0⟩] scope pos) (dLc (own.map (·.2)) t fi ft fe) :=
  PEweak (pe_lc hc hN hi ok hgp ht he hs) fun σ H Q h => lc_ok hg h
theorem ss_setLc {i : Nat} {y : Str} {py : Pos} {elt tg iter : Expr} {ifs : List Expr} {scope : Scope} {own : List (Str × Nat)} {pos spos : Pos} {g : TG} {t : DG} {fi : DA} {ft : DT} {fe : DE} (hc : X.calm = true) (hN : X.N.Nodup) (hy : X.N[i]? = some y) (hyl : X.env.scope.names.lookup y = some .local)
    (hsw : swapsWith (.ListComp elt [⟨tg, iter, ifs, 0⟩] scope pos) (some (.Name y py)) spos.line X.env = pure true) (hi : SI X cl W tg iter fi) (ok : BlkOk X.N X.env.scope scope own)
    (hgp : ∀ (s : Shared) (H : Hp) (C : Addr) (c : List (Str × Addr)) (fp : List Addr), PG (X.blk s H scope (compEnvC scope c C X.env) fp) tg g) (hg : TgOk (gx X cl) (own.map (·.2)) g t)
    (ht : ∀ (s : Shared) (H : Hp) (C : Addr) (c : List (Str × Addr)) (fp : List Addr), PTs (X.blk s H scope (compEnvC scope c C X.env) fp) ifs (dT (gx X cl) W0 ft))
    (he : ∀ (s : Shared) (H : Hp) (C : Addr) (c : List (Str × Addr)) (fp : List Addr), PE (X.blk s H scope (compEnvC scope c C X.env) fp) elt (dE (gx X cl) W0 fe)) (hs : ∀ x, foldedSetIterable iter X.env x = pure x := by intro _; rfl) :
    SS X cl W (.Assign [.Name y py] (.ListComp elt [⟨tg, iter, ifs, 0⟩] scope pos) spos) (dSet i (dLc (own.map (·.2)) t fi ft fe)) :=
  PSweak (ps_setLc hc hN hy hyl hsw hi ok hgp ht he hs) fun D σ H ⟨ρ, env, M, hE, hS, h⟩ => by
    refine lc_ok (Q := fun x H1 => gName i x σ H1 D.nx) hg ⟨ρ, env, M, hE, hS, ?_⟩
    exact (post_bind h).imp (fun d M1 hx ρ1 v H1 e1 S1 r1 => hx ρ1 _ H1 e1 S1 ((hE.mono e1).set i r1)) (fun _ _ _ z => z)
theorem pts_yes : PTs X [] (dT G W0 dYes) := PTsweak pts_nil fun σ H Q ⟨ρ, env, M, hE, hS, h⟩ => h ρ H .refl hS
def iterD (x : D) : Option (List D) := match x with
  | .lst l => some l
  | .tup l => some l
  | .scr ns => some (ns.map D.int)
  | _ => none
def dIter (fe : DE) : DA := fun env M => (fe env M).bind fun x M1 => match iterD x with
  | some l => .ok l M1
  | none => .bad
theorem good_lst {H0 : Hp} {ρ0 : Rho} {a : Addr} {vs : List V} {ds : List D} (hs : H0 a = some (.lst vs)) (hn : a ∉ ρ0) (rs : RVs G H0 ρ0 ds vs) : Good (Itl G.K a) G ds ρ0 H0 := by
  intro H ρ mo i
  have hl := (mo.keep _ _ hn (by first | exact .l | exact .f) hs).1
  have rs' := rs.mo mo
  refine ⟨fun d hd => ?_, fun hi => ⟨vs, SqL.of hl, by rw [rs.length]; exact hi⟩⟩
  obtain ⟨v, hv, rv⟩ := rs'.get hd
  refine ⟨⟨vs, v, SqL.of hl, hv⟩, fun x H' y _ => ?_⟩
  obtain ⟨rfl, y⟩ := y
  have e := y vs (SqL.of hl)
  rw [hv] at e; cases e
  exact ⟨.refl, fun _ z => z, rv⟩
theorem good_scr {H0 : Hp} {ρ0 : Rho} {a : Addr} {ns : List Int} (hs : (Rd H0 a (.lst (ns.map V.int)) ∧ a ∉ ρ0) ∨ (∀ H', SqL G.K H' a (ns.map V.int))) : Good (Itl G.K a) G (ns.map D.int) ρ0 H0 := by
  intro H ρ mo i
  have hl : SqL G.K H a (ns.map V.int) := by
    rcases hs with ⟨h | ⟨o, h⟩, n⟩ | h
    · exact .inl (.inl (mo.keep _ _ n (by first | exact .l | exact .f) h).1)
    · exact .inl (.inr ⟨o, (mo.keep _ _ n (by first | exact .l | exact .f) h).1⟩)
    · exact h H
  have rs' : RVs G H ρ (ns.map D.int) (ns.map V.int) := RVs.ints ns
  refine ⟨fun d hd => ?_, fun hi => ⟨_, hl, by rw [rs'.length]; exact hi⟩⟩
  obtain ⟨v, hv, rv⟩ := rs'.get hd
  refine ⟨⟨_, v, hl, hv⟩, fun x H' y _ => ?_⟩
  obtain ⟨rfl, y⟩ := y
  have e := y _ hl
  rw [hv] at e; cases e
  exact ⟨.refl, fun _ z => z, rv⟩
theorem good_tup {H0 : Hp} {ρ0 : Rho} {a : Addr} {vs : List V} {ds : List D} (hs : TpA G H0 a vs) (rs : RVs G H0 ρ0 ds vs) : Good (Itt G.K a) G ds ρ0 H0 := by
  intro H ρ mo i
  have hl := (mo.tup _ _ hs).1
  have rs' := rs.mo mo
  refine ⟨fun d hd => ?_, fun hi => ⟨vs, hl, by rw [rs.length]; exact hi⟩⟩
  obtain ⟨v, hv, rv⟩ := rs'.get hd
  refine ⟨⟨vs, v, hl, hv⟩, fun x H' y _ => ?_⟩
  obtain ⟨rfl, y⟩ := y
  have e := y vs hl
  rw [hv] at e; cases e
  exact ⟨.refl, fun _ z => z, rv⟩
def rngD (lo : Int) (n : Nat) : List D := (List.range n).map fun k => D.int (lo + (k : Nat))
theorem good_rng {H0 : Hp} {ρ0 : Rho} {lo : Int} {n : Nat} : Good (Itr lo n) G (rngD lo n) ρ0 H0 := by
  intro H ρ mo i
  refine ⟨fun d hd => ?_, fun hi => show n ≤ i by simpa [rngD] using hi⟩
  have hi : i < n := by
    have := (List.getElem?_eq_some_iff.mp hd).1
    simpa [rngD] using this
  have e : d = D.int (lo + (i : Nat)) := by
    unfold rngD at hd
    rw [List.getElem?_map, List.getElem?_range hi] at hd
    exact (Option.some.inj hd).symm
  subst e
  refine ⟨hi, fun x H' y _ => ?_⟩
  obtain ⟨rfl, rfl⟩ := y
  exact ⟨.refl, fun _ z => z, .int _⟩
def enumD (k : Nat) : List D → List D
  | [] => []
  | d :: ds => .tup [.int (k : Nat), d] :: enumD (k + 1) ds
theorem enumD_get : ∀ {ds : List D} {k i : Nat}, (enumD k ds)[i]? = (ds[i]?).map fun d => D.tup [.int ((k + i : Nat) : Int), d]
  | [], k, i => by simp [enumD]
  | d :: ds, k, 0 => by simp [enumD]
  | d :: ds, k, i + 1 => by
    have := enumD_get (ds := ds) (k := k + 1) (i := i)
    simp only [enumD, List.getElem?_cons_succ]
    rw [this]
    have e : k + 1 + i = k + (i + 1) := by omega
    rw [e]
theorem enumD_len : ∀ {ds : List D} {k : Nat}, (enumD k ds).length = ds.length
  | [], k => rfl
  | d :: ds, k => by simp [enumD, enumD_len]
theorem good_enum {H0 : Hp} {ρ0 : Rho} {a : Addr} {vs : List V} {ds : List D} (hs : H0 a = some (.lst vs)) (hn : a ∉ ρ0) (rs : RVs G H0 ρ0 ds vs) : Good (Ite G.K a) G (enumD 0 ds) ρ0 H0 := by
  intro H ρ mo i
  have hl := (mo.keep _ _ hn (by first | exact .l | exact .f) hs).1
  have rs' := rs.mo mo
  refine ⟨fun d hd => ?_, fun hi => ⟨vs, SqL.of hl, by rw [rs.length]; rw [enumD_len] at hi; exact hi⟩⟩
  rw [enumD_get] at hd
  cases e : ds[i]? with
  | none => rw [e] at hd; cases hd
  | some d0 =>
    rw [e] at hd
    cases hd
    obtain ⟨v, hv, rv⟩ := rs'.get e
    refine ⟨⟨vs, v, SqL.of hl, hv⟩, fun x H' y ⟨M, S⟩ => ?_⟩
    obtain ⟨T, x', rfl, hT, rfl, y⟩ := y
    have e := y vs (SqL.of hl)
    rw [hv] at e; cases e
    refine ⟨Ext.new S hT, fun M' S' => S'.new hT, .tup (TpA.of upd_same) (.cons ?_ (.one (rv.mono (Ext.new S hT))))⟩
    have e0 : ((0 + i : Nat) : Int) = (i : Nat) := by omega
    rw [e0]; exact .int _
end
theorem PI.or {X : Cx} {tg e : Expr} {t t' : TI} (h : PI X tg e t) (h' : PI X tg e t') : PI X tg e (fun σ H R => t σ H R ∨ t' σ H R) :=
  ⟨fun pins s σ H R I z => z.elim (h.run pins s σ H R I) (h'.run pins s σ H R I)⟩
section
variable {X : Cx} {cl : Str → Option Addr} {W : WX} {G : Gx}
theorem si_iter {tg e : Expr} {fe : DE} (he : SE X cl W e fe) : SI X cl W tg e (dIter fe) :=
  PIweak (PI.or (pi_list he) (pi_tup he)) fun σ H R ⟨ρ, env, M, hE, hS, h⟩ => by
    have h' := post_bind h
    cases hf : fe env M with
    | bad => rw [hf] at h'; exact h'.elim
    | exc e ev M1 => exact .inl ⟨ρ, env, M, hE, hS, by rw [hf] at h' ⊢; exact h'⟩
    | ok d M1 =>
      rw [hf] at h'
      cases d with
      | lst l => exact .inl ⟨ρ, env, M, hE, hS, by
          rw [hf]
          intro ρ1 v H1 e1 S1 r1
          cases r1 with
          | lst hs hn rs => exact ⟨_, rfl, ⟨_, SqL.of hs⟩, h' ρ1 H1 _ e1 S1 (good_lst (G := gx X cl) hs hn rs)⟩⟩
      | scr ns => exact .inl ⟨ρ, env, M, hE, hS, by
          rw [hf]
          intro ρ1 v H1 e1 S1 r1
          cases r1 with
          | scr hs =>
            refine ⟨_, rfl, ⟨ns.map V.int, ?_⟩, h' ρ1 H1 _ e1 S1 (good_scr (G := gx X cl) hs)⟩
            rcases hs with ⟨h, _⟩ | h
            · exact .inl h
            · exact h H1⟩
      | tup l => exact .inr ⟨ρ, env, M, hE, hS, by
          rw [hf]
          intro ρ1 v H1 e1 S1 r1
          cases r1 with
          | tup hs rs => exact ⟨_, rfl, ⟨_, hs.1⟩, h' ρ1 H1 _ e1 S1 (good_tup (G := gx X cl) hs rs)⟩⟩
      | _ => exact h'.elim
def in62 (j : Int) : Bool := decide (-(2 ^ 62) ≤ j) && decide (j < 2 ^ 62)
theorem in62_ok {j : Int} (h : in62 j = true) : -(2 ^ 62) ≤ j ∧ j < 2 ^ 62 := by
  unfold in62 at h
  simp only [Bool.and_eq_true, decide_eq_true_eq] at h
  exact h
def dRng1 (fa : DA) : DA := fun env M => (fa env M).bind fun ds M1 => match ds with
  | [.int j] => if in62 j then .ok (rngD 0 j.toNat) M1 else .bad
  | _ => .bad
def dRng2 (fa : DA) : DA := fun env M => (fa env M).bind fun ds M1 => match ds with
  | [.int i, .int j] => if in62 i && in62 j then .ok (rngD i (j - i).toNat) M1 else .bad
  | _ => .bad
theorem si_range1 {tg a : Expr} {fa : DA} {p pos : Pos} (hg : Gl X "range") (hm : X.mg "range" = none) (ha : SA X cl W [a] fa) (hs : starEach [a] X.env = [(false, eval a X.env)] := by rfl) : SI X cl W tg (.Call (.Name "range" p) [a] [] pos) (dRng1 fa) :=
  PIweak (pi_range1 hg hm ha hs) fun σ H R ⟨ρ, env, M, hE, hS, h⟩ => by
    refine ⟨ρ, env, M, hE, hS, (post_bind h).imp (fun ds M1 hx ρ1 vs H1 e1 S1 r1 => ?_) (fun _ _ _ z => z)⟩
    split at hx
    · rename_i j
      split at hx
      · rename_i hj
        cases r1 with
        | cons q1 q2 =>
          cases q1
          cases q2
          exact ⟨j, rfl, (in62_ok hj).1, (in62_ok hj).2, hx ρ1 H1 _ e1 S1 good_rng⟩
      · exact hx.elim
    · exact hx.elim
theorem si_range2 {tg a b : Expr} {fa : DA} {p pos : Pos} (hg : Gl X "range") (hm : X.mg "range" = none) (ha : SA X cl W [a, b] fa) (hs : starEach [a, b] X.env = [(false, eval a X.env), (false, eval b X.env)] := by rfl) (hs2 : starEach [b] X.env = [(false, eval b X.env)] := by rfl) :
    SI X cl W tg (.Call (.Name "range" p) [a, b] [] pos) (dRng2 fa) :=
  PIweak (pi_range2 hg hm ha hs hs2) fun σ H R ⟨ρ, env, M, hE, hS, h⟩ => by
    refine ⟨ρ, env, M, hE, hS, (post_bind h).imp (fun ds M1 hx ρ1 vs H1 e1 S1 r1 => ?_) (fun _ _ _ z => z)⟩
    split at hx
    · rename_i i j
      split at hx
      · rename_i hj
        rw [Bool.and_eq_true] at hj
        cases r1 with
        | cons q1 q2 =>
          cases q1
          cases q2 with
          | cons q2 q3 =>
            cases q2
            cases q3
            exact ⟨i, j, rfl, ⟨(in62_ok hj.1).1, (in62_ok hj.1).2, (in62_ok hj.2).1, (in62_ok hj.2).2⟩, hx ρ1 H1 _ e1 S1 good_rng⟩
      · exact hx.elim
    · exact hx.elim
abbrev DF := List D → Sto → Out D
def spD (G : Gx) (F : DF) : Sp := fun vs H Q _ => ∃ ρ M ds, RS G H ρ M ∧ RVs G H ρ ds vs ∧ (F ds M).post (oP G H ρ Q) (fun _ _ _ => False)
def dCall (F : DF) (fa : DA) : DE := fun env M => (fa env M).bind fun ds M1 => noex (F ds M1)
theorem noexF {α : Type} {o : Out α} {Q : α → Sto → Prop} {E : Exn → En → Sto → Prop} (h : (noex o).post Q E) : o.post Q (fun _ _ _ => False) := noex_post h
theorem se_call {F : DF} {k : Nat} {f : Addr} {fd : FuncData} {ps : List Str} {x : Str} {e : Expr} {es : List Expr} {fa : DA} {p pos : Pos} (Fk : FnOk X.prog X.w X.K X.mg X.base CX0 k f fd ps (spD (gx X cl) F)) (hr : Room k X.A) (hg : Gl X x) (hm : X.mg x = some (.ref f)) (hk : PySem.W.keepIn X.K (.ref f) = true) (hb : Binds X.K fd ps [])
    (ha : SA X cl W (e :: es) fa) (hdb : (x == ("__debug__" : Str)) = false := by decide) (he : starEach (e :: es) X.env = (false, eval e X.env) :: starEach es X.env := by rfl) (hpl : (backTo pos (starEach es X.env)).any (·.1) = false := by rfl) :
    SE X cl W (.Call (.Name x p) (e :: es) [] pos) (dCall F fa) :=
  PEweak (pe_call Fk hr hg hm hk hb .nil (E := E0) pass0 ha hdb he hpl) fun σ H Q ⟨ρ, env, M, hE, hS, h⟩ => by
    refine ⟨ρ, env, M, hE, hS, (post_bind h).imp (fun ds M1 hx ρ1 vs H1 e1 S1 r1 => ?_) (fun _ _ _ z => z)⟩
    show spD (gx X cl) F (vs ++ []) H1 Q E0
    rw [List.append_nil]
    exact ⟨ρ1, M1, ds, S1, r1, (noexF hx).imp (fun _ _ z => oP.sh e1 z) (fun _ _ _ z => z)⟩
def runF (n m : Nat) (fb : DS) : DF := fun ds M => if ds.length = m then (fb (ds.map some ++ List.replicate (n - m) none) M).bind fun fl M1 => match fl with
    | .nx _ => .ok .non M1
    | .rt d => .ok d M1
    | _ => .bad
  else .bad
theorem runF_len {n m : Nat} {fb : DS} {ds : List D} {M : Sto} {Q : D → Sto → Prop} {E : Exn → En → Sto → Prop} (h : (runF n m fb ds M).post Q E) : ds.length = m ∧ ((fb (ds.map some ++ List.replicate (n - m) none) M).bind fun fl M1 => match fl with
    | .nx _ => Out.ok D.non M1
    | .rt d => .ok d M1
    | _ => .bad).post Q E := by
  unfold runF at h
  split at h
  · exact ⟨by assumption, h⟩
  · exact h.elim
theorem RE.start {H : Hp} {ρ : Rho} {N : List Str} {ds : List D} {vs : List V} (r : RVs G H ρ ds vs) : RE G H ρ (ds.map some ++ List.replicate (N.length - ds.length) none) (start N vs) := by
  have hl := r.length
  refine ⟨by simp [L2.start, hl], fun i d h => ?_⟩
  by_cases hi : i < ds.length
  · rw [List.getElem?_append_left (by simpa using hi)] at h
    rw [List.getElem?_map] at h
    cases e : ds[i]? with
    | none => rw [e] at h; cases h
    | some d0 =>
      rw [e] at h
      cases h
      obtain ⟨v, hv, rv⟩ := r.get e
      refine ⟨v, ?_, rv⟩
      unfold L2.start
      rw [List.getElem?_append_left (by simp [hl]; exact hi), List.getElem?_map, hv]
      rfl
  · rw [List.getElem?_append_right (by simpa using hi)] at h
    rw [List.getElem?_replicate] at h
    split at h
    · cases h
    · cases h
theorem fnok {P : Program} {w : World} {K : PySem.W.Frag} {mg : Str → Option Value} {base : Heap} {cl : Str → Option Addr} {x qual : Str} {st : Stmt} {f : Addr} {fd : FuncData} {N ps : List Str} {k : Nat} {fb : DS} (F : Fun K x qual st f fd) (S : FnScope N ps (defScope st))
    (hb : ∀ (cdv : Value) (A : Around) (outer : List Env) (s : Shared) (H : Hp) (E : XK), Room k (A.deeper (envOfC qual (defScope st) s.heap.objs.size f cdv)) → SSs (cxOf CX0 P w K mg base N qual (defScope st) f cdv A outer s H E).nox cl W0 (defBody st) fb) :
    FnOk P w K mg base CX0 (k + 1) f fd ps (spD ⟨K, cl⟩ (runF N.length ps.length fb)) := by
  refine F.ok S (fun vs H Q E ⟨ρ, M, ds, hS, r, h⟩ => by rw [r.length]; exact (runF_len h).1) fun cdv A outer s H vs Q E hr ⟨ρ, M, ds, hS, r, h⟩ => ⟨_, hb cdv A outer s H E hr, ?_⟩
  obtain ⟨hl, h⟩ := runF_len h
  rw [← hl] at h
  refine ⟨ρ, _, M, RE.start (N := N) r, hS, (post_bind h).imp (fun fl M1 hx => ?_) (fun _ _ _ z => z.elim)⟩
  cases fl with
  | nx env => exact fun ρ1 σ1 H1 e1 S1 E1 => hx ρ1 .non H1 e1 S1 .non
  | rt d => exact hx
  | bk env => exact hx.elim
  | ct env => exact hx.elim
end
end Ip
end
section
set_option Elab.async false
set_option linter.all false
set_option maxRecDepth 100000
set_option maxHeartbeats 4000000
set_option autoImplicit false
namespace Ip
open PySem PyProof.Rows L2
mutual
def closed (k : Nat) : D → Bool
  | .tup l => closedAll k l
  | .lst l => closedAll k l
  | .obj _ _ l => closedAll k l
  | .ref n => decide (n < k)
  | .non => true
  | .bl _ => true
  | .int _ => true
  | .str _ => true
  | .scr _ => true
  | .ty _ => true
  | .cls _ => true
  | .dK _ l => closedAll k l
  | .dT _ l => closedAll k l
def closedAll (k : Nat) : List D → Bool
  | [] => true
  | d :: ds => closed k d && closedAll k ds
end
def cellClosed (k : Nat) : Cell → Bool
  | .lst ds => closedAll k ds
  | .ins _ _ ds => closedAll k ds
  | .dK _ ds => closedAll k ds
  | .dT _ ds => closedAll k ds
def thaw (k : Nat) (M : Sto) (d : D) : Option D := match d with
  | .ref n => if n < k then some (.ref n) else match M[n]? with
    | some (.lst ds) => if closedAll k ds then some (.lst ds) else none
    | some (.ins c ks ds) => if closedAll k ds then some (.obj c ks ds) else none
    | some (.dK ks ds) => if closedAll k ds then some (.dK ks ds) else none
    | some (.dT ks ds) => if closedAll k ds then some (.dT ks ds) else none
    | none => none
  | d => if closed k d then some d else none
def frzO (k : Nat) (d : D) (M1 : Sto) : Out D := match thaw k M1 d with
  | some d' => if (M1.take k).all (cellClosed k) then .ok d' (M1.take k) else .bad
  | none => .bad
def frz (F : DF) : DF := fun ds M => (F ds M).bind fun d M1 => frzO M.length d M1
section
variable {G : Gx} {H : Hp} {ρ : Rho} {k : Nat}
def Rho.cut (ρ : Rho) (k : Nat) : Rho := ⟨ρ.c.take k, ρ.t⟩
theorem Rho.cut_sub {a : Addr} (h : a ∉ ρ) : a ∉ ρ.cut k := fun z => by
  rcases z with z | z
  · exact h (.inl (List.mem_of_mem_take z))
  · exact h (.inr z)
mutual
theorem RV.cut : ∀ {d : D} {v : V}, RV G H ρ d v → closed k d = true → RV G H (ρ.cut k) d v
  | _, _, .non, _ => .non
  | _, _, .bl b, _ => .bl b
  | _, _, .int i, _ => .int i
  | _, _, .str s, _ => .str s
  | _, _, .ty s, _ => .ty s
  | _, _, .tup h r, c => .tup h (RVs.cut r (by simpa [closed] using c))
  | _, _, .lst h n r, c => .lst h (Rho.cut_sub n) (RVs.cut r (by simpa [closed] using c))
  | _, _, .scr h, _ => .scr (h.elim (fun z => .inl ⟨z.1, Rho.cut_sub z.2⟩) .inr)
  | _, _, .ref (n := n) (a := a) h, c => .ref (by
      have c' : n < k := by simpa [closed] using c
      show (ρ.c.take k)[n]? = some a
      rw [List.getElem?_take_of_lt c']; exact h)
  | _, _, .obj c h l n r, z => .obj c h l (Rho.cut_sub n) (RVs.cut r (by simpa [closed] using z))
  | _, _, .cls h, _ => .cls h
  | _, _, .dK h l n r, z => .dK h l (Rho.cut_sub n) (RVs.cut r (by simpa [closed] using z))
  | _, _, .dT h l n r, z => .dT h l (Rho.cut_sub n) (RVs.cut r (by simpa [closed] using z))
theorem RVs.cut : ∀ {ds : List D} {vs : List V}, RVs G H ρ ds vs → closedAll k ds = true → RVs G H (ρ.cut k) ds vs
  | _, _, .nil, _ => .nil
  | _, _, .cons a b, c => by
    simp only [closedAll, Bool.and_eq_true] at c
    exact .cons (RV.cut a c.1) (RVs.cut b c.2)
end
theorem RS.cut {M : Sto} (S : RS G H ρ M) (hc : (M.take k).all (cellClosed k) = true) : RS G H (ρ.cut k) (M.take k) := by
  refine ⟨by show (ρ.c.take k).length = _; simp [S.len], S.nd.sublist (List.take_sublist _ _), fun a ha => S.dis a (List.mem_of_mem_take ha), S.trt, fun n c h => ?_, S.tb⟩
  have hn : n < k := by
    have := (List.getElem?_eq_some_iff.mp h).1
    simp at this; omega
  have hcc : cellClosed k c = true := List.all_eq_true.mp hc c (List.mem_of_getElem? h)
  rw [List.getElem?_take_of_lt hn] at h
  obtain ⟨a, ha, q⟩ := S.at_ n c h
  refine ⟨a, by show (ρ.c.take k)[n]? = some a; rw [List.getElem?_take_of_lt hn]; exact ha, ?_⟩
  cases c with
  | lst ds => obtain ⟨vs, e, r⟩ := q; exact ⟨vs, e, r.cut hcc⟩
  | ins c ks ds => obtain ⟨C, dx, vs, e0, e, l, r⟩ := q; exact ⟨C, dx, vs, e0, e, l, r.cut hcc⟩
  | dK ks ds => obtain ⟨vs, e, l, r⟩ := q; exact ⟨vs, e, l, r.cut hcc⟩
  | dT ks ds => obtain ⟨vs, e, l, r⟩ := q; exact ⟨vs, e, l, r.cut hcc⟩
theorem cut_notin {M : Sto} (S : RS G H ρ M) {n : Nat} {a : Addr} (hn : k ≤ n) (h : ρ.c[n]? = some a) : a ∉ ρ.cut k := fun z => by
  rcases z with z | z
  · have z' : a ∈ ρ.c.take k := z
    obtain ⟨m, hm, e⟩ := List.getElem_of_mem z'
    have hm' : m < k := by
      rw [List.length_take] at hm; omega
    have : ρ.c[m]? = some a := by
      have q : (ρ.c.take k)[m]? = some a := by rw [List.getElem?_eq_getElem hm, e]
      rw [List.getElem?_take_of_lt hm'] at q; exact q
    have := nodup_at S.nd this h
    omega
  · exact S.dis a (List.mem_of_getElem? h) z
theorem thaw_ok {M : Sto} (S : RS G H ρ M) {d d' : D} {v : V} (r : RV G H ρ d v) (h : thaw k M d = some d') : RV G H (ρ.cut k) d' v := by
  cases r with
  | ref hn =>
    rename_i n a
    have h' : (if n < k then some (D.ref n) else match M[n]? with
      | some (.lst ds) => if closedAll k ds then some (D.lst ds) else none
      | some (.ins c ks ds) => if closedAll k ds then some (D.obj c ks ds) else none
      | some (.dK ks ds) => if closedAll k ds then some (D.dK ks ds) else none
      | some (.dT ks ds) => if closedAll k ds then some (D.dT ks ds) else none
      | none => none) = some d' := h
    split at h'
    · rename_i hlt
      cases h'
      exact .ref (by show (ρ.c.take k)[n]? = some a; rw [List.getElem?_take_of_lt hlt]; exact hn)
    · rename_i hge
      split at h'
      · rename_i ds hm
        split at h'
        · rename_i hc
          cases h'
          obtain ⟨b, hb, vs, e, r⟩ := S.at_ _ _ hm
          rw [hn] at hb; cases hb
          exact .lst e (cut_notin S (by omega) hn) (r.cut hc)
        · cases h'
      · rename_i c ks ds hm
        split at h'
        · rename_i hc
          cases h'
          obtain ⟨b, hb, C, dx, vs, e0, e, l, r⟩ := S.at_ _ _ hm
          rw [hn] at hb; cases hb
          exact .obj e0 e l (cut_notin S (by omega) hn) (r.cut hc)
        · cases h'
      · rename_i ks ds hm
        split at h'
        · rename_i hc
          cases h'
          obtain ⟨b, hb, vs, e, l, r⟩ := S.at_ _ _ hm
          rw [hn] at hb; cases hb
          exact .dK e l (cut_notin S (by omega) hn) (r.cut hc)
        · cases h'
      · rename_i ks ds hm
        split at h'
        · rename_i hc
          cases h'
          obtain ⟨b, hb, vs, e, l, r⟩ := S.at_ _ _ hm
          rw [hn] at hb; cases hb
          exact .dT (.inl e) l (cut_notin S (by omega) hn) (r.cut hc)
        · cases h'
      · cases h'
  | non => cases (show (if closed k .non then some D.non else none) = some d' from h); exact .non
  | bl b => cases (show (if closed k (.bl b) then some (D.bl b) else none) = some d' from h); exact .bl b
  | int i => cases (show (if closed k (.int i) then some (D.int i) else none) = some d' from h); exact .int i
  | str s => cases (show (if closed k (.str s) then some (D.str s) else none) = some d' from h); exact .str s
  | ty s => cases (show (if closed k (.ty s) then some (D.ty s) else none) = some d' from h); exact .ty s
  | scr hs =>
    rename_i a ns
    cases (show (if closed k (.scr ns) then some (D.scr ns) else none) = some d' from h); exact RV.cut (.scr hs) rfl
  | tup hs rs =>
    unfold thaw at h
    have h' := h
    simp only at h'
    split at h'
    · rename_i hc
      cases h'
      exact RV.cut (.tup hs rs) hc
    · cases h'
  | lst hs hn rs =>
    unfold thaw at h
    have h' := h
    simp only at h'
    split at h'
    · rename_i hc
      cases h'
      exact RV.cut (.lst hs hn rs) hc
    · cases h'
  | obj e0 hs l hn rs =>
    unfold thaw at h
    have h' := h
    simp only at h'
    split at h'
    · rename_i hc
      cases h'
      exact RV.cut (.obj e0 hs l hn rs) hc
    · cases h'
  | cls e0 => cases h; exact .cls e0
  | dK hs l hn rs =>
    unfold thaw at h
    have h' := h
    simp only at h'
    split at h'
    · rename_i hc
      cases h'
      exact RV.cut (.dK hs l hn rs) hc
    · cases h'
  | dT hs l hn rs =>
    unfold thaw at h
    have h' := h
    simp only at h'
    split at h'
    · rename_i hc
      cases h'
      exact RV.cut (.dT hs l hn rs) hc
    · cases h'
theorem Ext.cut {H' : Hp} {ρ' : Rho} {M M' : Sto} (S : RS G H ρ M) (e : Ext G H ρ H' ρ') : Ext G H ρ H' (ρ'.cut M.length) :=
  ⟨fun n a h => by
    have hn : n < M.length := by rw [← S.len]; exact (List.getElem?_eq_some_iff.mp h).1
    show (ρ'.c.take M.length)[n]? = some a
    rw [List.getElem?_take_of_lt hn]; exact e.pre n a h, e.res, e.same, e.tup, fun a o h1 nt h2 => ⟨(e.keep a o h1 nt h2).1, Rho.cut_sub (e.keep a o h1 nt h2).2⟩⟩
theorem frzO_ok {M M1 : Sto} {d : D} {Q : VK} {E : Exn → En → Sto → Prop} (S : RS G H ρ M) (h : (frzO M.length d M1).post (oP G H ρ Q) E) : oP G H ρ Q d M1 := by
  unfold frzO at h
  split at h
  · rename_i d' hd
    split at h
    · rename_i hc
      intro ρ1 v H1 e1 S1 r1
      exact h (ρ1.cut M.length) v H1 (Ext.cut (M' := M1) S e1) (S1.cut hc) (thaw_ok S1 r1 hd)
    · exact h.elim
  · exact h.elim
end
theorem spD_frz {G : Gx} {F : DF} {vs : List V} {H : Hp} {Q : VK} {E : XK} (h : spD G (frz F) vs H Q E) : spD G F vs H Q E := by
  obtain ⟨ρ, M, ds, S, r, h⟩ := h
  exact ⟨ρ, M, ds, S, r, (post_bind h).imp (fun d M1 hx => frzO_ok S hx) (fun _ _ _ z => z)⟩
theorem fn_frz {P : Program} {w : World} {K : PySem.W.Frag} {mg : Str → Option Value} {base : Heap} {k : Nat} {f : Addr} {fd : FuncData} {ps : List Str} {G : Gx} {F : DF} (h : FnOk P w K mg base CX0 k f fd ps (spD G F)) : FnOk P w K mg base CX0 k f fd ps (spD G (frz F)) :=
  h.imp fun _ _ _ _ z => spD_frz z
section
variable {X : Cx} {cl : Str → Option Addr} {W : WX} {G : Gx}
theorem zip_lookup {H : Hp} {ρ : Rho} {f : Str} : ∀ {ks : List Str} {ds : List D} {vs : List V} {d : D}, RVs G H ρ ds vs → (ks.zip ds).lookup f = some d → ∃ v, (ks.zip vs).lookup f = some v ∧ RV G H ρ d v
  | [], _, _, _, _, h => by simp at h
  | _ :: _, _, _, _, .nil, h => by simp at h
  | k :: ks, _, _, d, .cons r rs, h => by
    rw [List.zip_cons_cons, List.lookup_cons] at h
    rw [List.zip_cons_cons, List.lookup_cons]
    cases e : f == k with
    | true => rw [e] at h; cases h; exact ⟨_, rfl, r⟩
    | false => rw [e] at h; exact zip_lookup rs h
theorem zip_none {f : Str} : ∀ {ks : List Str} {ds : List D} {vs : List V}, vs.length = ds.length → (ks.zip ds).lookup f = none → (ks.zip vs).lookup f = none
  | [], _, _, _, _ => by simp
  | _ :: _, [], vs, hl, _ => by
    cases vs with
    | nil => simp
    | cons _ _ => simp at hl
  | k :: ks, d :: ds, [], hl, _ => by simp at hl
  | k :: ks, d :: ds, v :: vs, hl, h => by
    rw [List.zip_cons_cons, List.lookup_cons] at h
    rw [List.zip_cons_cons, List.lookup_cons]
    cases e : f == k with
    | true => rw [e] at h; cases h
    | false => rw [e] at h; exact zip_none (by simpa using hl) h
def objOf (c : Str) (x : D) (M : Sto) : Option (List Str × List D) := match x with
  | .obj c' ks ds => if c' = c then some (ks, ds) else none
  | .ref n => match M[n]? with
    | some (.ins c' ks ds) => if c' = c then some (ks, ds) else none
    | _ => none
  | _ => none
theorem objOf_ok {c : Str} {C : Addr} (hC : G.cl c = some C) {H : Hp} {ρ : Rho} {M : Sto} {x : D} {v : V} {ks : List Str} {ds : List D} (S : RS G H ρ M) (r : RV G H ρ x v) (h : objOf c x M = some (ks, ds)) :
    ∃ a dx vs, v = .ref a ∧ H a = some (.ins C dx (ks.zip vs)) ∧ ks.length = vs.length ∧ RVs G H ρ ds vs := by
  cases r with
  | obj e0 hs l hn rs =>
    unfold objOf at h
    have h' := h
    simp only at h'
    split at h'
    · rename_i ec
      cases h'
      subst ec
      rw [hC] at e0; cases e0
      exact ⟨_, _, _, rfl, hs, l, rs⟩
    · cases h'
  | ref hn =>
    rename_i n a
    have h' : (match M[n]? with
      | some (.ins c' ks ds) => if c' = c then some (ks, ds) else none
      | _ => none) = some (ks, ds) := h
    split at h'
    · rename_i c' ks' ds' hm
      split at h'
      · rename_i ec
        cases h'
        subst ec
        obtain ⟨b, hb, C', dx, vs, e0, e, l, rs⟩ := S.at_ _ _ hm
        rw [hn] at hb; cases hb
        rw [hC] at e0; cases e0
        exact ⟨_, _, _, rfl, e, l, rs⟩
      · cases h'
    · cases h'
  | _ => cases h
def dFld (c f : Str) (fe : DE) : DE := fun env M => (fe env M).bind fun x M1 => match objOf c x M1 with
  | some (ks, ds) => match (ks.zip ds).lookup f with
    | some d => .ok d M1
    | none => .bad
  | none => .bad
theorem se_fld {c f : Str} {C : Addr} {e : Expr} {fe : DE} {pos : Pos} (hC : cl c = some C) (k : Cls X.K C) (na : NoAttr X.K C f) (he : SE X cl W e fe) (hb : attributeBase e f X.env (eval e X.env) = eval e X.env := by rfl) : SE X cl W (.Attribute e f pos) (dFld c f fe) :=
  PEweak (pe_fld he hb) fun σ H Q ⟨ρ, env, M, hE, hS, h⟩ => by
    refine ⟨ρ, env, M, hE, hS, (post_bind h).imp (fun x M1 hx ρ1 v H1 e1 S1 r1 => ?_) (fun _ _ _ z => z)⟩
    split at hx
    · rename_i ks ds ho
      split at hx
      · rename_i d hd
        obtain ⟨a, dx, vs, rfl, ha, hl, rs⟩ := objOf_ok (G := gx X cl) hC S1 r1 ho
        obtain ⟨u, hu, ru⟩ := zip_lookup rs hd
        exact ⟨a, C, dx, _, u, rfl, ha, k, na, hu, hx ρ1 u H1 e1 S1 ru⟩
      · exact hx.elim
    · exact hx.elim
def putKs (f : Str) : List Str → List Str
  | [] => [f]
  | g :: r => if g = f then g :: r else g :: putKs f r
def putVs {α : Type} (f : Str) (x : α) : List Str → List α → List α
  | [], _ => [x]
  | g :: r, y :: ys => if g = f then x :: ys else y :: putVs f x r ys
  | _ :: _, [] => []
theorem putF_zip {f : Str} {v : V} : ∀ {ks : List Str} {vs : List V}, ks.length = vs.length → putF f v (ks.zip vs) = (putKs f ks).zip (putVs f v ks vs) ∧ (putKs f ks).length = (putVs f v ks vs).length
  | [], [], _ => ⟨rfl, rfl⟩
  | [], _ :: _, h => by simp at h
  | _ :: _, [], h => by simp at h
  | k :: ks, w :: vs, h => by
    have ih := putF_zip (f := f) (v := v) (ks := ks) (vs := vs) (by simpa using h)
    show (if k = f then (k, v) :: ks.zip vs else (k, w) :: putF f v (ks.zip vs)) = _ ∧ _
    unfold putKs putVs
    split
    · exact ⟨rfl, by simpa using h⟩
    · rw [ih.1]
      exact ⟨rfl, by simp [ih.2]⟩
theorem putVs_rv {H : Hp} {ρ : Rho} {f : Str} {d : D} {v : V} (r : RV G H ρ d v) : ∀ {ks : List Str} {ds : List D} {vs : List V}, RVs G H ρ ds vs → RVs G H ρ (putVs f d ks ds) (putVs f v ks vs)
  | [], _, _, _ => .one r
  | k :: ks, _, _, .nil => .nil
  | k :: ks, _, _, .cons q qs => by
    unfold putVs
    split
    · exact .cons r qs
    · exact .cons q (putVs_rv r qs)
def dSetFld (c f : Str) (fo fe : DE) : DS := fun env M => (fe env M).bind fun y M1 => (fo env M1).bind fun x M2 => match x with
  | .ref n => match M2[n]? with
    | some (.ins c' ks ds) => if c' = c ∧ ks.length < 1000 then .ok (.nx env) (M2.set n (.ins c' (putKs f ks) (putVs f y ks ds))) else .bad
    | _ => .bad
  | _ => .bad
theorem ss_fld {c f : Str} {C : Addr} {o e : Expr} {fo fe : DE} {pos pos' : Pos} (hC : cl c = some C) (k : Cls X.K C) (na : NoAttr X.K C f) (ho : SE X cl W o fo) (he : SE X cl W e fe) (hs : swapsWith e (some (.Attribute o f pos')) pos.line X.env = pure false := by rfl) : SS X cl W (.Assign [.Attribute o f pos'] e pos) (dSetFld c f fo fe) :=
  PSweak (ps_fld ho he hs) fun D σ H ⟨ρ, env, M, hE, hS, h⟩ => by
    refine ⟨ρ, env, M, hE, hS, (post_bind h).imp (fun y M1 hy ρ1 v H1 e1 S1 r1 => ?_) (fun _ _ _ z => z)⟩
    refine ⟨ρ1, env, M1, hE.mono e1, S1, (post_bind hy).imp (fun x M2 hx ρ2 w H2 e2 S2 r2 => ?_) (fun _ _ _ z => eP.sh e1 z)⟩
    cases r2 with
    | ref hn =>
      rename_i n a
      have hx' : (match M2[n]? with
        | some (.ins c' ks ds) => if c' = c ∧ ks.length < 1000 then Out.ok (Fl.nx env) (M2.set n (.ins c' (putKs f ks) (putVs f y ks ds))) else .bad
        | _ => .bad).post (sP (gx X cl) H ρ D) (eP (gx X cl) W H ρ) := hx
      split at hx'
      · rename_i c' ks ds hm
        split at hx'
        · rename_i hcc
          obtain ⟨rfl, hl⟩ := hcc
          obtain ⟨b, hb, C', dx, vs, e0, ea, l, rs⟩ := S2.at_ _ _ hm
          rw [hn] at hb; cases hb
          have e0' : cl c' = some C' := e0
          rw [hC] at e0'; cases e0'
          have x3 : Ext (gx X cl) H2 ρ2 (upd H2 a (.ins C dx (putF f v (ks.zip vs)))) ρ2 := Ext.write S2 hn
          refine ⟨a, C, dx, _, rfl, ea, k, na, by rw [List.length_zip, ← l]; omega, hx' ρ2 σ _ (e1.trans (e2.trans x3)) (S2.write hn ⟨C, dx, putVs f v ks vs, e0, ?_, (putF_zip l).2, ?_⟩) (hE.mono (e1.trans (e2.trans x3)))⟩
          · rw [upd_same, (putF_zip l).1]
          · exact (putVs_rv (r1.mono e2) rs).mono x3
        · exact hx'.elim
      · exact hx'.elim
    | _ => exact hx.elim
def dMeth (c m : Str) (F : DF) (fo : DE) (fa : DA) : DE := fun env M => (fo env M).bind fun x M1 => match objOf c x M1 with
  | some (ks, ds) => match (ks.zip ds).lookup m with
    | none => (fa env M1).bind fun as M2 => noex (F (x :: as) M2)
    | some _ => .bad
  | none => .bad
theorem meth_ok {c m : Str} {C : Addr} (hC : G.cl c = some C) {F : DF} {fo : DE} {fa : DA} {σ : L2.St} {H : Hp} {Q : VK} (h : dE G W (dMeth c m F fo fa) σ H Q) : tMeth C m (spD G F) [] E0 (dE G W fo) (dA G W fa) σ H Q := by
  obtain ⟨ρ, env, M, hE, hS, h⟩ := h
  refine ⟨ρ, env, M, hE, hS, (post_bind h).imp (fun x M1 hx ρ1 v H1 e1 S1 r1 => ?_) (fun _ _ _ z => z)⟩
  split at hx
  · rename_i ks ds ho
    split at hx
    · rename_i hnone
      obtain ⟨a, dx, vs, rfl, ha, hl, rs⟩ := objOf_ok hC S1 r1 ho
      refine ⟨a, dx, _, rfl, ha, zip_none rs.length hnone, ρ1, env, M1, hE.mono e1, S1, (post_bind hx).imp (fun as M2 hy ρ2 ws H2 e2 S2 r2 => ?_) (fun _ _ _ z => eP.sh e1 z)⟩
      show spD G F (.ref a :: (ws ++ [])) H2 Q E0
      rw [List.append_nil]
      exact ⟨ρ2, M2, x :: as, S2, .cons (r1.mono e2) r2, (noexF hy).imp (fun _ _ z => oP.sh (e1.trans e2) z) (fun _ _ _ z => z)⟩
    · exact hx.elim
  · exact hx.elim
theorem se_meth0 {c m : Str} {C f : Addr} {k : Nat} {fd : FuncData} {ps : List Str} {F : DF} {o : Expr} {fo : DE} {apos pos : Pos} {pl : Sem Bool} (hC : cl c = some C) (ho : SE X cl W o fo) (kc : Cls X.K C) (hm : Meth X.K C m f) (Fk : FnOk X.prog X.w X.K X.mg X.base CX0 k f fd ps (spD (gx X cl) F)) (hr : Room k X.A) (hb : Binds X.K fd ps [])
    (ht : eval (.Call (.Attribute o m apos) [] [] pos) X.env = (do
      let ov ← eval o X.env
      standAt apos.atName
      let (f, first) ← holding [ov] (getMethod ov m pl)
      callWith pos f first (backTo pos (starEach [] X.env)) (backToKw pos (keywordEach [] X.env))) := by rfl) :
    SE X cl W (.Call (.Attribute o m apos) [] [] pos) (dMeth c m F fo dNilA) :=
  PEweak (pe_meth0 ho kc hm Fk hr hb .nil (E := E0) pass0 ht) fun σ H Q h => by
    have q := meth_ok (G := gx X cl) hC h
    obtain ⟨ρ, env, M, hE, hS, q⟩ := q
    refine ⟨ρ, env, M, hE, hS, q.imp (fun x M1 hx ρ1 v H1 e1 S1 r1 => ?_) (fun _ _ _ z => z)⟩
    obtain ⟨a, dx, fs, e, ha, hn, z⟩ := hx ρ1 v H1 e1 S1 r1
    refine ⟨a, dx, fs, e, ha, hn, ?_⟩
    obtain ⟨ρ2, env2, M2, E2, S2, z⟩ := z
    exact z ρ2 [] H1 .refl S2 .nil
def dMake (c : Str) (F : DF) (fa : DA) : DE := fun env M => (fa env M).bind fun ds M1 => (noex (F (.ref M1.length :: ds) (M1 ++ [.ins c [] []]))).bind fun d M2 => match d with
  | .non => frzO M1.length (.ref M1.length) M2
  | _ => .bad
theorem se_make {c : Str} {C f : Addr} {k : Nat} {fd : FuncData} {ps : List Str} {F : DF} {x : Str} {e : Expr} {es : List Expr} {fa : DA} {p pos : Pos} (hC : cl c = some C) (Mk' : Mk X.K C f) (Fk : FnOk X.prog X.w X.K X.mg X.base CX0 k f fd ps (spD (gx X cl) F)) (hr : Room (k + 1) X.A) (hg : Gl X x) (hm : X.mg x = some (.ref C)) (hb : Binds X.K fd ps [])
    (ha : SA X cl W (e :: es) fa) (hdb : (x == ("__debug__" : Str)) = false := by decide) (he : starEach (e :: es) X.env = (false, eval e X.env) :: starEach es X.env := by rfl) (hpl : (backTo pos (starEach es X.env)).any (·.1) = false := by rfl) :
    SE X cl W (.Call (.Name x p) (e :: es) [] pos) (dMake c F fa) :=
  PEweak (pe_make Mk' Fk hr hg hm hb .nil (E := E0) pass0 ha hdb he hpl) fun σ H Q ⟨ρ, env, M, hE, hS, h⟩ => by
    refine ⟨ρ, env, M, hE, hS, (post_bind h).imp (fun ds M1 hx ρ1 vs H1 e1 S1 r1 x dx nx ndx nex => ?_) (fun _ _ _ z => z)⟩
    show spD (gx X cl) F (.ref x :: (vs ++ [])) _ _ E0
    rw [List.append_nil]
    have S2 : RS (gx X cl) (upd H1 dx (.own x)) ρ1 M1 := S1.new ndx
    have x2 : Ext (gx X cl) H1 ρ1 (upd H1 dx (.own x)) ρ1 := Ext.new S1 ndx
    have nx2 : upd H1 dx (.own x) x = none := by rw [upd_ne (Ne.symm nex)]; exact nx
    have x3 : Ext (gx X cl) (upd H1 dx (.own x)) ρ1 (upd (upd H1 dx (.own x)) x (.ins C dx [])) (ρ1.add x) := Ext.cell S2 nx2
    have S3 : RS (gx X cl) (upd (upd H1 dx (.own x)) x (.ins C dx [])) (ρ1.add x) (M1 ++ [.ins c [] []]) := S2.cell nx2 ⟨C, dx, [], hC, upd_same, rfl, .nil⟩
    refine ⟨ρ1.add x, _, .ref M1.length :: ds, S3, .cons (.ref S1.at_new) ((r1.mono x2).mono x3), (noexF (post_bind hx)).imp (fun d M2 hd ρ4 v H4 e4 S4 r4 => ?_) (fun _ _ _ z => z)⟩
    split at hd
    · cases r4
      refine ⟨rfl, frzO_ok (H := H1) (ρ := ρ1) S1 (hd.imp (fun _ _ z => oP.sh e1 z) (fun _ _ _ z => z)) ρ4 (.ref x) H4 (x2.trans (x3.trans e4)) S4 (.ref (e4.pre _ _ S1.at_new))⟩
    · exact hd.elim
end
end Ip
end
section
set_option Elab.async false
set_option linter.all false
set_option maxRecDepth 100000
set_option maxHeartbeats 4000000
set_option autoImplicit false
namespace Ip
open PySem PyProof.Rows L2
section
variable {X : Cx} {cl : Str → Option Addr} {W : WX} {G : Gx}
/-- a list, tree or cell -/
def asL (x : D) (M : Sto) : Option (List D) := match x with
  | .lst l => some l
  | .ref n => match M[n]? with
    | some (.lst l) => some l
    | _ => none
  | _ => none
theorem asL_ok {H : Hp} {ρ : Rho} {M : Sto} {x : D} {v : V} {l : List D} (S : RS G H ρ M) (r : RV G H ρ x v) (h : asL x M = some l) : ∃ a vs, v = .ref a ∧ H a = some (.lst vs) ∧ RVs G H ρ l vs := by
  cases r with
  | lst hs hn rs => cases h; exact ⟨_, _, rfl, hs, rs⟩
  | ref hn =>
    rename_i n a
    have h' : (match M[n]? with
      | some (.lst l) => some l
      | _ => none) = some l := h
    split at h'
    · rename_i l' hm
      cases h'
      obtain ⟨b, hb, vs, e, rs⟩ := S.at_ _ _ hm
      rw [hn] at hb; cases hb
      exact ⟨_, _, rfl, e, rs⟩
    · cases h'
  | _ => cases h
theorem oP.new {H : Hp} {ρ : Rho} {M : Sto} {Q : VK} {d : D} {p : Addr} {o : HO} (h : oP G H ρ Q d M) (S : RS G H ρ M) (hp : H p = none) (r : RV G (upd H p o) ρ d (.ref p)) : Q (.ref p) (upd H p o) := h ρ _ _ (Ext.new S hp) (S.new hp) r
theorem RV.newL {H : Hp} {ρ : Rho} {M : Sto} {ds : List D} {vs : List V} {p : Addr} (S : RS G H ρ M) (hp : H p = none) (r : RVs G H ρ ds vs) : RV G (upd H p (.lst vs)) ρ (.lst ds) (.ref p) := .lst upd_same (S.fresh hp) (r.mono (Ext.new S hp))
theorem RV.newT {H : Hp} {ρ : Rho} {M : Sto} {ds : List D} {vs : List V} {p : Addr} (S : RS G H ρ M) (hp : H p = none) (r : RVs G H ρ ds vs) : RV G (upd H p (.tup vs)) ρ (.tup ds) (.ref p) := .tup (TpA.of upd_same) (r.mono (Ext.new S hp))
def gInt (f : Int → Int → Int) : G2 := fun x y M => match x, y with
  | .int i, .int j => some (.int (f i j), M)
  | _, _ => none
def gIntB (f : Int → Int → Bool) : G2 := fun x y M => match x, y with
  | .int i, .int j => some (.bl (f i j), M)
  | _, _ => none
theorem ops_int {f : Int → Int → Int} : OpS G (rI0 fun i j => .int (f i j)) (gInt f) := fun H ρ M x y dx dy d M' Q S rx ry e h => by
  cases rx with
  | int i =>
    cases ry with
    | int j => cases e; exact ⟨i, j, rfl, rfl, h ρ _ H .refl S (.int _)⟩
    | _ => cases e
  | _ => cases e
theorem ops_intB {f : Int → Int → Bool} : OpS G (rI0 fun i j => .bl (f i j)) (gIntB f) := fun H ρ M x y dx dy d M' Q S rx ry e h => by
  cases rx with
  | int i =>
    cases ry with
    | int j => cases e; exact ⟨i, j, rfl, rfl, h ρ _ H .refl S (.bl _)⟩
    | _ => cases e
  | _ => cases e
def gIntC (c : Int → Int → Bool) (f : Int → Int → Int) : G2 := fun x y M => match x, y with
  | .int i, .int j => if c i j then some (.int (f i j), M) else none
  | _, _ => none
theorem ops_intC {C : Int → Int → Prop} {c : Int → Int → Bool} {f : Int → Int → Int} (hc : ∀ i j, c i j = true → C i j) : OpS G (rI C fun i j => .int (f i j)) (gIntC c f) := fun H ρ M x y dx dy d M' Q S rx ry e h => by
  cases rx with
  | int i =>
    cases ry with
    | int j =>
      have e' : (if c i j then some (D.int (f i j), M) else none) = some (d, M') := e
      split at e'
      · rename_i hcc
        cases e'
        exact ⟨i, j, rfl, rfl, hc i j hcc, h ρ _ H .refl S (.int _)⟩
      · cases e'
    | _ => cases e
  | _ => cases e
def gStr (f : Str → Str → Str) : G2 := fun x y M => match x, y with
  | .str s, .str t => if s.length + t.length ≤ 16777216 then some (.str (f s t), M) else none
  | _, _ => none
theorem ops_addS : OpS G (fun x y H Q => ∃ i j, x = .str i ∧ y = .str j ∧ i.length + j.length ≤ sizeLine ∧ Q (.str (i ++ j)) H) (gStr fun s t => s ++ t) := fun H ρ M x y dx dy d M' Q S rx ry e h => by
  cases rx with
  | str i =>
    cases ry with
    | str j =>
      have e' : (if i.length + j.length ≤ 16777216 then some (D.str (i ++ j), M) else none) = some (d, M') := e
      split at e'
      · rename_i hcc
        cases e'
        exact ⟨i, j, rfl, rfl, line_of hcc, h ρ _ H .refl S (.str _)⟩
      · cases e'
    | _ => cases e
  | _ => cases e
def gCat : G2 := fun x y M => match asL x M, asL y M with
  | some a, some b => if a.length + b.length ≤ 16777216 then some (.lst (a ++ b), M) else none
  | _, _ => none
theorem ops_cat : OpS G rCat gCat := fun H ρ M x y dx dy d M' Q S rx ry e h => by
  unfold gCat at e
  split at e
  · rename_i a b ha hb
    split at e
    · rename_i hl
      cases e
      obtain ⟨p, vs, rfl, hp, rs⟩ := asL_ok S rx ha
      obtain ⟨q, ws, rfl, hq, rt⟩ := asL_ok S ry hb
      exact ⟨p, q, vs, ws, rfl, rfl, hp, hq, by rw [rs.length, rt.length]; exact line_of hl, fun z hz => h.new S hz (RV.newL S hz (rs.append rt))⟩
    · cases e
  · cases e
def gCatT : G2 := fun x y M => match x, y with
  | .tup a, .tup b => if a.length + b.length ≤ 16777216 then some (.tup (a ++ b), M) else none
  | _, _ => none
theorem ops_catT : OpS G (rCatA G.K) gCatT := fun H ρ M x y dx dy d M' Q S rx ry e h => by
  cases rx with
  | tup hs rs =>
    cases ry with
    | tup ht rt =>
      unfold gCatT at e
      simp only at e
      split at e
      · rename_i hl
        cases e
        refine ⟨_, _, _, _, rfl, rfl, hs.1, ht.1, by rw [rs.length, rt.length]; exact line_of hl, fun z => ?_, fun _ z => ?_, fun _ _ p hp => h.new S hp (RV.newT S hp (rs.append rt))⟩
        · subst z
          cases rs
          exact h ρ _ H .refl S (.tup ht rt)
        · subst z
          cases rt
          rw [List.append_nil] at h
          exact h ρ _ H .refl S (.tup hs rs)
      · cases e
    | _ => cases e
  | _ => cases e
def in63 (k : Int) : Bool := decide (-(2 ^ 63) ≤ k) && decide (k < 2 ^ 63)
def gRep : G2 := fun x y M => match y with
  | .int k => match asL x M with
    | some a => if in63 k && decide (a.length * k.toNat ≤ 16777216) then some (.lst (List.replicate k.toNat a).flatten, M) else none
    | none => none
  | _ => none
theorem ops_rep : OpS G rRep gRep := fun H ρ M x y dx dy d M' Q S rx ry e h => by
  cases ry with
  | int k =>
    unfold gRep at e
    simp only at e
    split at e
    · rename_i a ha
      split at e
      · rename_i hl
        simp only [in63, Bool.and_eq_true, decide_eq_true_eq] at hl
        cases e
        obtain ⟨p, vs, rfl, hp, rs⟩ := asL_ok S rx ha
        exact ⟨p, k, vs, rfl, rfl, hp, hl.1.1, hl.1.2, by rw [rs.length]; exact line_of hl.2, fun z hz => h.new S hz (RV.newL S hz (rs.rep _))⟩
      · cases e
    · cases e
  | _ => cases e
def orG (g g' : G2) : G2 := fun x y M => match g x y M with
  | some p => some p
  | none => g' x y M
theorem OpS.or {r r' : R2} {g g' : G2} (h : OpS G r g) (h' : OpS G r' g') : OpS G (fun x y H Q => r x y H Q ∨ r' x y H Q) (orG g g') := fun H ρ M x y dx dy d M' Q S rx ry e z => by
  unfold orG at e
  split at e
  · rename_i p hp
    cases e
    exact .inl (h H ρ M x y dx dy d M' Q S rx ry hp z)
  · exact .inr (h' H ρ M x y dx dy d M' Q S rx ry e z)
/-- a + b -/
def gAdd : G2 := fun x y M => match x, y with
  | .int i, .int j => some (.int (i + j), M)
  | _, _ => orG (gStr fun s t => s ++ t) (orG gCat gCatT) x y M
abbrev rAddA (K : PySem.W.Frag) : R2 := fun x y H Q => rI0 (fun i j => .int (i + j)) x y H Q ∨ ((∃ i j, x = .str i ∧ y = .str j ∧ i.length + j.length ≤ sizeLine ∧ Q (.str (i ++ j)) H) ∨ (rCat x y H Q ∨ rCatA K x y H Q))
theorem op_addA : OpR X (binaryOp .Add) (rAddA X.K) := op_add.or (op_add_str.or (op_cat.or op_catA))
theorem ops_addA : OpS G (rAddA G.K) gAdd := fun H ρ M x y dx dy d M' Q S rx ry e z => by
  unfold gAdd at e
  split at e
  · cases e
    cases rx
    cases ry
    exact .inl ⟨_, _, rfl, rfl, z ρ _ H .refl S (.int _)⟩
  · exact .inr ((ops_addS.or (ops_cat.or ops_catT)) H ρ M x y dx dy d M' Q S rx ry e z)
def toV : D → Option V
  | .non => some .non
  | .bl b => some (.bl b)
  | .int i => some (.int i)
  | .str s => some (.str s)
  | _ => none
mutual
def toPy : D → Option PyData
  | .non => some .none
  | .bl b => some (.bool b)
  | .int i => some (.int i)
  | .str s => some (.str s)
  | .tup l => (toPys l).map .tuple
  | .lst l => (toPys l).map .list
  | .scr _ => none
  | .ty _ => none
  | .ref _ => none
  | .obj _ _ _ => none
  | .cls _ => none
  | .dK _ _ => none
  | .dT _ _ => none
def toPys : List D → Option (List PyData)
  | [] => some []
  | d :: ds => match toPy d, toPys ds with
    | some p, some ps => some (p :: ps)
    | _, _ => none
end
def pyM (x : D) (M : Sto) : Option PyData := match x with
  | .ref n => match M[n]? with
    | some (.lst l) => (toPys l).map .list
    | _ => none
  | d => toPy d
mutual
theorem toPy_ok {H : Hp} {ρ : Rho} : ∀ {d : D} {v : V} {p : PyData}, RV G H ρ d v → toPy d = some p → Dp G.K H v p
  | _, _, _, .non, h => by cases h; exact .non
  | _, _, _, .bl b, h => by cases h; exact .bl b
  | _, _, _, .int i, h => by cases h; exact .int i
  | _, _, _, .str s, h => by cases h; exact .str s
  | _, _, _, .ty s, h => by cases h
  | _, _, _, .scr s, h => by cases h
  | _, _, _, .ref s, h => by cases h
  | _, _, _, .obj _ _ _ _ _, h => by cases h
  | _, _, _, .cls _, h => by cases h
  | _, _, _, .dK _ _ _ _, h => by cases h
  | _, _, _, .dT _ _ _ _, h => by cases h
  | _, _, p, .tup (ds := ds) hs rs, h => by
    simp only [toPy] at h
    cases e : toPys ds with
    | none => rw [e] at h; cases h
    | some ps => rw [e] at h; cases h; exact .tup hs.1 (toPys_ok rs e)
  | _, _, p, .lst (ds := ds) hs hn rs, h => by
    simp only [toPy] at h
    cases e : toPys ds with
    | none => rw [e] at h; cases h
    | some ps => rw [e] at h; cases h; exact .lst (SqL.of hs) (toPys_ok rs e)
theorem toPys_ok {H : Hp} {ρ : Rho} : ∀ {ds : List D} {vs : List V} {ps : List PyData}, RVs G H ρ ds vs → toPys ds = some ps → DpAll G.K H vs ps
  | _, _, _, .nil, h => by cases h; exact .nil
  | _, _, _, .cons (d := d) (ds := ds) r rs, h => by
    simp only [toPys] at h
    cases e : toPy d with
    | none => rw [e] at h; cases h
    | some p =>
      cases e2 : toPys ds with
      | none => rw [e, e2] at h; cases h
      | some ps => rw [e, e2] at h; cases h; exact .cons (toPy_ok r e) (toPys_ok rs e2)
end
theorem pyM_ok {H : Hp} {ρ : Rho} {M : Sto} {d : D} {v : V} {p : PyData} (S : RS G H ρ M) (r : RV G H ρ d v) (h : pyM d M = some p) : Dp G.K H v p := by
  cases r with
  | ref hn =>
    rename_i n a
    have h' : (match M[n]? with
      | some (.lst l) => (toPys l).map PyData.list
      | _ => none) = some p := h
    split at h'
    · rename_i l hm
      cases e : toPys l with
      | none => rw [e] at h'; cases h'
      | some ps =>
        rw [e] at h'; cases h'
        obtain ⟨b, hb, vs, e0, rs⟩ := S.at_ _ _ hm
        rw [hn] at hb; cases hb
        exact .lst (SqL.of e0) (toPys_ok rs e)
    · cases h'
  | non => exact toPy_ok (ρ := ρ) .non h
  | bl b => exact toPy_ok (ρ := ρ) (.bl b) h
  | int i => exact toPy_ok (ρ := ρ) (.int i) h
  | str s => exact toPy_ok (ρ := ρ) (.str s) h
  | ty s => exact toPy_ok (ρ := ρ) (.ty s) h
  | scr s => exact toPy_ok (.scr s) h
  | tup a b => exact toPy_ok (.tup a b) h
  | lst a b c => exact toPy_ok (.lst a b c) h
  | obj a b c d e => exact toPy_ok (.obj a b c d e) h
  | cls a => exact toPy_ok (ρ := ρ) (.cls a) h
  | dK a b c d => exact toPy_ok (.dK a b c d) h
  | dT a b c d => exact toPy_ok (.dT a b c d) h
theorem toV_ok {H : Hp} {ρ : Rho} {d : D} {v w : V} (r : RV G H ρ d v) (h : toV d = some w) : v = w := by
  cases r <;> first | (cases h; done) | (cases h; rfl)
def eqD (x y : D) (M : Sto) : Option Bool := match toV x, toV y with
  | some v, some w => if scal v w then some (decide (v = w)) else none
  | _, _ => match pyM x M, pyM y M with
    | some p, some q => if SeqAt.shaped p && SeqAt.shaped q then some (PyData.eqv p q) else none
    | _, _ => none
def gEq (n : Bool) : G2 := fun x y M => (eqD x y M).map fun b => (.bl (if n then !b else b), M)
theorem op_eqA (hu : X.A.units + 64 < cLine) : OpR X (compareOp .Eq) (fun x y H Q => rEq x y H Q ∨ rEqD X.K x y H Q) := op_eq.or (op_eqD hu)
theorem op_neA (hu : X.A.units + 64 < cLine) : OpR X (compareOp .NotEq) (fun x y H Q => rNe x y H Q ∨ rNeD X.K x y H Q) := op_ne.or (op_neD hu)
theorem eqD_some {x y : D} {M : Sto} {b : Bool} (h : eqD x y M = some b) : (∃ v w, toV x = some v ∧ toV y = some w ∧ scal v w = true ∧ b = decide (v = w)) ∨ (∃ p q, pyM x M = some p ∧ pyM y M = some q ∧ SeqAt.shaped p = true ∧ SeqAt.shaped q = true ∧ b = PyData.eqv p q) := by
  unfold eqD at h
  split at h
  · rename_i v w hv hw
    split at h
    · rename_i hs
      cases h
      exact .inl ⟨v, w, hv, hw, hs, rfl⟩
    · cases h
  · split at h
    · rename_i p q hp hq
      split at h
      · rename_i hs
        rw [Bool.and_eq_true] at hs
        cases h
        exact .inr ⟨p, q, hp, hq, hs.1, hs.2, rfl⟩
      · cases h
    · cases h
theorem ops_eq : OpS G (fun x y H Q => rEq x y H Q ∨ rEqD G.K x y H Q) (gEq false) := fun H ρ M x y dx dy d M' Q S rx ry e z => by
  unfold gEq at e
  cases hb : eqD dx dy M with
  | none => rw [hb] at e; cases e
  | some b =>
    rw [hb] at e; cases e
    have hq : Q (.bl b) H := z ρ _ H .refl S (.bl _)
    rcases eqD_some hb with ⟨v, w, h1, h2, h3, rfl⟩ | ⟨p, q, h1, h2, h3, h4, rfl⟩
    · rw [toV_ok rx h1, toV_ok ry h2]
      exact .inl ⟨h3, hq⟩
    · exact .inr ⟨p, q, pyM_ok S rx h1, pyM_ok S ry h2, h3, h4, hq⟩
theorem ops_ne : OpS G (fun x y H Q => rNe x y H Q ∨ rNeD G.K x y H Q) (gEq true) := fun H ρ M x y dx dy d M' Q S rx ry e z => by
  unfold gEq at e
  cases hb : eqD dx dy M with
  | none => rw [hb] at e; cases e
  | some b =>
    rw [hb] at e; cases e
    have hq : Q (.bl (!b)) H := z ρ _ H .refl S (.bl _)
    rcases eqD_some hb with ⟨v, w, h1, h2, h3, rfl⟩ | ⟨p, q, h1, h2, h3, h4, rfl⟩
    · rw [toV_ok rx h1, toV_ok ry h2]
      exact .inl ⟨h3, hq⟩
    · exact .inr ⟨p, q, pyM_ok S rx h1, pyM_ok S ry h2, h3, h4, hq⟩
def isNon : D → Bool
  | .non => true
  | _ => false
theorem isNon_ok {H : Hp} {ρ : Rho} {d : D} {v : V} (r : RV G H ρ d v) : decide (v = .non) = isNon d := by
  cases r <;> simp [isNon]
def gIs (n : Bool) : G2 := fun x y M => match y with
  | .non => some (.bl (if n then !isNon x else isNon x), M)
  | _ => none
theorem ops_is : OpS G (fun x y H Q => y = .non ∧ Q (.bl (decide (x = .non))) H) (gIs false) := fun H ρ M x y dx dy d M' Q S rx ry e z => by
  cases ry with
  | non => cases e; exact ⟨rfl, by rw [isNon_ok rx]; exact z ρ _ H .refl S (.bl _)⟩
  | _ => cases e
theorem ops_isnot : OpS G (fun x y H Q => y = .non ∧ Q (.bl (!decide (x = .non))) H) (gIs true) := fun H ρ M x y dx dy d M' Q S rx ry e z => by
  cases ry with
  | non => cases e; exact ⟨rfl, by rw [isNon_ok rx]; exact z ρ _ H .refl S (.bl _)⟩
  | _ => cases e
def gIx : G2 := fun x y M => match y with
  | .int i => match x with
    | .tup l => (atI l i).map (·, M)
    | x => match asL x M with
      | some l => (atI l i).map (·, M)
      | none => none
  | _ => none
theorem RVs.atI {H : Hp} {ρ : Rho} {ds : List D} {vs : List V} {i : Int} {d : D} (r : RVs G H ρ ds vs) (h : L2.atI ds i = some d) : ∃ v, L2.atI vs i = some v ∧ RV G H ρ d v := by
  unfold L2.atI at h ⊢
  rw [r.length]
  cases e : ixN ds.length i with
  | none => rw [e] at h; cases h
  | some j =>
    rw [e] at h
    exact r.get h
theorem ops_ix : OpS G (rIx G.K) gIx := fun H ρ M x y dx dy d M' Q S rx ry e z => by
  cases ry with
  | int i =>
    unfold gIx at e
    simp only at e
    split at e
    · rename_i l
      cases rx with
      | tup hs rs =>
        cases e2 : L2.atI l i with
        | none => rw [e2] at e; cases e
        | some d0 =>
          rw [e2] at e; cases e
          obtain ⟨v, hv, rv⟩ := rs.atI e2
          exact .inr (.inl ⟨_, _, _, v, rfl, rfl, hs.1, hv, z ρ _ H .refl S rv⟩)
    · split at e
      · rename_i l hl
        obtain ⟨a, vs, rfl, ha, rs⟩ := asL_ok S rx hl
        cases e2 : L2.atI l i with
        | none => rw [e2] at e; cases e
        | some d0 =>
          rw [e2] at e; cases e
          obtain ⟨v, hv, rv⟩ := rs.atI e2
          exact .inl ⟨_, _, _, v, rfl, rfl, SqL.of ha, hv, z ρ _ H .refl S rv⟩
      · cases e
  | _ => cases e
def cutD {α : Type} (xs : List α) (lo hi : Option Int) : List α := (xs.drop (HT.sIx xs.length 0 lo)).take (HT.sIx xs.length xs.length hi - HT.sIx xs.length 0 lo)
theorem RVs.cutD {H : Hp} {ρ : Rho} {ds : List D} {vs : List V} (r : RVs G H ρ ds vs) (lo hi : Option Int) : RVs G H ρ (Ip.cutD ds lo hi) (cutV vs lo hi) := by
  unfold Ip.cutD cutV
  rw [r.length]
  exact (r.drop _).take _
def gSl (x : D) (lo hi : Option Int) (M : Sto) : Option (D × Sto) := match x with
  | .tup l => some (.tup (cutD l lo hi), M)
  | .scr ns => some (.lst (cutD (ns.map D.int) lo hi), M)
  | x => match asL x M with
    | some l => some (.lst (cutD l lo hi), M)
    | none => none
abbrev rSlAll (K : PySem.W.Frag) : V → Option Int → Option Int → Hp → VK → Prop := fun x lo hi H Q => rSlL K x lo hi H Q ∨ rSlA K x lo hi H Q
theorem sl_all : SlR X (rSlAll X.K) := sl_list.or sl_tupA
def DO := En → Sto → Out (Option Int)
def dO (G : Gx) (W : WX) (f : DO) : TO := fun σ H Q => ∃ ρ env M, RE G H ρ env σ ∧ RS G H ρ M ∧ (f env M).post (fun o M' => ∀ ρ' H', Ext G H ρ H' ρ' → RS G H' ρ' M' → Q o H') (eP G W H ρ)
def SO (X : Cx) (cl : Str → Option Addr) (W : WX) (e : Option Expr) (f : DO) : Prop := PO X e (dO (gx X cl) W f)
def dNoPart : DO := fun _ M => .ok none M
def dPart (fe : DE) : DO := fun env M => (fe env M).bind fun x M1 => match x with
  | .int i => .ok (some i) M1
  | _ => .bad
theorem so_none : SO X cl W none dNoPart := POweak po_none fun σ H Q ⟨ρ, env, M, hE, hS, h⟩ => h ρ H .refl hS
theorem so_some {e : Expr} {fe : DE} (he : SE X cl W e fe) : SO X cl W (some e) (dPart fe) := POweak (po_some he) fun σ H Q ⟨ρ, env, M, hE, hS, h⟩ => by
  refine ⟨ρ, env, M, hE, hS, (post_bind h).imp (fun x M1 hx ρ1 v H1 e1 S1 r1 => ?_) (fun _ _ _ z => z)⟩
  cases r1 with
  | int i => exact ⟨i, rfl, hx ρ1 H1 e1 S1⟩
  | _ => exact hx.elim
def dSl (fe : DE) (fl fh : DO) : DE := fun env M => (fe env M).bind fun x M1 => (fl env M1).bind fun lo M2 => (fh env M2).bind fun hi M3 => liftM (gSl x lo hi M3)
theorem cut_whole {α : Type} {l : List α} {lo hi : Option Int} (h : HT.sIx l.length 0 lo = 0 ∧ HT.sIx l.length l.length hi = l.length) : cutD l lo hi = l := by
  unfold cutD
  rw [h.1, h.2]
  simp
theorem gSl_ok {H : Hp} {ρ : Rho} {M M' : Sto} {x d : D} {v : V} {lo hi : Option Int} {Q : VK} (S : RS G H ρ M) (r : RV G H ρ x v) (e : gSl x lo hi M = some (d, M')) (h : oP G H ρ Q d M') : rSlAll G.K v lo hi H Q := by
  unfold gSl at e
  split at e
  · cases r with
    | tup hs rs =>
      cases e
      refine .inr ⟨_, _, rfl, hs.1, fun w => ?_, fun _ p hp => h.new S hp (RV.newT S hp (rs.cutD lo hi))⟩
      rw [rs.length] at w
      rw [cut_whole w] at h
      exact h ρ _ H .refl S (.tup hs rs)
  · cases r with
    | scr hs =>
      rename_i ns a
      cases e
      have hl : SqL G.K H a (ns.map V.int) := by
        rcases hs with ⟨h, _⟩ | h
        · exact .inl h
        · exact h H
      exact .inl ⟨_, _, rfl, hl, fun p hp => h.new S hp (RV.newL S hp ((RVs.ints ns).cutD lo hi))⟩
  · split at e
    · rename_i l hl
      cases e
      obtain ⟨a, vs, rfl, ha, rs⟩ := asL_ok S r hl
      exact .inl ⟨_, _, rfl, SqL.of ha, fun p hp => h.new S hp (RV.newL S hp (rs.cutD lo hi))⟩
    · cases e
theorem se_slice {e : Expr} {lo hi : Option Expr} {fe : DE} {fl fh : DO} {p2 pos : Pos} (he : SE X cl W e fe) (hl : SO X cl W lo fl) (hh : SO X cl W hi fh) : SE X cl W (.Subscript e (.Slice lo hi none p2) pos) (dSl fe fl fh) :=
  PEweak (pe_slice sl_all he hl hh) fun σ H Q ⟨ρ, env, M, hE, hS, h⟩ => by
    refine ⟨ρ, env, M, hE, hS, (post_bind h).imp (fun x M1 hx ρ1 v H1 e1 S1 r1 => ?_) (fun _ _ _ z => z)⟩
    refine ⟨ρ1, env, M1, hE.mono e1, S1, (post_bind hx).imp (fun o M2 hy ρ2 H2 e2 S2 => ?_) (fun _ _ _ z => eP.sh e1 z)⟩
    refine ⟨ρ2, env, M2, hE.mono (e1.trans e2), S2, (post_bind hy).imp (fun o2 M3 hz ρ3 H3 e3 S3 => ?_) (fun _ _ _ z => eP.sh (e1.trans e2) z)⟩
    obtain ⟨d, M', eq, q⟩ := lift_some hz
    exact gSl_ok (G := gx X cl) S3 (r1.mono (e2.trans e3)) eq (oP.sh (e1.trans (e2.trans e3)) q)
end
end Ip
end
section
set_option Elab.async false
set_option linter.all false
set_option maxRecDepth 100000
set_option maxHeartbeats 4000000
set_option autoImplicit false
namespace Ip
open PySem PyProof.Rows L2
section
variable {X : Cx} {cl : Str → Option Addr} {W : WX} {G : Gx}
abbrev GM := D → List D → Sto → Option (D × Sto)
def MtS (G : Gx) (r : V → List V → Hp → VK → Prop) (g : GM) : Prop := ∀ (H : Hp) (ρ : Rho) (M : Sto) (x : V) (dx : D) (vs : List V) (ds : List D) (d : D) (M' : Sto) (Q : VK), RS G H ρ M → RV G H ρ dx x → RVs G H ρ ds vs → g dx ds M = some (d, M') → oP G H ρ Q d M' → r x vs H Q
def dLm (g : GM) (fo : DE) (fa : DA) : DE := fun env M => (fo env M).bind fun x M1 => match asL x M1 with
  | some _ => (fa env M1).bind fun as M2 => liftM (g x as M2)
  | none => .bad
theorem lm_ok {r : V → List V → Hp → VK → Prop} {g : GM} (hg : MtS G r g) {fo : DE} {fa : DA} {σ : L2.St} {H : Hp} {Q : VK} (h : dE G W (dLm g fo fa) σ H Q) : tBM G.K "list" r (dE G W fo) (dA G W fa) σ H Q := by
  obtain ⟨ρ, env, M, hE, hS, h⟩ := h
  refine ⟨ρ, env, M, hE, hS, (post_bind h).imp (fun x M1 hx ρ1 v H1 e1 S1 r1 => ?_) (fun _ _ _ z => z)⟩
  split at hx
  · rename_i l hl
    obtain ⟨a, vs, rfl, ha, rs⟩ := asL_ok S1 r1 hl
    refine ⟨.inl ⟨rfl, _, SqL.of ha⟩, ρ1, env, M1, hE.mono e1, S1, (post_bind hx).imp (fun as M2 hy ρ2 ws H2 e2 S2 r2 => ?_) (fun _ _ _ z => eP.sh e1 z)⟩
    obtain ⟨d, M', e, q⟩ := lift_some hy
    exact hg H2 ρ2 M2 _ x ws as d M' Q S2 (r1.mono e2) r2 e (oP.sh (e1.trans e2) q)
  · exact hx.elim
theorem se_lm {name : Str} {id : String} {r : V → List V → Hp → VK → Prop} {g : GM} {o e : Expr} {es : List Expr} {fo : DE} {fa : DA} {apos cpos : Pos} (slot : Slot "list" name id) (hty : typeOf (.builtin id) = pure (.type "method_descriptor")) (hm : MtR X id r) (hg : MtS (gx X cl) r g) (ho : SE X cl W o fo) (ha : SA X cl W (e :: es) fa)
    (hbase : attributeBase o name X.env (eval o X.env) = eval o X.env := by rfl)
    (hfew : ((backTo cpos (starEach (e :: es) X.env)).all (fun x => !x.1) && (backToKw cpos (keywordEach [] X.env)).all (fun x => x.1.isSome)
      && decide ((e :: es).length + ([] : List Keyword).length + (if ([] : List Keyword).isEmpty then 0 else 1) < 30)) = true := by rfl)
    (hline : (apos.endLine == cpos.line) = true := by rfl) (hs : starEach (e :: es) X.env = (false, eval e X.env) :: starEach es X.env := by rfl) (hplain : (backTo cpos (starEach es X.env)).any (·.1) = false := by rfl) :
    SE X cl W (.Call (.Attribute o name apos) (e :: es) [] cpos) (dLm g fo fa) :=
  PEweak (pe_bm PySem.F.plainAttrs_list slot hty hm ho ha hbase hfew hline hs hplain) fun σ H Q h => lm_ok (G := gx X cl) hg h
def setL (x : D) (M : Sto) (k : List D → Option (List D)) : Option Sto := match x with
  | .ref n => match M[n]? with
    | some (.lst l) => (k l).map fun l' => M.set n (.lst l')
    | _ => none
  | _ => none
theorem setL_ok {H : Hp} {ρ : Rho} {M M' : Sto} {x : D} {v : V} {k : List D → Option (List D)} (S : RS G H ρ M) (r : RV G H ρ x v) (h : setL x M k = some M') :
    ∃ a l l' vs, v = .ref a ∧ H a = some (.lst vs) ∧ RVs G H ρ l vs ∧ k l = some l' ∧ ∀ vs', RVs G H ρ l' vs' → Ext G H ρ (upd H a (.lst vs')) ρ ∧ RS G (upd H a (.lst vs')) ρ M' := by
  cases r with
  | ref hn =>
    rename_i n a
    have h' : (match M[n]? with
      | some (.lst l) => (k l).map fun l' => M.set n (.lst l')
      | _ => none) = some M' := h
    split at h'
    · rename_i l hm
      cases e : k l with
      | none => rw [e] at h'; cases h'
      | some l' =>
        rw [e] at h'; cases h'
        obtain ⟨b, hb, vs, e0, rs⟩ := S.at_ _ _ hm
        rw [hn] at hb; cases hb
        exact ⟨a, l, l', vs, rfl, e0, rs, e, fun vs' r' => ⟨Ext.write S hn, S.write hn ⟨vs', upd_same, r'.mono (Ext.write S hn)⟩⟩⟩
    · cases h'
  | _ => cases h
def gApp : GM := fun x as M => match as with
  | [y] => (setL x M fun l => if l.length < 16777216 then some (l ++ [y]) else none).map (D.non, ·)
  | _ => none
theorem mts_app : MtS G rAppend gApp := fun H ρ M x dx vs ds d M' Q S rx rs e h => by
  unfold gApp at e
  split at e
  · rename_i y
    cases rs with
    | cons q1 q2 =>
      cases q2
      cases e2 : setL dx M fun l => if l.length < 16777216 then some (l ++ [y]) else none with
      | none => rw [e2] at e; cases e
      | some M2 =>
        rw [e2] at e; cases e
        obtain ⟨a, l, l', ws, rfl, ha, rl, ek, up⟩ := setL_ok S rx e2
        split at ek
        · rename_i hl
          cases ek
          obtain ⟨x1, s1⟩ := up _ (rl.append (.one q1))
          exact ⟨a, ws, _, rfl, rfl, ha, by rw [rl.length, sizeLine_eq]; exact hl, h ρ _ _ x1 s1 .non⟩
        · cases ek
  · cases e
def gClear : GM := fun x as M => match as with
  | [] => (setL x M fun _ => some []).map (D.non, ·)
  | _ => none
theorem se_append {o e : Expr} {fo fe : DE} {apos cpos : Pos} (ho : SE X cl W o fo) (ha : SE X cl W e fe) (hst : starEach [e] X.env = (false, eval e X.env) :: starEach [] X.env := by rfl)
    (hbase : attributeBase o "append" X.env (eval o X.env) = eval o X.env := by rfl)
    (hfew : ((backTo cpos (starEach [e] X.env)).all (fun x => !x.1) && (backToKw cpos (keywordEach [] X.env)).all (fun x => x.1.isSome)
      && decide ([e].length + ([] : List Keyword).length + (if ([] : List Keyword).isEmpty then 0 else 1) < 30)) = true := by rfl)
    (hline : (apos.endLine == cpos.line) = true := by rfl) (hplain : (backTo cpos (starEach [] X.env)).any (·.1) = false := by rfl) : SE X cl W (.Call (.Attribute o "append" apos) [e] [] cpos) (dLm gApp fo (dConsA fe dNilA)) :=
  se_lm PySem.F.slot_list_append PySem.F.type_list_append mt_append mts_app ho (sa_cons ha sa_nil hst) hbase hfew hline hst hplain
/-- o[i] = e over a cell -/
def dSetIx (fo fi fe : DE) : DS := fun env M => (fe env M).bind fun y M1 => (fo env M1).bind fun x M2 => (fi env M2).bind fun i M3 => match i with
  | .int k => match setL x M3 fun l => (ixN l.length k).map fun j => l.set j y with
    | some M4 => .ok (.nx env) M4
    | none => .bad
  | _ => .bad
theorem ss_setIx {o i e : Expr} {fo fi fe : DE} {pos pos' : Pos} (ho : SE X cl W o fo) (hi : SE X cl W i fi) (he : SE X cl W e fe)
    (hg : PG X (.Subscript o i pos') (gSub (dE (gx X cl) W fo) (dE (gx X cl) W fi) rSetL))
    (hs : swapsWithSole [.Subscript o i pos'] e pos.line X.env = pure false := by rfl) (hw : swappedStores [.Subscript o i pos'] e X.env = pure none := by rfl)
    (h1 : (assignEach [.Subscript o i pos'] X.env).map (·.2) = [assign (.Subscript o i pos') X.env] := by rfl) : SS X cl W (.Assign [.Subscript o i pos'] e pos) (dSetIx fo fi fe) :=
  PSweak (ps_asg he hg hs hw h1) fun D σ H ⟨ρ, env, M, hE, hS, h⟩ => by
    refine ⟨ρ, env, M, hE, hS, (post_bind h).imp (fun y M1 hy ρ1 v H1 e1 S1 r1 => ?_) (fun _ _ _ z => z)⟩
    refine ⟨ρ1, env, M1, hE.mono e1, S1, (post_bind hy).imp (fun x M2 hx ρ2 w H2 e2 S2 r2 => ?_) (fun _ _ _ z => eP.sh e1 z)⟩
    refine ⟨ρ2, env, M2, hE.mono (e1.trans e2), S2, (post_bind hx).imp (fun ii M3 hz ρ3 u H3 e3 S3 r3 => ?_) (fun _ _ _ z => eP.sh (e1.trans e2) z)⟩
    cases r3 with
    | int k =>
      have hz' : (match setL x M3 fun l => (ixN l.length k).map fun j => l.set j y with
        | some M4 => Out.ok (Fl.nx env) M4
        | none => .bad).post (sP (gx X cl) H ρ D) (eP (gx X cl) W H ρ) := hz
      split at hz'
      · rename_i M4 hm4
        obtain ⟨a, l, l', ws, rfl, ha, rl, ek, up⟩ := setL_ok S3 (r2.mono e3) hm4
        cases ej : ixN l.length k with
        | none => rw [ej] at ek; cases ek
        | some j =>
          rw [ej] at ek; cases ek
          obtain ⟨x1, s1⟩ := up _ (rl.set (r1.mono (e2.trans e3)) j)
          exact ⟨a, ws, k, j, rfl, rfl, ha, by rw [rl.length]; exact ej, hz' ρ3 σ _ (e1.trans (e2.trans (e3.trans x1))) s1 (hE.mono (e1.trans (e2.trans (e3.trans x1))))⟩
      · exact hz'.elim
    | _ => exact hz.elim
abbrev GC := List D → Sto → Option (D × Sto)
def gLen : GC := fun as M => match as with
  | [.tup l] => some (.int (l.length : Nat), M)
  | [x] => match asL x M with
    | some l => some (.int (l.length : Nat), M)
    | none => none
  | _ => none
theorem cs_len : CallS G (fun xs H Q => ∃ p ys, xs = [.ref p] ∧ (SqL G.K H p ys ∨ SqT G.K H p ys) ∧ Q (.int ys.length) H) gLen := fun H ρ M xs ds d M' Q S rs e h => by
  unfold gLen at e
  split at e
  · rename_i l
    cases e
    cases rs with
    | cons q1 q2 =>
      cases q2
      cases q1 with
      | tup hs rs => exact ⟨_, _, rfl, .inr hs.1, by rw [rs.length]; exact h ρ _ H .refl S (.int _)⟩
  · split at e
    · rename_i x _ l hl
      cases e
      cases rs with
      | cons q1 q2 =>
        cases q2
        obtain ⟨a, vs, rfl, ha, rl⟩ := asL_ok S q1 hl
        exact ⟨_, _, rfl, .inl (SqL.of ha), by rw [rl.length]; exact h ρ _ H .refl S (.int _)⟩
    · cases e
  · cases e
def seqOf (x : D) (M : Sto) : Option (List D) := match x with
  | .tup l => some l
  | x => asL x M
theorem seqOf_ok {H : Hp} {ρ : Rho} {M : Sto} {x : D} {v : V} {l : List D} (S : RS G H ρ M) (r : RV G H ρ x v) (h : seqOf x M = some l) : ∃ a vs, v = .ref a ∧ (SqL G.K H a vs ∨ SqT G.K H a vs) ∧ RVs G H ρ l vs := by
  unfold seqOf at h
  split at h
  · cases h
    cases r with
    | tup hs rs => exact ⟨_, _, rfl, .inr hs.1, rs⟩
  · obtain ⟨a, vs, e, ha, rl⟩ := asL_ok S r h
    exact ⟨a, vs, e, .inl (SqL.of ha), rl⟩
def gList : GC := fun as M => match as with
  | [x] => (seqOf x M).map fun l => (.lst l, M)
  | _ => none
def gListC : GC := fun as M => match as with
  | [x] => (seqOf x M).map fun l => (.ref M.length, M ++ [.lst l])
  | _ => none
theorem cs_list : CallS G (fun xs H Q => ∃ p ys, xs = [.ref p] ∧ (SqL G.K H p ys ∨ SqT G.K H p ys) ∧ ∀ l, H l = none → Q (.ref l) (upd H l (.lst ys))) gList := fun H ρ M xs ds d M' Q S rs e h => by
  unfold gList at e
  split at e
  · rename_i x
    cases e2 : seqOf x M with
    | none => rw [e2] at e; cases e
    | some l =>
      rw [e2] at e; cases e
      cases rs with
      | cons q1 q2 =>
        cases q2
        obtain ⟨a, vs, rfl, ha, rl⟩ := seqOf_ok S q1 e2
        exact ⟨_, _, rfl, ha, fun p hp => h.new S hp (RV.newL S hp rl)⟩
  · cases e
def gTuple : GC := fun as M => match as with
  | [.tup l] => some (.tup l, M)
  | [x] => (asL x M).map fun l => (.tup l, M)
  | _ => none
def bls : List D → Option (List Bool)
  | [] => some []
  | .bl b :: ds => (bls ds).map (b :: ·)
  | _ :: _ => none
theorem bls_ok {H : Hp} {ρ : Rho} : ∀ {ds : List D} {vs : List V} {bs : List Bool}, RVs G H ρ ds vs → bls ds = some bs → vs = bs.map V.bl
  | _, _, _, .nil, h => by cases h; rfl
  | _, _, _, .cons (d := d) (ds := ds) r rs, h => by
    cases r with
    | bl b =>
      unfold bls at h
      cases e : bls ds with
      | none => rw [e] at h; cases h
      | some bs => rw [e] at h; cases h; rw [bls_ok rs e]; rfl
    | _ => cases h
def gAll : GC := fun as M => match as with
  | [.lst l] => (bls l).map fun bs => (.bl (bs.all id), M)
  | _ => none
theorem cs_all : CallS G (rAll G.K) gAll := fun H ρ M xs ds d M' Q S rs e h => by
  unfold gAll at e
  split at e
  · rename_i l
    cases e2 : bls l with
    | none => rw [e2] at e; cases e
    | some bs =>
      rw [e2] at e; cases e
      cases rs with
      | cons q1 q2 =>
        cases q2
        cases q1 with
        | lst hs hn rl => exact ⟨_, bs, rfl, by rw [← bls_ok rl e2]; exact SqL.of hs, h ρ _ H .refl S (.bl _)⟩
  · cases e
def gMax2 : GC := fun as M => match as with
  | [.int i, .int j] => some (.int (if j > i then j else i), M)
  | _ => none
theorem cs_max2 : CallS G (fun xs H Q => ∃ i j, xs = [.int i, .int j] ∧ Q (.int (if j > i then j else i)) H) gMax2 := fun H ρ M xs ds d M' Q S rs e h => by
  unfold gMax2 at e
  split at e
  · cases e
    cases rs with
    | cons q1 q2 => cases q1; cases q2 with
      | cons q2 q3 => cases q2; cases q3; exact ⟨_, _, rfl, h ρ _ H .refl S (.int _)⟩
  · cases e
def gMax3 : GC := fun as M => match as with
  | [.int i, .int j, .int k] => some (.int (max (max i j) k), M)
  | _ => none
theorem nuMax_int (i j : Int) : nuMax2 (.int i) (.int j) = some (.int (max i j)) := by
  show Option.map _ (some (decide (i < j))) = _
  by_cases h : i < j
  · rw [decide_eq_true h]
    show some (V.int j) = _
    rw [Int.max_eq_right (by omega)]
  · rw [decide_eq_false h]
    show some (V.int i) = _
    rw [Int.max_eq_left (by omega)]
theorem cs_max3 : CallS G (rNuC3 nuMax3) gMax3 := fun H ρ M xs ds d M' Q S rs e h => by
  unfold gMax3 at e
  split at e
  · rename_i i j k
    cases e
    cases rs with
    | cons q1 q2 => cases q1; cases q2 with
      | cons q2 q3 => cases q2; cases q3 with
        | cons q3 q4 =>
          cases q3; cases q4
          refine ⟨_, _, _, _, rfl, ?_, h ρ _ H .refl S (.int _)⟩
          show (nuMax2 (.int i) (.int j)).bind _ = _
          rw [nuMax_int]
          exact nuMax_int _ _
  · cases e
def gStrI : GC := fun as M => match as with
  | [.int i] => if i.natAbs.log2 < 1920 then some (.str (toString i), M) else none
  | _ => none
theorem cs_str : CallS G (fun xs H Q => ∃ i : Int, xs = [.int i] ∧ i.natAbs.log2 < 1920 ∧ Q (.str (toString i)) H) gStrI := fun H ρ M xs ds d M' Q S rs e h => by
  unfold gStrI at e
  split at e
  · split at e
    · rename_i hl
      cases e
      cases rs with
      | cons q1 q2 => cases q1; cases q2; exact ⟨_, rfl, hl, h ρ _ H .refl S (.str _)⟩
    · cases e
  · cases e
def tyD (x : D) (M : Sto) : Option String := match x with
  | .non => some "NoneType"
  | .bl _ => some "bool"
  | .int _ => some "int"
  | .str _ => some "str"
  | .tup _ => some "tuple"
  | .lst _ => some "list"
  | .ref n => match M[n]? with
    | some (.lst _) => some "list"
    | _ => none
  | _ => none
theorem tyD_ok {H : Hp} {ρ : Rho} {M : Sto} {x : D} {v : V} {t : String} (S : RS G H ρ M) (r : RV G H ρ x v) (h : tyD x M = some t) : TyX G.K H v (.type t) := by
  cases r with
  | non => cases h; exact .base .non
  | bl b => cases h; exact .base (.bl b)
  | int i => cases h; exact .base (.int i)
  | str s => cases h; exact .base (.str s)
  | ty s => cases h
  | scr s => cases h
  | obj => cases h
  | cls => cases h
  | dK => cases h
  | dT => cases h
  | tup hs rs =>
    cases h
    rcases hs.1 with (h | ⟨o, h⟩) | ⟨o, its, n, k, c, _⟩
    · exact .base (.tup h)
    · exact .fTuple h
    · exact .kTuple k c
  | lst hs hn rs => cases h; exact .base (.lst hs)
  | ref hn =>
    rename_i n a
    have h' : (match M[n]? with
      | some (.lst _) => some "list"
      | _ => none) = some t := h
    split at h'
    · rename_i l hm
      cases h'
      obtain ⟨b, hb, vs, e0, rs⟩ := S.at_ _ _ hm
      rw [hn] at hb; cases hb
      exact .base (.lst e0)
    · cases h'
/-- t is a T (the six plain types) -/
def isA (t T : String) : Option Bool := kitB t T
def gIsi (T : String) : D → Sto → Option (D × Sto) := fun x M => match tyD x M with
  | some t => (isA t T).map fun b => (.bl b, M)
  | none => none
def dIsi (T : String) (fe : DE) : DE := dUn (gIsi T) fe
theorem boot_ty_rel {n : String} : RelV (.ty n) (.type n) := rfl
theorem se_isi {T : String} {x : Str} {e : Expr} {fe : DE} {p p2 pos : Pos} (hg : Gl X "isinstance") (hm : X.mg "isinstance" = none) (hgT : Gl X x) (hmT : X.mg x = none) (hvT : bootBuiltins x = some (.type T)) (he : SE X cl W e fe)
    (hnT : x ≠ "__name__" := by decide) (hdT : (x == ("__debug__" : Str)) = false := by decide)
    (h1 : starEach [e, .Name x p2] X.env = (false, eval e X.env) :: starEach [.Name x p2] X.env := by rfl) (h2 : starEach [.Name x p2] X.env = (false, eval (.Name x p2) X.env) :: starEach [] X.env := by rfl) (hpl : (backTo pos (starEach [.Name x p2] X.env)).any (·.1) = false := by rfl) :
    SE X cl W (.Call (.Name "isinstance" p) [e, .Name x p2] [] pos) (dIsi T fe) :=
  PEweak (pe_callB call_isi hg hm (by decide +kernel) (pa_cons he (pa_cons (pe_bltn hgT hmT hvT boot_ty_rel hnT hdT) pa_nil h2) h1) (by decide) (by decide) h1 hpl) fun σ H Q ⟨ρ, env, M, hE, hS, h⟩ => by
    refine ⟨ρ, env, M, hE, hS, (post_bind h).imp (fun y M1 hx ρ1 v H1 e1 S1 r1 => ?_) (fun _ _ _ z => z)⟩
    obtain ⟨d, M', eq, q⟩ := lift_some hx
    unfold gIsi at eq
    split at eq
    · rename_i t ht
      cases hb : isA t T with
      | none => rw [hb] at eq; cases eq
      | some b =>
        rw [hb] at eq; cases eq
        exact ⟨v, .ty T, .type t, .type T, b, rfl, .ty T, tyD_ok (G := gx X cl) S1 r1 ht, kit_ty hb, q ρ1 _ H1 e1 S1 (.bl _)⟩
    · cases eq
def gIsi2 (T U : String) : D → Sto → Option (D × Sto) := fun x M => match tyD x M with
  | some t => match isA t T, isA t U with
    | some b, some c => some (.bl (b || c), M)
    | _, _ => none
  | none => none
theorem se_isi2 {T U : String} {x y : Str} {e : Expr} {fe : DE} {kk : Nat} {p p2 p3 p4 pos : Pos} (hg : Gl X "isinstance") (hm : X.mg "isinstance" = none) (hgT : Gl X x) (hmT : X.mg x = none) (hvT : bootBuiltins x = some (.type T)) (hgU : Gl X y) (hmU : X.mg y = none) (hvU : bootBuiltins y = some (.type U)) (he : SE X cl W e fe)
    (hnT : x ≠ "__name__" := by decide) (hdT : (x == ("__debug__" : Str)) = false := by decide) (hnU : y ≠ "__name__" := by decide) (hdU : (y == ("__debug__" : Str)) = false := by decide)
    (h1 : starEach [e, .Tuple [.Name x p2, .Name y p3] kk p4] X.env = (false, eval e X.env) :: starEach [.Tuple [.Name x p2, .Name y p3] kk p4] X.env := by rfl)
    (h2 : starEach [.Tuple [.Name x p2, .Name y p3] kk p4] X.env = (false, eval (.Tuple [.Name x p2, .Name y p3] kk p4) X.env) :: starEach [] X.env := by rfl) (hpl : (backTo pos (starEach [.Tuple [.Name x p2, .Name y p3] kk p4] X.env)).any (·.1) = false := by rfl)
    (h3 : starEach [.Name x p2, .Name y p3] X.env = (false, eval (.Name x p2) X.env) :: starEach [.Name y p3] X.env := by rfl) (h4 : starEach [.Name y p3] X.env = (false, eval (.Name y p3) X.env) :: starEach [] X.env := by rfl) :
    SE X cl W (.Call (.Name "isinstance" p) [e, .Tuple [.Name x p2, .Name y p3] kk p4] [] pos) (dUn (gIsi2 T U) fe) :=
  PEweak (pe_callB call_isiT hg hm (by decide +kernel) (pa_cons he (pa_cons (pe_tup (pa_cons (pe_bltn hgT hmT hvT boot_ty_rel hnT hdT) (pa_cons (pe_bltn hgU hmU hvU boot_ty_rel hnU hdU) pa_nil h4) h3)) pa_nil h2) h1) (by decide) (by decide) h1 hpl) fun σ H Q ⟨ρ, env, M, hE, hS, h⟩ => by
    refine ⟨ρ, env, M, hE, hS, (post_bind h).imp (fun y M1 hx ρ1 v H1 e1 S1 r1 => ?_) (fun _ _ _ z => z)⟩
    obtain ⟨d, M', eq, q⟩ := lift_some hx
    unfold gIsi2 at eq
    split at eq
    · rename_i t ht
      split at eq
      · rename_i b c hb hc
        cases eq
        refine ⟨by show 2 ≤ sizeLine; decide, fun tp htp => ⟨v, tp, [.ty T, .ty U], .type t, [.type T, .type U], b || c, rfl, upd_same, .cons (.ty T) (.cons (.ty U) .nil), tyD_ok (G := gx X cl) (S1.new htp) (r1.mono (Ext.new S1 htp)) ht, ?_, q ρ1 _ _ (e1.trans (Ext.new S1 htp)) (S1.new htp) (.bl _)⟩⟩
        refine kitAny_cons (kit_ty hb) (fun z => ?_) (fun z => by rw [z]; rfl)
        refine kitAny_cons (kit_ty hc) (fun z2 => ?_) (fun z2 => by rw [z2]; simp)
        rw [z, z2]
        exact kitAny_nil
      · cases eq
    · cases eq
end
end Ip
end
section
set_option Elab.async false
set_option linter.all false
set_option maxRecDepth 100000
set_option maxHeartbeats 4000000
set_option autoImplicit false
namespace Ip
open PySem PyProof.Rows L2
section
variable {X : Cx} {cl : Str → Option Addr} {W : WX} {a b c e o : Expr} {es : List Expr} {fa fb fc fe fo : DE} {pos p p2 : Pos}
theorem se_v (i : Nat) {x : Str} (hN : X.N[i]? = some x := by rfl) (hv : Vis X.env.scope x := by first | exact Or.inl rfl | exact Or.inr (Or.inl rfl) | exact Or.inr (Or.inr rfl)) (hd : (x == ("__debug__" : Str)) = false := by decide)
    (hcd : (x == ("__classdict__" : Str)) = false := by decide) : SE X cl W (.Name x pos) (dVar i) := se_var hN hv hd hcd
theorem se_at (ha : SE X cl W a fa) (hb : SE X cl W b fb) (hs : PlainIx b := by exact fun _ _ => rfl) : SE X cl W (.Subscript a b pos) (dBin gIx fa fb) := se_ix ix_seq ops_ix ha hb hs
theorem se_add (ha : SE X cl W a fa) (hb : SE X cl W b fb) : SE X cl W (.BinOp a .Add b pos) (dBin gAdd fa fb) := se_bin op_addA ops_addA ha hb
abbrev gSub : G2 := gInt fun i j => i - j
theorem se_sub (ha : SE X cl W a fa) (hb : SE X cl W b fb) : SE X cl W (.BinOp a .Sub b pos) (dBin Ip.gSub fa fb) := se_bin op_sub ops_int ha hb
def in64 (i : Int) : Bool := decide (-(2 ^ 64) < i) && decide (i < 2 ^ 64)
def gMul : G2 := orG (gIntC (fun i j => in64 i || in64 j) fun i j => i * j) gRep
theorem in64_ok {i : Int} (h : in64 i = true) : -(2 ^ 64) < i ∧ i < 2 ^ 64 := by
  unfold in64 at h
  simp only [Bool.and_eq_true, decide_eq_true_eq] at h
  exact h
theorem se_mul (ha : SE X cl W a fa) (hb : SE X cl W b fb) : SE X cl W (.BinOp a .Mult b pos) (dBin gMul fa fb) :=
  se_bin (op_mul.or op_rep) ((ops_intC fun i j h => by
    rw [Bool.or_eq_true] at h
    exact h.elim (fun z => .inl (in64_ok z)) (fun z => .inr (in64_ok z))).or ops_rep) ha hb
def gMod : G2 := gIntC (fun _ j => decide (0 < j)) fun i j => i % j
theorem se_mod (ha : SE X cl W a fa) (hb : SE X cl W b fb) : SE X cl W (.BinOp a .Mod b pos) (dBin gMod fa fb) := se_bin op_mod (ops_intC fun i j h => by simpa using h) ha hb
def gPow : G2 := gIntC (fun i j => decide (0 ≤ j) && decide (j ≤ 1000000) && decide (i.natAbs < 2 ^ 64)) fun i j => i ^ j.toNat
theorem se_pow (ha : SE X cl W a fa) (hb : SE X cl W b fb) : SE X cl W (.BinOp a .Pow b pos) (dBin gPow fa fb) := se_bin op_pow (ops_intC fun i j h => by
  simp only [Bool.and_eq_true, decide_eq_true_eq] at h
  exact ⟨h.1.1, h.1.2, h.2⟩) ha hb
def gNeg : D → Sto → Option (D × Sto) := fun x M => match x with
  | .int i => some (.int (-i), M)
  | _ => none
theorem se_neg (ha : SE X cl W a fa) : SE X cl W (.UnaryOp .USub a pos) (dUn gNeg fa) := se_un un_neg (fun H ρ M x dx d M' Q S rx e h => by
  cases rx with
  | int i => cases e; exact ⟨i, rfl, h ρ _ H .refl S (.int _)⟩
  | _ => cases e) ha
abbrev gLt : G2 := gIntB fun i j => decide (i < j)
abbrev gLe : G2 := gIntB fun i j => decide (i ≤ j)
abbrev gGt : G2 := gIntB fun i j => decide (j < i)
abbrev gGe : G2 := gIntB fun i j => decide (j ≤ i)
theorem se_lt (ha : SE X cl W a fa) (hb : SE X cl W b fb) : SE X cl W (.Compare a [.Lt] [b] pos) (dBin gLt fa fb) := se_cmp op_lt ops_intB ha hb (nomark _)
theorem se_le (ha : SE X cl W a fa) (hb : SE X cl W b fb) : SE X cl W (.Compare a [.LtE] [b] pos) (dBin gLe fa fb) := se_cmp op_le ops_intB ha hb (nomark _)
theorem se_ge (ha : SE X cl W a fa) (hb : SE X cl W b fb) : SE X cl W (.Compare a [.GtE] [b] pos) (dBin gGe fa fb) := se_cmp op_ge ops_intB ha hb (nomark _)
theorem se_eq {k : Nat} (hr : Room k X.A) (ha : SE X cl W a fa) (hb : SE X cl W b fb) : SE X cl W (.Compare a [.Eq] [b] pos) (dBin (gEq false) fa fb) := se_cmp (op_eqA hr.units) ops_eq ha hb (nomark _)
theorem se_is (ha : SE X cl W a fa) (hb : SE X cl W b fb) : SE X cl W (.Compare a [.Is] [b] pos) (dBin (gIs false) fa fb) := se_cmp op_isN ops_is ha hb (nomark _)
theorem st_lt (ha : SE X cl W a fa) (hb : SE X cl W b fb) : ST X cl W (.Compare a [.Lt] [b] pos) (dB (dBin gLt fa fb)) := st_cmp op_lt ops_intB ha hb (nomark _)
theorem st_gt (ha : SE X cl W a fa) (hb : SE X cl W b fb) : ST X cl W (.Compare a [.Gt] [b] pos) (dB (dBin gGt fa fb)) := st_cmp op_gt ops_intB ha hb (nomark _)
theorem st_ge (ha : SE X cl W a fa) (hb : SE X cl W b fb) : ST X cl W (.Compare a [.GtE] [b] pos) (dB (dBin gGe fa fb)) := st_cmp op_ge ops_intB ha hb (nomark _)
theorem st_eq {k : Nat} (hr : Room k X.A) (ha : SE X cl W a fa) (hb : SE X cl W b fb) : ST X cl W (.Compare a [.Eq] [b] pos) (dB (dBin (gEq false) fa fb)) := st_cmp (op_eqA hr.units) ops_eq ha hb (nomark _)
theorem st_ne {k : Nat} (hr : Room k X.A) (ha : SE X cl W a fa) (hb : SE X cl W b fb) : ST X cl W (.Compare a [.NotEq] [b] pos) (dB (dBin (gEq true) fa fb)) := st_cmp (op_neA hr.units) ops_ne ha hb (nomark _)
theorem st_is (ha : SE X cl W a fa) (hb : SE X cl W b fb) : ST X cl W (.Compare a [.Is] [b] pos) (dB (dBin (gIs false) fa fb)) := st_cmp op_isN ops_is ha hb (nomark _)
theorem st_isnot (ha : SE X cl W a fa) (hb : SE X cl W b fb) : ST X cl W (.Compare a [.IsNot] [b] pos) (dB (dBin (gIs true) fa fb)) := st_cmp op_notN ops_isnot ha hb (nomark _)
theorem sg_v (i : Nat) {x : Str} (hN : X.N.Nodup) (hi : X.N[i]? = some x := by rfl) (hx : Loc X.env.scope x := by first | exact Or.inl rfl | exact Or.inr rfl) (hf : X.fn x = true ∨ X.env.scope.names.lookup x = some .local := by first | exact .inl rfl | exact .inr rfl | assumption) : SG X cl (.Name x pos) (tgName i) := sg_name hN hi hx hf
theorem ss_let (i : Nat) {x : Str} {pos' : Pos} (hN : X.N.Nodup) (he : SE X cl W e fe) (hi : X.N[i]? = some x := by rfl) (hx : Loc X.env.scope x := by first | exact Or.inl rfl | exact Or.inr rfl) (hs : swapsWith e (some (.Name x pos')) pos.line X.env = pure false := by rfl) (hf : X.fn x = true ∨ X.env.scope.names.lookup x = some .local := by first | exact .inl rfl | exact .inr rfl | assumption) :
    SS X cl W (.Assign [.Name x pos'] e pos) (dSet i fe) := ss_set hN hi hx he hs hf
end
end Ip
end
section
set_option Elab.async false
set_option linter.all false
set_option maxRecDepth 100000
set_option maxHeartbeats 4000000
set_option autoImplicit false
namespace Ip
open PySem PyProof.Rows L2
section
variable {X : Cx} {cl : Str → Option Addr} {W : WX} {G : Gx}
/-- the frame one built-in call deeper -/
def inCx (X : Cx) : Cx := { X with A := X.A.in1 }
theorem inCx_in {pins : List (Addr × Obj)} {σ : L2.St} {H : Hp} {s : Shared} (I : Inv X pins σ H s) : Inv (inCx X) pins σ H s :=
  { ok := { mod := I.ok.mod, kind := I.ok.kind, glob := I.ok.glob, blt := I.ok.blt, above := I.ok.above, inj := I.ok.inj, has := I.ok.has, cab := I.ok.cab, hd := I.ok.hd, frames := I.ok.frames, stk := I.ok.stk, exf := I.ok.exf, bs := I.ok.bs, bsz := I.ok.bsz, noex := I.ok.noex, exfs := I.ok.exfs, funs := I.ok.funs, frf := I.ok.frf },
    os := I.os, bare := I.bare, base := I.base, loc := I.loc, cell := I.cell, free := I.free, freeC := I.freeC, pin := I.pin, hok := I.hok, len := I.len }
theorem inCx_out {pins : List (Addr × Obj)} {σ : L2.St} {H : Hp} {s : Shared} (I : Inv (inCx X) pins σ H s) : Inv X pins σ H s :=
  { ok := { mod := I.ok.mod, kind := I.ok.kind, glob := I.ok.glob, blt := I.ok.blt, above := I.ok.above, inj := I.ok.inj, has := I.ok.has, cab := I.ok.cab, hd := I.ok.hd, frames := I.ok.frames, stk := I.ok.stk, exf := I.ok.exf, bs := I.ok.bs, bsz := I.ok.bsz, noex := I.ok.noex, exfs := I.ok.exfs, funs := I.ok.funs, frf := I.ok.frf },
    os := I.os, bare := I.bare, base := I.base, loc := I.loc, cell := I.cell, free := I.free, freeC := I.freeC, pin := I.pin, hok := I.hok, len := I.len }
/-- an own def called from within a built-in -/
theorem run_in {f : Addr} {fd : FuncData} {k : Nat} {ps : List Str} {sp : Sp} {pins : List (Addr × Obj)} {σ : L2.St} {H : Hp} {s : Shared} {Q : VK} {us : List Value} {vs : List V} (F : FnOk X.prog X.w X.K X.mg X.base CX0 k f fd ps sp) (hr : Room (k + 1) X.A) (hb : Binds X.K fd ps [])
    (I : Inv X pins σ H s) (r : Vals vs us) (h : sp vs H Q E0) : wpAny (model X.prog X.w) X.A.in1 (call (.ref f) us) (EP X pins σ Q) X.xe s := by
  have z := run_fn (X := inCx X) (ds := []) (dvs := []) F hr.in1 hb .nil (E := E0) pass0 (inCx_in I) r (Q := Q) (by rw [List.append_nil]; exact h)
  exact thn z fun u s' ⟨v, H', I', rv, q⟩ => ⟨v, H', inCx_out I', rv, q⟩
theorem spec_own {C a dx f : Addr} {fs : List (Str × V)} {m : Str} {pins : List (Addr × Obj)} {σ : L2.St} {H : Hp} {s : Shared} (hm : Meth X.K C m f) (I : Inv X pins σ H s) (ha : H a = some (.ins C dx fs)) : PySem.W.Looks (model X.prog X.w) s.heap (specialOf (.ref a) m) (some (.ref f)) := by
  obtain ⟨_, _, _, e, _⟩ := I.hok a _ ha
  exact (NwA.type_at e rfl).andThen (PySem.W.looks_findIn I.kIn hm.at_)
theorem fn_type {K : PySem.W.Frag} {f : Addr} (h : PySem.W.isFn K (.ref f) = true) : PySem.W.typeIn K (.ref f) = some (.type "function") := by
  unfold PySem.W.isFn at h
  first
    | exact eq_of_beq h
    | (simp at h; exact h)
    | simpa using h
def dLenO (c : Str) (F : DF) (fe : DE) : DE := fun env M => (fe env M).bind fun x M1 => match objOf c x M1 with
  | some _ => (noex (F [x] M1)).bind fun d M2 => match d with
    | .int n => if 0 ≤ n ∧ n < 2 ^ 63 then .ok (.int n) M2 else .bad
    | _ => .bad
  | none => .bad
def dReprO (c : Str) (F : DF) (fe : DE) : DE := fun env M => (fe env M).bind fun x M1 => match objOf c x M1 with
  | some _ => (noex (F [x] M1)).bind fun d M2 => match d with
    | .str m => .ok (.str m) M2
    | _ => .bad
  | none => .bad
def dFmt (fe : DE) : DE := fun env M => (fe env M).bind fun x M1 => match x with
  | .str y => if y.length ≤ 16777216 then .ok (.str y) M1 else .bad
  | .int i => if i.natAbs.log2 < 1920 then .ok (.str (toString i)) M1 else .bad
  | _ => .bad
theorem se_fmt {e : Expr} {fe : DE} {pos : Pos} (he : SE X cl W e fe) : SE X cl W (.FormattedValue e (-1) none pos) (dFmt fe) :=
  PEweak (pe_fmt he) fun σ H Q ⟨ρ, env, M, hE, hS, h⟩ => by
    refine ⟨ρ, env, M, hE, hS, (post_bind h).imp (fun x M1 hx ρ1 v H1 e1 S1 r1 => ?_) (fun _ _ _ z => z)⟩
    cases r1 with
    | str y =>
      have hx' : (if y.length ≤ 16777216 then Out.ok (D.str y) M1 else .bad).post (oP (gx X cl) H ρ Q) (eP (gx X cl) W H ρ) := hx
      split at hx'
      · rename_i hl
        exact .inl ⟨y, rfl, line_of hl, hx' ρ1 _ H1 e1 S1 (.str y)⟩
      · exact hx'.elim
    | int i =>
      have hx' : (if i.natAbs.log2 < 1920 then Out.ok (D.str (toString i)) M1 else .bad).post (oP (gx X cl) H ρ Q) (eP (gx X cl) W H ρ) := hx
      split at hx'
      · rename_i hl
        exact .inr ⟨i, rfl, hl, hx' ρ1 _ H1 e1 S1 (.str _)⟩
      · exact hx'.elim
    | _ => exact hx.elim
def dJs : List DE → Str → DE
  | [], acc => fun _ M => .ok (.str acc) M
  | f :: fs, acc => fun env M => (f env M).bind fun x M1 => match x with
    | .str y => if (acc ++ y).length ≤ 16777216 then dJs fs (acc ++ y) env M1 else .bad
    | _ => .bad
inductive SJ (X : Cx) (cl : Str → Option Addr) (W : WX) : List Expr → List DE → Prop where
  | nil : SJ X cl W [] []
  | cons {e : Expr} {f : DE} {es : List Expr} {fs : List DE} (h : SE X cl W e f) (r : SJ X cl W es fs) : SJ X cl W (e :: es) (f :: fs)
theorem SJ.pj {es : List Expr} {fs : List DE} (h : SJ X cl W es fs) : PJ X es (fs.map (dE (gx X cl) W)) := by
  induction h with
  | nil => exact .nil
  | cons h r ih => exact .cons h ih
theorem dJs_ok : ∀ {fs : List DE} {acc : Str} {σ : L2.St} {H : Hp} {Q : Str → Hp → Prop}, dE G W (dJs fs acc) σ H (fun v H' => ∃ m, v = .str m ∧ Q m H') → tJs (fs.map (dE G W)) acc σ H Q
  | [], acc, σ, H, Q, ⟨ρ, env, M, hE, hS, h⟩ => by
    obtain ⟨m, e, q⟩ := h ρ (.str acc) H .refl hS (.str acc)
    cases e
    exact q
  | f :: fs, acc, σ, H, Q, ⟨ρ, env, M, hE, hS, h⟩ => by
    refine ⟨ρ, env, M, hE, hS, (post_bind h).imp (fun x M1 hx ρ1 v H1 e1 S1 r1 => ?_) (fun _ _ _ z => z)⟩
    cases r1 with
    | str y =>
      have hx' : (if (acc ++ y).length ≤ 16777216 then dJs fs (acc ++ y) env M1 else .bad).post (oP G H ρ (fun v H' => ∃ m, v = .str m ∧ Q m H')) (eP G W H ρ) := hx
      split at hx'
      · rename_i hl
        exact ⟨y, rfl, line_of hl, dJs_ok ⟨ρ1, env, M1, hE.mono e1, S1, hx'.imp (fun _ _ z => oP.sh e1 z) (fun _ _ _ z => eP.sh e1 z)⟩⟩
      · exact hx'.elim
    | _ => exact hx.elim
theorem dJs_str : ∀ {fs : List DE} {acc : Str} {env : En} {M : Sto} {H : Hp} {ρ : Rho} {Q : VK} {E : Exn → En → Sto → Prop}, (dJs fs acc env M).post (oP G H ρ Q) E → (dJs fs acc env M).post (oP G H ρ (fun v H' => ∃ m, v = .str m ∧ Q (.str m) H')) E
  | [], acc, env, M, H, ρ, Q, E, h => fun ρ1 v H1 e1 S1 r1 => by
    have z := h ρ1 v H1 e1 S1 r1
    cases r1
    exact ⟨_, rfl, z⟩
  | f :: fs, acc, env, M, H, ρ, Q, E, h => by
    have h' := post_bind h
    show (Out.bind (f env M) _).post _ _
    cases hf : f env M with
    | bad => rw [hf] at h'; exact h'
    | exc e ev M1 => rw [hf] at h'; exact h'
    | ok x M1 =>
      rw [hf] at h'
      show (match x with
        | .str y => if (acc ++ y).length ≤ 16777216 then dJs fs (acc ++ y) env M1 else .bad
        | _ => .bad).post _ _
      cases x with
      | str y =>
        have h2 : (if (acc ++ y).length ≤ 16777216 then dJs fs (acc ++ y) env M1 else .bad).post (oP G H ρ Q) E := h'
        show (if (acc ++ y).length ≤ 16777216 then dJs fs (acc ++ y) env M1 else .bad).post _ _
        split at h2
        · rename_i hl
          rw [if_pos hl]
          exact dJs_str h2
        · exact h2.elim
      | _ => exact h'.elim
theorem se_joined {v1 v2 : Expr} {rest : List Expr} {fs : List DE} {pos : Pos} (h : SJ X cl W (v1 :: v2 :: rest) fs) : SE X cl W (.JoinedStr (v1 :: v2 :: rest) pos) (dJs fs Str.empty) :=
  PEweak (pe_joined h.pj) fun σ H Q ⟨ρ, env, M, hE, hS, z⟩ => dJs_ok (G := gx X cl) (Q := fun m H' => Q (.str m) H') ⟨ρ, env, M, hE, hS, dJs_str z⟩
end
end Ip
end
section
set_option Elab.async false
set_option linter.all false
set_option maxRecDepth 100000
set_option maxHeartbeats 4000000
set_option autoImplicit false
namespace Ip
open PySem PyProof.Rows L2
open AutoSeq1 (wpAny_loadPart')
abbrev tupIt (t : Addr) : Obj := { cls := .type "tuple_iterator", data := .fields #[.ref t, .int 0 0] }
abbrev enumOb (i : Addr) : Obj := { cls := .type "enumerate", data := .fields #[.none, .bool false, .ref i, rawInt 0, .none, .none] }
theorem enum_newT (t : Addr) (its : Array Value) :
    Meets (Builtin.«enumerate.__new__» ⟨[.type "enumerate", .ref t], []⟩) (fun _ R s => s.heap.IsTuple t its ∧
      R (.ok (.ret (.ref (s.heap.push (tupIt t)).objs.size))) { s with heap := (s.heap.push (tupIt t)).push (enumOb s.heap.objs.size) }) :=
  .of_wp fun prog w A R s hh => by
    obtain ⟨hp, g, dr, tk, os⟩ := s
    obtain ⟨ht, fin⟩ := hh
    have sb := sub_enumerate
    have hT : Heap.IsTuple (Shared.heap ⟨hp, g, dr, tk, os⟩) t its := ht
    obtain ⟨o, ho, hc, hd⟩ := id ht
    wp_walk using wpAny_loadPart' ho
    refine wpAny_stack_any fun stk => wpAny_pure ?_
    split
    · rename_i c _ _ _ _ _
      cases (c == Value.type "enumerate") <;> (wp_walk using wpAny_pyIter_tuple hT; exact ⟨_, rfl, fin⟩)
    · wp_walk using wpAny_pyIter_tuple hT
      exact ⟨_, rfl, fin⟩
theorem call_enumT {prog : Program} {w : World} {A : Around} {E : Value → Shared → Prop} {s : Shared} {t : Addr} {its : Array Value} {Q : Value → Shared → Prop} (ht : s.heap.IsTuple t its)
    (h : ∀ h', IsEnum h' (s.heap.objs.size + 1) s.heap.objs.size 0 .none → h'.IsTupleIter s.heap.objs.size t 0 → (∀ b o, s.heap.get? b = some o → h'.get? b = some o) → Q (.ref (s.heap.objs.size + 1)) { s with heap := h' }) :
    wpAny (model prog w) A (call (.type "enumerate") [.ref t]) Q E s := by
  refine callType_new PySem.F.called_enumerate (by decide) (PySem.F.typeCall_enumerate_1 _) (PySem.F.newCall_enumerate_1 _) (fun ob => PySem.F.args_object_init_2 ob _) PySem.F.entry_enumerate_new (enum_newT t its) ⟨ht, ?_⟩
  have hz : (s.heap.push (tupIt t)).objs.size = s.heap.objs.size + 1 := Heap.size_push ..
  show _ ∧ _
  rw [hz]
  have he : IsEnum ((s.heap.push (tupIt t)).push (enumOb s.heap.objs.size)) (s.heap.objs.size + 1) s.heap.objs.size 0 .none := by
    have q := Heap.get?_push_size (s.heap.push (tupIt t)) (o := enumOb s.heap.objs.size) rfl
    rw [hz] at q
    exact q
  exact ⟨⟨_, he, rfl⟩, h _ he ⟨_, Heap.get?_push_of_some _ (Heap.get?_push_size _ rfl), rfl, rfl⟩ fun b o x => Heap.get?_push_of_some _ (Heap.get?_push_of_some _ x)⟩
/-- the tuple at a, its items in new pairs -/
def IteT (K : PySem.W.Frag) (a : Addr) : It :=
  ⟨fun i H => ∃ (xs : List V) (x : V), SqT K H a xs ∧ xs[i]? = some x, fun i H v H' => ∃ T x, v = .ref T ∧ H T = none ∧ H' = upd H T (.tup [.int (i : Nat), x]) ∧ ∀ xs, SqT K H a xs → xs[i]? = some x, fun i H => ∃ xs : List V, SqT K H a xs ∧ xs.length ≤ i⟩
theorem turn_enumT {P : Program} {w : World} {K : PySem.W.Frag} {elts : List Expr} {kk : Nat} {tpos : Pos} (a e it : Addr) (hai : a ≠ it) (hae : a ≠ e) :
    Turn P w K (.Tuple elts kk tpos) (IteT K a) [e, it] e (fun i h => (∃ old, IsEnum h e it ((i : Nat) : Int) old) ∧ h.IsTupleIter it a i ∧ e ≠ it) where
  mem := by simp
  obj := fun i h st b hb => by
    obtain ⟨⟨old, he⟩, ⟨o, ho, hc, hd⟩, _⟩ := st
    rcases (show b = e ∨ b = it by simpa using hb) with z | z
    · rw [z]; exact ⟨_, he, fun v q => nomatch q⟩
    · rw [z]; exact ⟨o, ho, fun v q => by rw [hd] at q; cases q⟩
  keep := fun i h h' st k => let ⟨⟨old, he⟩, hi, hne⟩ := st; ⟨⟨old, k e (by simp) _ he⟩, hi.at fun o q => k it (by simp) o q, hne⟩
  item := by
    intro X hP hw hK hc i pins s σ H E I hf st hg
    subst hP hw hK
    obtain ⟨⟨old, he⟩, hit, hne⟩ := st
    obtain ⟨xs, x, hq, hx⟩ := hg
    obtain ⟨its, rv, pt, hz⟩ := I.tuple hq
    have ptu : s.heap.IsTuple a its.toArray := pt
    have hel : e < s.heap.objs.size := Heap.lt_size he
    have hil : it < s.heap.objs.size := by obtain ⟨_, q, _⟩ := id hit; exact Heap.lt_size q
    have hal : a < s.heap.objs.size := by obtain ⟨_, q, _⟩ := id ptu; exact Heap.lt_size q
    have hlen : i < its.toArray.size := by
      have q := (List.getElem?_eq_some_iff.mp hx).1
      rw [rv.length] at q
      simpa using q
    have Dr := Draws.tuple (prog := X.prog) (w := X.w) (A := X.A.in1) (I.ok.hd hc) it a hai its.toArray
    refine wpAny_pyNext_enum_itemD Dr he ⟨hit, ptu⟩ hlen hne (by simp; exact ⟨hne, Ne.symm hae⟩) fun u h' tk hu ho hst hT hsz hk => ?_
    obtain ⟨u', hu', ru⟩ := rv.get hx
    have eu : u = u' := by
      have q : its[i]? = some u := by simpa using hu
      rw [hu'] at q
      exact (Option.some.inj q).symm
    subst eu
    refine ⟨_, rfl, wpAny_letOwnedTupleGo_enum (s := { s with heap := h', toks := tk + 1 }) ho fun h'' he' sb => ?_⟩
    have hT2 : h''.get? s.heap.objs.size = some { cls := .type "tuple", data := .seq #[.int i tk, u] } := (sb.2 _ (Nat.ne_of_gt hel)).trans hT
    have new : ObjOk X.prog X.w (upd H s.heap.objs.size (.tup [.int (i : Nat), x])) h'' s.heap.objs.size (.tup [.int (i : Nat), x]) :=
      ⟨by show 2 ≤ sizeLine; decide, [.int i tk, u], .cons ⟨_, rfl⟩ (.cons ru .nil), ⟨_, hT2, rfl, _, rfl⟩⟩
    have I1 : Inv X pins σ (upd H s.heap.objs.size (.tup [.int (i : Nat), x])) { s with heap := h'', toks := tk + 1 } :=
      I.turnedNew (ch := [e, it]) (fun b ob hb q => (sb.2 b (fun z => hb (by simp [z]))).trans (hk b ob (fun z => hb (by simp [z])) (fun z => hb (by simp [z])) q)) hf (Nat.le_refl _) new
    refine ⟨.ref s.heap.objs.size, _, I1, rfl, ⟨_, x, rfl, I.hok.fresh (Nat.le_refl _), rfl, fun ys hy => by rw [I.tuple_inj hy hq]; exact hx⟩, ⟨⟨u, ?_⟩, hst.1.at fun o q => (sb.2 it (Ne.symm hne)).trans q, hne⟩, fun b hb => ?_⟩
    · rw [show ((i + 1 : Nat) : Int) = (i : Int) + 1 by omega]; exact he'
    · have hb' : b < s.heap.objs.size := by
        rcases (show b = e ∨ b = it by simpa using hb) with z | z
        · rw [z]; exact hel
        · rw [z]; exact hil
      rw [upd_ne (Nat.ne_of_lt hb')]
      exact (hf b hb).1
  done := by
    intro X hP hw hK hc i pins s σ H E I hf st hg
    subst hP hw hK
    obtain ⟨⟨old, he⟩, hit, hne⟩ := st
    obtain ⟨xs, hq, hx⟩ := hg
    obtain ⟨its, rv, pt, hz⟩ := I.tuple hq
    have ptu : s.heap.IsTuple a its.toArray := pt
    obtain ⟨f0, f1, f2, f3, f4, f5⟩ := hf it (by simp)
    have hl := rv.length
    have hT : s.TypeIs (.ref e) "enumerate" := ⟨_, he, rfl⟩
    unfold pyNext
    refine wpAny_bind (wpAny_attempt (wpAny_callSpecial?_slot (name := Str.ofString "__next__") hT PySem.F.slot_enumerate_next (wpAny_call_entry PySem.F.slot_enumerate_next hT PySem.F.entry_enumerate_next ?_ (PySem.F.args_enumerate_next_1 _))))
    show wpAny _ _ (field (.ref e) 2 >>= _) _ _ _
    refine wpAny_bind (wpAny_field he rfl (x := .ref it) rfl (wpAny_bind (wpAny_nextOf_tuple_end (I.ok.hd hc) hit ptu (by simp; omega) fun h' x he' hx' => ?_)))
    obtain ⟨o, ho, hcl⟩ := hx'
    refine wpAny_bind (wpAny_isInstance (T := "StopIteration") (b := true) ⟨o, ho, hcl⟩ isSubtype_stop (wpAny_pure ?_))
    exact ⟨rfl, I.turned (t' := s.toks) (fun b o hb q => he' b o hb q) f0 f1 f3 f4 f5⟩
  self := fun A i s Q E st h => let ⟨⟨_, he⟩, _⟩ := st; wpAny_pyIter_enum he h
def iEnumT (K : PySem.W.Frag) (ta : TA) : TI := fun σ H R => ta σ H fun vs H1 => ∃ a xs, vs = [.ref a] ∧ SqT K H1 a xs ∧ R (IteT K a) H1
theorem pi_enumT {X : Cx} {e : Expr} {ta : TA} {p pos tpos : Pos} {elts : List Expr} {kk : Nat} (hg : Gl X "enumerate") (hm : X.mg "enumerate" = none) (ha : PA X [e] ta) (hs : starEach [e] X.env = [(false, eval e X.env)] := by rfl) :
    PI X (.Tuple elts kk tpos) (.Call (.Name "enumerate" p) [e] [] pos) (iEnumT X.K ta) := by
  refine ⟨fun pins s σ H R I h => ?_⟩
  refine Call_ (ld_blt I hg hm boot_enumerate (PyProof.Rows.callWith_type1 (thn (ha.run pos pins s σ H _ I h) fun us s1 ⟨vs, H1, I1, r1, q1⟩ => ?_) hs rfl))
  obtain ⟨a, xs, ex, hq, q⟩ := q1
  subst ex
  cases r1 with
  | cons r rr =>
    cases rr
    cases r
    obtain ⟨its, rv, pt, hz⟩ := I1.tuple hq
    have ptu : s1.heap.IsTuple a its.toArray := pt
    have hal : a < s1.heap.objs.size := by obtain ⟨_, z, _⟩ := id ptu; exact Heap.lt_size z
    refine call_enumT ptu fun h' he hit hk => wpAny_pyIter_enum he ?_
    have I2 : Inv X pins σ H1 { s1 with heap := h' } := I1.kept (t' := s1.toks) hk
    refine ⟨s1.heap.objs.size + 1, [s1.heap.objs.size + 1, s1.heap.objs.size], _, _, H1, rfl, I2, turn_enumT a (s1.heap.objs.size + 1) s1.heap.objs.size (Nat.ne_of_lt hal) (Nat.ne_of_lt (Nat.lt_succ_of_lt hal)), ⟨⟨.none, he⟩, hit, Nat.succ_ne_self _⟩, fun b hb => ?_, q⟩
    have hle : s1.heap.objs.size ≤ b := by
      rcases (show b = s1.heap.objs.size + 1 ∨ b = s1.heap.objs.size by simpa using hb) with z | z
      · rw [z]; exact Nat.le_add_right _ _
      · rw [z]; exact Nat.le_refl _
    exact I1.fpOk hle (I1.hok.fresh hle)
section
variable {X : Cx} {cl : Str → Option Addr} {W : WX} {G : Gx}
theorem good_enumT {H0 : Hp} {ρ0 : Rho} {a : Addr} {vs : List V} {ds : List D} (hs : TpA G H0 a vs) (rs : RVs G H0 ρ0 ds vs) : Good (IteT G.K a) G (enumD 0 ds) ρ0 H0 := by
  intro H ρ mo i
  have hl := (mo.tup _ _ hs).1
  have rs' := rs.mo mo
  refine ⟨fun d hd => ?_, fun hi => ⟨vs, hl, by rw [rs.length]; rw [enumD_len] at hi; exact hi⟩⟩
  rw [enumD_get] at hd
  cases e : ds[i]? with
  | none => rw [e] at hd; cases hd
  | some d0 =>
    rw [e] at hd
    cases hd
    obtain ⟨v, hv, rv⟩ := rs'.get e
    refine ⟨⟨vs, v, hl, hv⟩, fun x H' y ⟨M, S⟩ => ?_⟩
    obtain ⟨T, x', rfl, hT, rfl, y⟩ := y
    have e := y vs hl
    rw [hv] at e; cases e
    refine ⟨Ext.new S hT, fun M' S' => S'.new hT, .tup (TpA.of upd_same) (.cons ?_ (.one (rv.mono (Ext.new S hT))))⟩
    have e0 : ((0 + i : Nat) : Int) = (i : Nat) := by omega
    rw [e0]; exact .int _
/-- enumerate over a list or a tuple -/
def dEnumA (fa : DA) : DA := fun env M => (fa env M).bind fun ds M1 => match ds with
  | [.lst l] => .ok (enumD 0 l) M1
  | [.tup l] => .ok (enumD 0 l) M1
  | _ => .bad
end
end Ip
end
section
set_option Elab.async false
set_option linter.all false
set_option maxRecDepth 100000
set_option maxHeartbeats 4000000
set_option autoImplicit false
namespace Ip
open PySem PyProof.Rows L2
section
variable {X : Cx} {cl : Str → Option Addr} {W : WX} {G : Gx}
theorem se_cval {x f : Str} {C : Addr} {mc : Value} {v : V} {u : Value} {d : D} {p pos : Pos} (hg : Gl X x) (hm : X.mg x = some (.ref C)) (r : ClX.CRead X.K C mc) (c : ClX.CVal X.K C mc f v u) (hr : ∀ H ρ, RV (gx X cl) H ρ d v)
    (hd : (x == ("__debug__" : Str)) = false := by decide) (hb : attributeBase (.Name x p) f X.env (eval (.Name x p) X.env) = eval (.Name x p) X.env := by rfl) : SE X cl W (.Attribute (.Name x p) f pos) (dC d) :=
  PEweak (ClX.pe_cval (pe_glob (v := .ref C) hg hm rfl hd) hb) fun σ H Q ⟨ρ, env, M, hE, hS, q⟩ => ⟨C, mc, v, u, rfl, r, c, q ρ v H .refl hS (hr H ρ)⟩
end
end Ip
end
section
set_option Elab.async false
set_option linter.all false
set_option maxRecDepth 100000
set_option maxHeartbeats 4000000
set_option autoImplicit false
namespace Ip
open PySem PyProof.Rows L2
def celL (o : Option Cell) : Option (List D) := match o with
  | some (.lst l) => some l
  | _ => none
inductive Src where
  | items (l : List D) | cell (n : Nat) | ecell (n : Nat)
def Src.at_ : Src → Nat → Sto → Option (Option D)
  | .items l, i, _ => some l[i]?
  | .cell n, i, M => (celL M[n]?).map fun l => l[i]?
  | .ecell n, i, M => (celL M[n]?).map fun l => (l[i]?).map fun d => .tup [.int (i : Nat), d]
def Good2 (J : It) (G : Gx) (src : Src) (ρ0 : Rho) (H0 : Hp) : Prop := ∀ (H : Hp) (ρ : Rho) (M : Sto), Mo G H0 ρ0 H ρ → RS G H ρ M → ∀ i : Nat,
  (∀ d, src.at_ i M = some (some d) → J.go i H ∧ ∀ x H', J.yld i H x H' → Ext G H ρ H' ρ ∧ RS G H' ρ M ∧ RV G H' ρ d x) ∧ (src.at_ i M = some none → J.stop i H)
abbrev DI := En → Sto → Out Src
def dI2 (G : Gx) (W : WX) (f : DI) : TI := fun σ H R => ∃ ρ env M, RE G H ρ env σ ∧ RS G H ρ M ∧ (f env M).post (fun src M' => ∀ ρ' H' J, Ext G H ρ H' ρ' → RS G H' ρ' M' → Good2 J G src ρ' H' → R J H') (eP G W H ρ)
def SI2 (X : Cx) (cl : Str → Option Addr) (W : WX) (tg iter : Expr) (f : DI) : Prop := PI X tg iter (dI2 (gx X cl) W f)
def forS (t : DG) (fb : DS) (src : Src) : Nat → Nat → DS
  | 0, _, _, _ => .bad
  | f + 1, i, env, M => match src.at_ i M with
    | none => .bad
    | some none => .ok (.nx env) M
    | some (some d) => match t d env with
      | none => .bad
      | some env1 => (fb env1 M).bind fun fl M1 => match fl with
        | .nx e => forS t fb src f (i + 1) e M1
        | .ct e => forS t fb src f (i + 1) e M1
        | .bk e => .ok (.nx e) M1
        | .rt d => .ok (.rt d) M1
def dForS (t : DG) (fi : DI) (fb : DS) : DS := fun env M => (fi env M).bind fun src M1 => forS t fb src 20000000 0 env M1
section
variable {X : Cx} {cl : Str → Option Addr} {W : WX} {G : Gx}
theorem ss_forS {tg iter : Expr} {body : List Stmt} {t : DG} {fi : DI} {fb : DS} {pos : Pos} (hp : PassesOwn (model X.prog X.w) X.A X.env X.xe) (hc : X.calm = true) (hi : SI2 X cl W tg iter fi) (hg : SG X cl tg t) (hb : SSs X cl W body fb)
    (hs : ∀ x, foldedSetIterable iter X.env x = pure x := by intro _; rfl) : SS X cl W (.For tg iter body [] pos) (dForS t fi fb) :=
  PSweak (ps_for hp hc hi hg hb hs) fun D σ H ⟨ρ, env, M, hE, hS, h⟩ => by
    refine ⟨ρ, env, M, hE, hS, (post_bind h).imp (fun src M1 hx ρ1 H1 J e1 S1 good => ?_) (fun _ _ _ z => z)⟩
    refine ⟨fun i m σ H => ∃ ρ env M, Ext (gx X cl) H1 ρ1 H ρ ∧ RE (gx X cl) H ρ env σ ∧ RS (gx X cl) H ρ M ∧ (forS t fb src m i env M).post (sP (gx X cl) H ρ D) (eP (gx X cl) W H ρ),
      ⟨20000000, ρ1, env, M1, .refl, hE.mono e1, S1, Out.post.imp hx (fun _ _ z => sP.sh e1 z) (fun _ _ _ z => eP.sh e1 z)⟩, ?_⟩
    rintro i m σ' H' ⟨ρ', env', M', x1, E', S', q⟩
    obtain ⟨g1, g2⟩ := good H' ρ' M' x1.mo S' i
    cases m with
    | zero => exact q.elim
    | succ m =>
      unfold forS at q
      split at q
      · exact q.elim
      · rename_i hat
        exact .inl ⟨g2 hat, q ρ' σ' H' .refl S' E'⟩
      · rename_i d hat
        obtain ⟨go, yl⟩ := g1 d hat
        refine .inr ⟨go, fun σ H => ∃ ρ env M, Ext (gx X cl) H1 ρ1 H ρ ∧ RE (gx X cl) H ρ env σ ∧ RS (gx X cl) H ρ M ∧ (forS t fb src m (i + 1) env M).post (sP (gx X cl) H ρ D) (eP (gx X cl) W H ρ),
          fun σ2 H2 n2 => ⟨m, Nat.lt_succ_self _, n2⟩, fun x H2 y => ?_⟩
        obtain ⟨x2, rs2, r2⟩ := yl x H2 y
        split at q
        · exact q.elim
        · rename_i env1 he1
          refine ⟨ρ', env', d, env1, E'.mono x2, r2, he1, fun σ3 E3 => ?_⟩
          refine ⟨ρ', env1, M', E3, rs2, (post_bind q).imp (fun fl M4 h4 => ?_) (fun _ _ _ z => eP.sh x2 z)⟩
          cases fl with
          | nx e => exact fun ρ5 σ5 H5 x5 S5 E5 => ⟨ρ5, e, M4, x1.trans (x2.trans x5), E5, S5, Out.post.imp h4 (fun _ _ z => sP.sh (x2.trans x5) z) (fun _ _ _ z => eP.sh (x2.trans x5) z)⟩
          | ct e => exact fun ρ5 σ5 H5 x5 S5 E5 => ⟨ρ5, e, M4, x1.trans (x2.trans x5), E5, S5, Out.post.imp h4 (fun _ _ z => sP.sh (x2.trans x5) z) (fun _ _ _ z => eP.sh (x2.trans x5) z)⟩
          | bk e => exact nP.sh x2 h4
          | rt d => exact oP.sh x2 h4
theorem good2_of {J : It} {l : List D} {ρ0 : Rho} {H0 : Hp} (g : Good J G l ρ0 H0) : Good2 J G (.items l) ρ0 H0 := fun H ρ M mo S i => by
  obtain ⟨g1, g2⟩ := g H ρ mo i
  refine ⟨fun d hd => ?_, fun hn => g2 ?_⟩
  · obtain ⟨go, yl⟩ := g1 d (Option.some.inj hd)
    exact ⟨go, fun x H' y => let ⟨a, b, c⟩ := yl x H' y ⟨M, S⟩; ⟨a, b M S, c⟩⟩
  · exact List.getElem?_eq_none_iff.mp (Option.some.inj hn)
theorem cell_at {H : Hp} {ρ : Rho} {M : Sto} {n : Nat} {a : Addr} {l : List D} (S : RS G H ρ M) (ha : ρ.c[n]? = some a) (h : celL M[n]? = some l) : ∃ vs, H a = some (.lst vs) ∧ RVs G H ρ l vs := by
  cases e : M[n]? with
  | none => rw [e] at h; cases h
  | some c =>
    rw [e] at h
    cases c with
    | lst l' =>
      cases h
      obtain ⟨b, hb, vs, q, r⟩ := S.at_ _ _ e
      rw [ha] at hb; cases hb
      exact ⟨vs, q, r⟩
    | ins _ _ _ => cases h
    | dK _ _ => cases h
    | dT _ _ => cases h
theorem good2_cell {ρ0 : Rho} {H0 : Hp} {n : Nat} {a : Addr} (ha : ρ0.c[n]? = some a) : Good2 (Itl G.K a) G (.cell n) ρ0 H0 := fun H ρ M mo S i => by
  have ha' := mo.pre n a ha
  refine ⟨fun d hd => ?_, fun hn => ?_⟩
  · have hd' : (celL M[n]?).map (fun l => l[i]?) = some (some d) := hd
    cases e : celL M[n]? with
    | none => rw [e] at hd'; cases hd'
    | some l =>
      rw [e] at hd'
      have hi : l[i]? = some d := Option.some.inj hd'
      obtain ⟨vs, hv, rs⟩ := cell_at S ha' e
      obtain ⟨v, hvi, rv⟩ := rs.get hi
      refine ⟨⟨vs, v, SqL.of hv, hvi⟩, fun x H' y => ?_⟩
      obtain ⟨rfl, y⟩ := y
      have q := y vs (SqL.of hv)
      rw [hvi] at q; cases q
      exact ⟨.refl, S, rv⟩
  · have hn' : (celL M[n]?).map (fun l => l[i]?) = some none := hn
    cases e : celL M[n]? with
    | none => rw [e] at hn'; cases hn'
    | some l =>
      rw [e] at hn'
      have hi : l[i]? = none := Option.some.inj hn'
      obtain ⟨vs, hv, rs⟩ := cell_at S ha' e
      exact ⟨vs, SqL.of hv, by rw [rs.length]; exact List.getElem?_eq_none_iff.mp hi⟩
theorem good2_ecell {ρ0 : Rho} {H0 : Hp} {n : Nat} {a : Addr} (ha : ρ0.c[n]? = some a) : Good2 (Ite G.K a) G (.ecell n) ρ0 H0 := fun H ρ M mo S i => by
  have ha' := mo.pre n a ha
  refine ⟨fun d hd => ?_, fun hn => ?_⟩
  · have hd' : (celL M[n]?).map (fun l => (l[i]?).map fun d => D.tup [.int (i : Nat), d]) = some (some d) := hd
    cases e : celL M[n]? with
    | none => rw [e] at hd'; cases hd'
    | some l =>
      rw [e] at hd'
      have hi : (l[i]?).map (fun d => D.tup [.int (i : Nat), d]) = some d := Option.some.inj hd'
      cases e2 : l[i]? with
      | none => rw [e2] at hi; cases hi
      | some d0 =>
        rw [e2] at hi; cases hi
        obtain ⟨vs, hv, rs⟩ := cell_at S ha' e
        obtain ⟨v, hvi, rv⟩ := rs.get e2
        refine ⟨⟨vs, v, SqL.of hv, hvi⟩, fun x H' y => ?_⟩
        obtain ⟨T, x', rfl, hT, rfl, y⟩ := y
        have q := y vs (SqL.of hv)
        rw [hvi] at q; cases q
        exact ⟨Ext.new S hT, S.new hT, .tup (TpA.of upd_same) (.cons (.int _) (.one (rv.mono (Ext.new S hT))))⟩
  · have hn' : (celL M[n]?).map (fun l => (l[i]?).map fun d => D.tup [.int (i : Nat), d]) = some none := hn
    cases e : celL M[n]? with
    | none => rw [e] at hn'; cases hn'
    | some l =>
      rw [e] at hn'
      have hi : (l[i]?).map (fun d => D.tup [.int (i : Nat), d]) = none := Option.some.inj hn'
      have hi' : l[i]? = none := by
        cases e2 : l[i]? with
        | none => rfl
        | some d0 => rw [e2] at hi; cases hi
      obtain ⟨vs, hv, rs⟩ := cell_at S ha' e
      exact ⟨vs, SqL.of hv, by rw [rs.length]; exact List.getElem?_eq_none_iff.mp hi'⟩
def srcD (x : D) (M : Sto) : Option Src := match x with
  | .ref n => (celL M[n]?).map fun _ => .cell n
  | x => (iterD x).map .items
def dIter2 (fe : DE) : DI := fun env M => (fe env M).bind fun x M1 => match srcD x M1 with
  | some s => .ok s M1
  | none => .bad
theorem si2_iter {tg e : Expr} {fe : DE} (he : SE X cl W e fe) : SI2 X cl W tg e (dIter2 fe) :=
  PIweak (PI.or (pi_list he) (pi_tup he)) fun σ H R ⟨ρ, env, M, hE, hS, h⟩ => by
    have h' := post_bind h
    cases hf : fe env M with
    | bad => rw [hf] at h'; exact h'.elim
    | exc e ev M1 => exact .inl ⟨ρ, env, M, hE, hS, by rw [hf] at h' ⊢; exact h'⟩
    | ok d M1 =>
      rw [hf] at h'
      cases d with
      | lst l => exact .inl ⟨ρ, env, M, hE, hS, by
          rw [hf]
          intro ρ1 v H1 e1 S1 r1
          cases r1 with
          | lst hs hn rs => exact ⟨_, rfl, ⟨_, SqL.of hs⟩, h' ρ1 H1 _ e1 S1 (good2_of (good_lst (G := gx X cl) hs hn rs))⟩⟩
      | scr ns => exact .inl ⟨ρ, env, M, hE, hS, by
          rw [hf]
          intro ρ1 v H1 e1 S1 r1
          cases r1 with
          | scr hs =>
            refine ⟨_, rfl, ⟨ns.map V.int, ?_⟩, h' ρ1 H1 _ e1 S1 (good2_of (good_scr (G := gx X cl) hs))⟩
            rcases hs with ⟨h, _⟩ | h
            · exact .inl h
            · exact h H1⟩
      | tup l => exact .inr ⟨ρ, env, M, hE, hS, by
          rw [hf]
          intro ρ1 v H1 e1 S1 r1
          cases r1 with
          | tup hs rs => exact ⟨_, rfl, ⟨_, hs.1⟩, h' ρ1 H1 _ e1 S1 (good2_of (good_tup (G := gx X cl) hs rs))⟩⟩
      | ref n =>
        change (match (celL M1[n]?).map (fun _ => Src.cell n) with
          | some s => Out.ok s M1
          | none => .bad).post _ _ at h'
        cases hc : celL M1[n]? with
        | none => rw [hc] at h'; exact h'.elim
        | some l =>
          rw [hc] at h'
          exact .inl ⟨ρ, env, M, hE, hS, by
            rw [hf]
            intro ρ1 v H1 e1 S1 r1
            cases r1 with
            | ref ha =>
              obtain ⟨vs, hv, _⟩ := cell_at S1 ha hc
              exact ⟨_, rfl, ⟨_, SqL.of hv⟩, h' ρ1 H1 _ e1 S1 (good2_cell (G := gx X cl) ha)⟩⟩
      | _ => exact h'.elim
def esrcD (x : D) (M : Sto) : Option Src := match x with
  | .ref n => (celL M[n]?).map fun _ => .ecell n
  | .lst l => some (.items (enumD 0 l))
  | .tup l => some (.items (enumD 0 l))
  | _ => none
def dEnum2 (fe : DE) : DI := fun env M => (fe env M).bind fun x M1 => match esrcD x M1 with
  | some s => .ok s M1
  | none => .bad
theorem si2_enum {e : Expr} {fe : DE} {p pos tpos : Pos} {elts : List Expr} {kk : Nat} (hg : Gl X "enumerate") (hm : X.mg "enumerate" = none) (he : SE X cl W e fe) (hst : starEach [e] X.env = (false, eval e X.env) :: starEach [] X.env := by rfl) (hs : starEach [e] X.env = [(false, eval e X.env)] := by rfl) :
    SI2 X cl W (.Tuple elts kk tpos) (.Call (.Name "enumerate" p) [e] [] pos) (dEnum2 fe) :=
  PIweak (PI.or (pi_enum hg hm (sa_cons (cl := cl) (W := W) he sa_nil hst) hs) (pi_enumT hg hm (sa_cons (cl := cl) (W := W) he sa_nil hst) hs)) fun σ H R ⟨ρ, env, M, hE, hS, h⟩ => by
    have h' := post_bind h
    cases hf : fe env M with
    | bad => rw [hf] at h'; exact h'.elim
    | exc e ev M1 => exact .inl ⟨ρ, env, M, hE, hS, by unfold dConsA; rw [hf] at h' ⊢; exact h'⟩
    | ok d M1 =>
      rw [hf] at h'
      have fa : dConsA fe dNilA env M = .ok [d] M1 := by unfold dConsA; rw [hf]; rfl
      cases d with
      | lst l => exact .inl ⟨ρ, env, M, hE, hS, by
          rw [fa]
          intro ρ1 vs H1 e1 S1 r1
          cases r1 with
          | cons q1 q2 =>
            cases q2
            cases q1 with
            | lst hs hn rs => exact ⟨_, _, rfl, SqL.of hs, h' ρ1 H1 _ e1 S1 (good2_of (good_enum (G := gx X cl) hs hn rs))⟩⟩
      | tup l => exact .inr ⟨ρ, env, M, hE, hS, by
          rw [fa]
          intro ρ1 vs H1 e1 S1 r1
          cases r1 with
          | cons q1 q2 =>
            cases q2
            cases q1 with
            | tup hs rs => exact ⟨_, _, rfl, hs.1, h' ρ1 H1 _ e1 S1 (good2_of (good_enumT (G := gx X cl) hs rs))⟩⟩
      | ref n =>
        change (match (celL M1[n]?).map (fun _ => Src.ecell n) with
          | some s => Out.ok s M1
          | none => .bad).post _ _ at h'
        cases hc : celL M1[n]? with
        | none => rw [hc] at h'; exact h'.elim
        | some l =>
          rw [hc] at h'
          exact .inl ⟨ρ, env, M, hE, hS, by
            rw [fa]
            intro ρ1 vs H1 e1 S1 r1
            cases r1 with
            | cons q1 q2 =>
              cases q2
              cases q1 with
              | ref ha =>
                obtain ⟨ws, hv, _⟩ := cell_at S1 ha hc
                exact ⟨_, _, rfl, SqL.of hv, h' ρ1 H1 _ e1 S1 (good2_ecell (G := gx X cl) ha)⟩⟩
      | _ => exact h'.elim
end
/-- a loop by its invariant -/
theorem forS_inv {t : DG} {fb : DS} {src : Src} (n : Nat) (P : Nat → En → Sto → Prop) (hend : ∀ env M, P n env M → src.at_ n M = some none)
    (hstep : ∀ i env M, i < n → P i env M → ∃ d env1 env' M', src.at_ i M = some (some d) ∧ t d env = some env1 ∧ fb env1 M = .ok (.nx env') M' ∧ P (i + 1) env' M') :
    ∀ (k i f : Nat) (env : En) (M : Sto), i + k = n → k < f → P i env M → ∃ env' M', forS t fb src f i env M = .ok (.nx env') M' ∧ P n env' M'
  | 0, i, f + 1, env, M, hi, _, hP => by
    have : i = n := by omega
    subst this
    refine ⟨env, M, ?_, hP⟩
    unfold forS
    rw [hend env M hP]
  | k + 1, i, f + 1, env, M, hi, hf, hP => by
    obtain ⟨d, env1, env', M', h1, h2, h3, h4⟩ := hstep i env M (by omega) hP
    obtain ⟨e2, M2, h5, h6⟩ := forS_inv n P hend hstep k (i + 1) f env' M' (by omega) (by omega) h4
    refine ⟨e2, M2, ?_, h6⟩
    unfold forS
    rw [h1]
    simp only [h2, h3, Out.bind]
    exact h5
  | _, _, 0, _, _, _, h, _ => absurd h (by omega)
end Ip
end
section
set_option Elab.async false
set_option linter.all false
set_option maxRecDepth 100000
set_option maxHeartbeats 4000000
set_option autoImplicit false
namespace Ip
open PySem PySem.Spec PyProof.Rows L2
section
variable {X : Cx} {cl : Str → Option Addr} {W : WX} {G : Gx}
def tCMeth0 (C : Addr) (sp : Sp) (E : XK) (ta : TE) : TE := fun σ H Q => ta σ H fun x H1 => x = .ref C ∧ sp [.ref C] H1 Q E
theorem pe_cmeth0 {CX : CXT} {k : Nat} {C p g : Addr} {mc : Value} {fd : FuncData} {ps : List Str} {sp : Sp} {E : XK} {o : Expr} {m : Str} {pos apos : Pos} {ta : TE} {pl : Sem Bool} (he : PE X o ta) (r : ClX.CRead X.K C mc) (c : ClX.CMet X.K C mc m p g) (F : FnOk X.prog X.w X.K X.mg X.base CX k g fd ps sp) (hr : Room k X.A) (hb : Binds X.K fd ps []) (hx : Passes CX X E)
    (ht : eval (.Call (.Attribute o m apos) [] [] pos) X.env = (do
      let ov ← eval o X.env
      standAt apos.atName
      let (f, first) ← holding [ov] (getMethod ov m pl)
      callWith pos f first (backTo pos (starEach [] X.env)) (backToKw pos (keywordEach [] X.env))) := by rfl) :
    PE X (.Call (.Attribute o m apos) [] [] pos) (tCMeth0 C sp E ta) := by
  refine ⟨fun pins s σ H Q I h => ?_⟩
  refine PySem.W.methodCall_KW (pl := pl) (thn (he.run pins s σ H _ I h) fun u s1 ⟨x, H1, I1, rx, ex, q⟩ => ?_) ht
  subst ex
  obtain rfl : u = Value.ref C := rx
  refine ClX.getmethcm_ok I1 r c fun s2 I2 => ?_
  refine PySem.W.callWith_M0 (g := g) (self := .ref C) ⟨ClX.pin_at I2, I2.kIn⟩ c.fi ?_
  exact ClX.run_cm (us := []) (vs := []) (F.raw hb .nil) hr hx I2 .nil q
/-- C.m() -/
def dCMeth (c : Str) (F : DF) : DE := fun _ M => noex (F [.cls c] M)
theorem se_cmeth0 {c x : Str} {k : Nat} {C p g : Addr} {mc : Value} {fd : FuncData} {ps : List Str} {F : DF} {m : Str} {pos apos npos : Pos} {pl : Sem Bool} (hC : cl c = some C) (hg : Gl X x) (hm : X.mg x = some (.ref C)) (r : ClX.CRead X.K C mc) (cm : ClX.CMet X.K C mc m p g) (Fk : FnOk X.prog X.w X.K X.mg X.base CX0 k g fd ps (spD (gx X cl) F)) (hr : Room k X.A) (hb : Binds X.K fd ps []) (hd : (x == ("__debug__" : Str)) = false := by decide)
    (ht : eval (.Call (.Attribute (.Name x npos) m apos) [] [] pos) X.env = (do
      let ov ← eval (.Name x npos) X.env
      standAt apos.atName
      let (f, first) ← holding [ov] (getMethod ov m pl)
      callWith pos f first (backTo pos (starEach [] X.env)) (backToKw pos (keywordEach [] X.env))) := by rfl) :
    SE X cl W (.Call (.Attribute (.Name x npos) m apos) [] [] pos) (dCMeth c F) :=
  PEweak (pe_cmeth0 (E := E0) (pe_glob (v := .ref C) hg hm rfl hd) r cm Fk hr hb pass0 ht) fun σ H Q ⟨ρ, env, M, hE, hS, h⟩ =>
    ⟨rfl, ρ, M, [.cls c], hS, .one (.cls hC), (noexF h).imp (fun _ _ z => z) (fun _ _ _ z => z)⟩
/-- x(..), x a local name that holds a class -/
def tMakeV (i : Nat) (C : Addr) (t : TE) : TE := fun σ H Q => σ[i]? = some (some (.ref C)) ∧ t σ H Q
theorem pe_makeV {CX : CXT} {k i : Nat} {f C : Addr} {fd : FuncData} {ps : List Str} {ds : List Value} {dvs : List V} {sp : Sp} {E : XK} {x : Str} {p pos : Pos} {e : Expr} {es : List Expr} {t : TA} (M : Mk X.K C f) (F : FnOk X.prog X.w X.K X.mg X.base CX k f fd ps sp) (hr : Room (k + 1) X.A) (hN : X.N[i]? = some x) (hv : Vis X.env.scope x) (hb : Binds X.K fd ps ds) (hd : Vals dvs ds) (hx : Passes CX X E)
    (ha : PA X (e :: es) t) (hdb : (x == ("__debug__" : Str)) = false := by decide) (hcd : (x == ("__classdict__" : Str)) = false := by decide) (he : starEach (e :: es) X.env = (false, eval e X.env) :: starEach es X.env := by rfl) (hpl : (backTo pos (starEach es X.env)).any (·.1) = false := by rfl) :
    PE X (.Call (.Name x p) (e :: es) [] pos) (tMakeV i C (tMake C sp dvs E t)) := by
  refine ⟨fun pins s σ H Q I h => ?_⟩
  obtain ⟨hs, h⟩ := h
  refine wpAny_Call_Name_kw (thn ((pe_var (pos := p) hN hv hdb hcd).run pins s σ H (fun v H1 => v = .ref C ∧ H1 = H) I ⟨.ref C, hs, rfl, rfl⟩) fun u s1 ⟨v, H1, I1, r1, q1⟩ => ?_)
  obtain ⟨rfl, rfl⟩ := q1
  cases r1
  refine PySem.W.callWith_K (h₀ := X.base) I.ok.mod.kin M.kp (thn (ha.run pos pins s1 σ _ _ I1 h) fun us s2 ⟨vs, H2, I2, r, q⟩ => ⟨I2.kIn, ?_⟩) he hpl
  exact run_make M F hr hb hd hx I2 r q
def dMakeV (i : Nat) (c : Str) (F : DF) (fa : DA) : DE := fun env M => match env[i]? with
  | some (some (.cls c')) => if c' = c then dMake c F fa env M else .bad
  | _ => .bad
theorem make_ok {c : Str} {C : Addr} {F : DF} {fa : DA} {σ : L2.St} {H : Hp} {Q : VK} (hC : G.cl c = some C) (h : dE G W (dMake c F fa) σ H Q) : tMake C (spD G F) [] E0 (dA G W fa) σ H Q := by
  obtain ⟨ρ, env, M, hE, hS, h⟩ := h
  refine ⟨ρ, env, M, hE, hS, (post_bind h).imp (fun ds M1 hx ρ1 vs H1 e1 S1 r1 x dx nx ndx nex => ?_) (fun _ _ _ z => z)⟩
  show spD G F (.ref x :: (vs ++ [])) _ _ E0
  rw [List.append_nil]
  have S2 : RS G (upd H1 dx (.own x)) ρ1 M1 := S1.new ndx
  have x2 : Ext G H1 ρ1 (upd H1 dx (.own x)) ρ1 := Ext.new S1 ndx
  have nx2 : upd H1 dx (.own x) x = none := by rw [upd_ne (Ne.symm nex)]; exact nx
  have x3 : Ext G (upd H1 dx (.own x)) ρ1 (upd (upd H1 dx (.own x)) x (.ins C dx [])) (ρ1.add x) := Ext.cell S2 nx2
  have S3 : RS G (upd (upd H1 dx (.own x)) x (.ins C dx [])) (ρ1.add x) (M1 ++ [.ins c [] []]) := S2.cell nx2 ⟨C, dx, [], hC, upd_same, rfl, .nil⟩
  refine ⟨ρ1.add x, _, .ref M1.length :: ds, S3, .cons (.ref S1.at_new) ((r1.mono x2).mono x3), (noexF (post_bind hx)).imp (fun d M2 hd ρ4 v H4 e4 S4 r4 => ?_) (fun _ _ _ z => z)⟩
  split at hd
  · cases r4
    refine ⟨rfl, frzO_ok (H := H1) (ρ := ρ1) S1 (hd.imp (fun _ _ z => oP.sh e1 z) (fun _ _ _ z => z)) ρ4 (.ref x) H4 (x2.trans (x3.trans e4)) S4 (.ref (e4.pre _ _ S1.at_new))⟩
  · exact hd.elim
theorem se_makeV (i : Nat) {c : Str} {C f : Addr} {k : Nat} {fd : FuncData} {ps : List Str} {F : DF} {x : Str} {e : Expr} {es : List Expr} {fa : DA} {p pos : Pos} (hC : cl c = some C) (Mk' : Mk X.K C f) (Fk : FnOk X.prog X.w X.K X.mg X.base CX0 k f fd ps (spD (gx X cl) F)) (hr : Room (k + 1) X.A) (hN : X.N[i]? = some x) (hv : Vis X.env.scope x) (hb : Binds X.K fd ps [])
    (ha : SA X cl W (e :: es) fa) (hdb : (x == ("__debug__" : Str)) = false := by decide) (hcd : (x == ("__classdict__" : Str)) = false := by decide) (he : starEach (e :: es) X.env = (false, eval e X.env) :: starEach es X.env := by rfl) (hpl : (backTo pos (starEach es X.env)).any (·.1) = false := by rfl) :
    SE X cl W (.Call (.Name x p) (e :: es) [] pos) (dMakeV i c F fa) :=
  PEweak (pe_makeV (i := i) Mk' Fk hr hN hv hb .nil (E := E0) pass0 ha hdb hcd he hpl) fun σ H Q ⟨ρ, env, M, hE, hS, h⟩ => by
    unfold dMakeV at h
    split at h
    · rename_i c' hc'
      split at h
      · rename_i e
        subst e
        obtain ⟨v, hv, r⟩ := hE.2 i _ hc'
        cases r with
        | cls e0 =>
          have e1 : some _ = some C := e0.symm.trans hC
          cases e1
          exact ⟨hv, make_ok (G := gx X cl) hC ⟨ρ, env, M, hE, hS, h⟩⟩
      · exact h.elim
    · exact h.elim
theorem rv_plain {K : PySem.W.Frag} {cl : Str → Option Addr} {a b : Addr} {od oe : Option Addr} {n m : Nat} {sl sm : Array (Option Value)} {t1 t2 : Tok}
    (h1 : K.lookup a = some ⟨.type "tuple", od, .seq #[.ref b] n, sl⟩) (h2 : K.lookup b = some ⟨.type "tuple", oe, .seq #[.str "old" t1, .int 0 t2, .none] m, sm⟩) (H : Hp) (ρ : Rho) :
    RV ⟨K, cl⟩ H ρ (.tup [.tup [.str "old", .int 0, .non]]) (.ref a) :=
  .tup (vs := [.ref b]) (.no (.inr ⟨_, _, _, h1, rfl, rfl, by rw [sizeLine_eq]; exact (by decide : (1 : Nat) ≤ 16777216), .cons rfl .nil⟩) fun z => by obtain ⟨i, e⟩ := z.2 (.ref b) (by simp); cases e)
    (.one (.tup (vs := [.str "old", .int 0, .non]) (.no (.inr ⟨_, _, _, h2, rfl, rfl, by rw [sizeLine_eq]; exact (by decide : (3 : Nat) ≤ 16777216), .cons ⟨t1, rfl⟩ (.cons ⟨t2, rfl⟩ (.cons rfl .nil))⟩) fun z => by obtain ⟨i, e⟩ := z.2 .non (by simp); cases e) (.cons (.str _) (.cons (.int 0) (.cons .non .nil)))))
end
end Ip
end
section
set_option Elab.async false
set_option linter.all false
set_option maxRecDepth 100000
set_option maxHeartbeats 4000000
set_option autoImplicit false
namespace Ip
open PySem PySem.Spec PyProof.Rows L2
/-- what the text must say of a class whose instances have types -/
structure InsT (K : PySem.W.Frag) (C : Addr) : Prop where
  cl : Cls K C
  ha : PySem.W.findIn K (.ref C) "__class__" = some (some (.builtin "object.__class__"))
  hn : PySem.W.specialIn K (.builtin "object.__class__") "__get__" = some (some (.builtin "getset_descriptor.__get__"))
  tk : PySem.W.takesIn K (.builtin "object.__class__") = some true
  hm : PySem.W.mroIn K C (.type "object") = some true
structure EqOwn (K : PySem.W.Frag) (C f : Addr) : Prop where
  it : InsT K C
  eq : PySem.W.findIn K (.ref C) "__eq__" = some (some (.ref f))
  fn : PySem.W.isFn K (.ref f) = true
  ne : PySem.W.findIn K (.ref C) "__ne__" = some (some (.builtin "object.__ne__"))
def mroTys : List String := ["NoneType", "bool", "int", "str", "tuple", "list"]
theorem mro_ok : ∀ t ∈ mroTys, ∃ l : List String, fastBuiltinMro t = some (l.map Value.type) := by
  intro t ht
  simp only [mroTys, List.mem_cons, List.not_mem_nil, or_false] at ht
  rcases ht with rfl | rfl | rfl | rfl | rfl | rfl
  · exact ⟨["NoneType", "object"], by decide +kernel⟩
  · exact ⟨["bool", "int", "object"], by decide +kernel⟩
  · exact ⟨["int", "object"], by decide +kernel⟩
  · exact ⟨["str", "object"], by decide +kernel⟩
  · exact ⟨["tuple", "object"], by decide +kernel⟩
  · exact ⟨["list", "object"], by decide +kernel⟩
theorem sub_own {K : PySem.W.Frag} {C : Addr} {t : String} (ht : t ∈ mroTys) : PySem.W.subIn K (.type t) (.ref C) = some false := by
  obtain ⟨l, e⟩ := mro_ok t ht
  show (fastBuiltinMro t).map (·.contains (.ref C)) = some false
  rw [e, Option.map_some]
  congr 1
  rw [List.contains_eq_any_beq, List.any_eq_false]
  intro v hv
  obtain ⟨n, _, rfl⟩ := List.mem_map.mp hv
  exact fun z => by cases eq_of_beq z
/-- the type of a value beside instances of the class at C -/
theorem tyD_mem {x : D} {M : Sto} {t : String} (h : tyD x M = some t) : t ∈ mroTys := by
  unfold tyD at h
  cases x with
  | ref n =>
    simp only at h
    split at h
    · cases h; decide
    · cases h
  | _ => first | (cases h; decide) | (cases h; done)
section
variable {X : Cx} {cl : Str → Option Addr} {W : WX} {G : Gx}
def rEqO (K : PySem.W.Frag) (C : Addr) (n : Bool) (sp : Sp) : R2 := fun x y H Q => ∃ a dx fs t, x = .ref a ∧ H a = some (.ins C dx fs) ∧ TyX K H y t ∧ PySem.W.notFirst K C t = true ∧ sp [.ref a, y] H (fun v H' => ∃ b, v = .bl b ∧ Q (.bl (if n then !b else b)) H') E0
theorem op_eqO {C f : Addr} {fd : FuncData} {k : Nat} {ps : List Str} {sp : Sp} (F : FnOk X.prog X.w X.K X.mg X.base CX0 k f fd ps sp) (o : EqOwn X.K C f) (hr : Room (k + 1) X.A) (hb : Binds X.K fd ps []) : OpR X (compareOp .Eq) (rEqO X.K C false sp) := by
  intro pins s σ H x y v u Q I rx ry h
  obtain ⟨a, dx, fs, t, rfl, ha, ty, hn, h⟩ := h
  cases rx
  obtain ⟨mA, O, _⟩ := ins_get I.hok ha
  obtain ⟨od, J, _⟩ := O.look
  obtain ⟨m, hF⟩ := I.fr
  obtain ⟨P, Z, p, _⟩ := kit_of I ry ty
  show wpAny (model X.prog X.w) X.A (richCompare .Eq (.ref a) u) (EP X pins σ Q) X.xe s
  refine PySem.W.cmp_K (op := .Eq) (tb := t) hr.units0 hF I.ok.mod.kin J (Z.ty _ _ I.kIn p) hn o.eq o.fn ?_
  refine thn (run_fn (vs := [.ref a, y]) F (hr.mono (Nat.le_succ k)) hb .nil (E := E0) pass0 I (.cons rfl (.cons ry .nil)) h) fun w s1 ⟨z, H1, I1, rz, b, ez, q⟩ => ?_
  subst ez
  cases rz
  exact ⟨.bl b, H1, I1, rfl, q⟩
theorem call_objNe {prog : Program} {w : World} {A : Around} {E : Value → Shared → Prop} {s : Shared} {K : PySem.W.Frag} {x C f : Addr} {ox : Obj} {od : Option Obj} {u : Value} {Q : Value → Shared → Prop} (hu : A.units + 1 < cLine) (X : K.In s.heap) (I : PySem.W.InstAt s.heap x ox C od) (hm : PySem.W.mroIn K C (.type "object") = some true)
    (hs : PySem.W.findIn K (.ref C) "__eq__" = some (some (.ref f))) (hf : PySem.W.isFn K (.ref f) = true) (h : wpAny (model prog w) A.in1 (call (.ref f) [.ref x, u]) (fun v s' => ∃ b, v = .bool b ∧ Q (.bool (!b)) s') E s) :
    wpAny (model prog w) A (call (.builtin "object.__ne__") [.ref x, u]) Q E s := by
  refine wpAny_call (codeAny_call_builtin F.cmp_object.ne.plain F.cmpEntry_ne (PySem.W.check_slot F.cmpKind_ne F.cmpSplit_ne (I.type.andThen (PySem.W.looks_mroIn X hm)) (F.cmpArgs_ne _ _) ?_))
  unfold Builtin.«object.__ne__»
  repeat (first
    | with_reducible refine wpAny_cRoomFor hu ?_
    | (refine wpAny_bind (m := callSpecialIfBound? (.ref x) (Str.ofString "__eq__") [u])
        (PySem.W.ifBound_K X I hs hf (wpAny_mono h (fun r s' hr => by
          obtain ⟨b, rfl, hq⟩ := hr
          repeat (first | exact hq | exact wpAny_pure hq | exact wpAny_truthy_bool hq | (refine wpAny_bind (m := truthy (.bool _)) (wpAny_truthy_bool ?_)) | wp_step)) fun _ _ e => e)))
    | wp_step)
theorem ifBound_objNe {M : Model} {A : Around} {E : Value → Shared → Prop} {s : Shared} {K : PySem.W.Frag} {x C : Addr} {ox : Obj} {od : Option Obj} {args : List Value} {Q : Option Value → Shared → Prop} (X : K.In s.heap) (I : PySem.W.InstAt s.heap x ox C od) (hs : PySem.W.findIn K (.ref C) "__ne__" = some (some (.builtin "object.__ne__")))
    (h : wpAny M A (call (.builtin "object.__ne__") (.ref x :: args)) (fun v => Q (some v)) E s) : wpAny M A (callSpecialIfBound? (.ref x) "__ne__" args) Q E s := by
  simp only [callSpecialIfBound?, bindSpecialIfBound?]
  refine wpAny_holding (wpAny_bind (wpAny_bind (wpAny_bind (I.type.here ((PySem.W.looks_findIn X hs).here ?_)))))
  refine wpAny_bind (wpAny_askSetting (wpAny_ite ?_))
  have fin : wpAny M A (call (.builtin "object.__ne__") ([.ref x] ++ args) >>= fun v => pure (some v)) Q E s := wpAny_bind (wpAny_mono h (fun v s' h' => wpAny_pure h') fun _ _ h' => h')
  split
  · exact wpAny_bind (wpAny_of_eq (F.cmp_object.ne.bind _) (wpAny_pure (by exact fin)))
  · exact wpAny_tryCatch (wpAny_bind (wpAny_of_eq (F.cmp_object.ne.bind _) (wpAny_pure (by exact fin))))
theorem op_neO {C f : Addr} {fd : FuncData} {k : Nat} {ps : List Str} {sp : Sp} (F : FnOk X.prog X.w X.K X.mg X.base CX0 k f fd ps sp) (o : EqOwn X.K C f) (hr : Room (k + 1) X.A) (hb : Binds X.K fd ps []) : OpR X (compareOp .NotEq) (rEqO X.K C true sp) := by
  intro pins s σ H x y v u Q I rx ry h
  obtain ⟨a, dx, fs, t, rfl, ha, ty, hn, h⟩ := h
  cases rx
  obtain ⟨mA, O, _⟩ := ins_get I.hok ha
  obtain ⟨od, J, _⟩ := O.look
  obtain ⟨P, Z, p, _⟩ := kit_of I ry ty
  show wpAny (model X.prog X.w) X.A (richCompare .NotEq (.ref a) u) (EP X pins σ Q) X.xe s
  have one : wpAny (model X.prog X.w) X.A (tryCompare (.ref a) (cmpInfo .NotEq).2.1 u) (fun r s' => ∃ v, r = some v ∧ EP X pins σ Q v s') X.xe s := by
    unfold tryCompare
    refine wpAny_bind (ifBound_objNe I.kIn J o.ne (call_objNe (by have := hr.units; omega) I.kIn J o.it.hm o.eq o.fn (thn (run_in (vs := [.ref a, y]) F hr hb I (.cons rfl (.cons ry .nil)) h) fun w s1 ⟨z, H1, I1, rz, b, ez, q⟩ => ?_)))
    subst ez
    cases rz
    exact ⟨b, rfl, wpAny_pure ⟨_, rfl, .bl (!b), H1, I1, rfl, q⟩⟩
  unfold richCompare
  simp only [oneThing_ref]
  refine wpAny_holding (wpAny_bind (wpAny_cRoomFor hr.units0 ?_))
  refine wpAny_bind (J.type.here (wpAny_bind ((Z.ty _ _ I.kIn p).here ?_)))
  split
  · rename_i q
    have e : PySem.W.subIn X.K t (.ref C) = some false := by
      rcases Bool.or_eq_true_iff.mp hn with e | e
      · rw [beq_iff_eq.mp e] at q; simp at q
      · exact beq_iff_eq.mp e
    refine wpAny_bind ((PySem.W.looks_subIn I.kIn e).here ?_)
    simp only [Bool.false_eq_true, if_false]
    refine wpAny_bind (wpAny_mono one (fun r s' z => ?_) fun _ _ e => e)
    obtain ⟨v, rfl, hq⟩ := z
    exact wpAny_pure hq
  · refine wpAny_bind (wpAny_pure ?_)
    simp only [Bool.false_eq_true, if_false]
    refine wpAny_bind (wpAny_mono one (fun r s' z => ?_) fun _ _ e => e)
    obtain ⟨v, rfl, hq⟩ := z
    exact wpAny_pure hq
end
end Ip
end
section
set_option Elab.async false
set_option linter.all false
set_option maxRecDepth 100000
set_option maxHeartbeats 4000000
set_option autoImplicit false
namespace Ip
open PySem PySem.Spec PyProof.Rows L2
/-- what is compared with an instance: another one, or a plain value -/
def hasTy (c : Str) (y : D) (M : Sto) : Bool := (objOf c y M).isSome || (tyD y M).isSome
def dEqO (c : Str) (n : Bool) (F : DF) (fa fb : DE) : DE := fun env M => (fa env M).bind fun x M1 => (fb env M1).bind fun y M2 => match objOf c x M2, hasTy c y M2 with
  | some _, true => (noex (F [x, y] M2)).bind fun d M3 => match d with
    | .bl b => .ok (.bl (if n then !b else b)) M3
    | _ => .bad
  | _, _ => .bad
def gIsiO (c : Str) : D → Sto → Option (D × Sto) := fun x M => match objOf c x M with
  | some _ => some (.bl true, M)
  | none => match tyD x M with
    | some _ => some (.bl false, M)
    | none => none
section
variable {X : Cx} {cl : Str → Option Addr} {W : WX} {G : Gx}
theorem hasTy_ok {c : Str} {C : Addr} (hC : G.cl c = some C) (it : InsT G.K C) {H : Hp} {ρ : Rho} {M : Sto} {y : D} {v : V} (S : RS G H ρ M) (r : RV G H ρ y v) (h : hasTy c y M = true) : ∃ t, TyX G.K H v t ∧ PySem.W.notFirst G.K C t = true := by
  unfold hasTy at h
  cases ho : objOf c y M with
  | some p =>
    obtain ⟨ks, ds⟩ := p
    obtain ⟨a, dx, vs, rfl, ha, _⟩ := objOf_ok hC S r ho
    exact ⟨.ref C, .base (.ins ha it.cl it.ha it.hn it.tk it.hm), by simp [PySem.W.notFirst]⟩
  | none =>
    rw [ho] at h
    cases ht : tyD y M with
    | none => rw [ht] at h; cases h
    | some t =>
      refine ⟨.type t, tyD_ok S r ht, ?_⟩
      unfold PySem.W.notFirst
      rw [sub_own (tyD_mem ht)]
      simp
theorem eqO_ok {c : Str} {C f : Addr} {n : Bool} {F : DF} {fa fb : DE} (hC : cl c = some C) (it : InsT X.K C) {σ : L2.St} {H : Hp} {Q : VK} (h : dE (gx X cl) W (dEqO c n F fa fb) σ H Q) : tOp (rEqO X.K C n (spD (gx X cl) F)) (dE (gx X cl) W fa) (dE (gx X cl) W fb) σ H Q := by
  obtain ⟨ρ, env, M, hE, hS, h⟩ := h
  refine ⟨ρ, env, M, hE, hS, (post_bind h).imp (fun x M1 hx ρ1 v H1 e1 S1 r1 => ?_) (fun _ _ _ z => z)⟩
  refine ⟨ρ1, env, M1, hE.mono e1, S1, (post_bind hx).imp (fun y M2 hy ρ2 w H2 e2 S2 r2 => ?_) (fun _ _ _ z => eP.sh e1 z)⟩
  split at hy
  · rename_i p ho ht
    obtain ⟨ks, ds⟩ := p
    obtain ⟨a, dx, vs, rfl, ha, _⟩ := objOf_ok (G := gx X cl) hC S2 (r1.mono e2) ho
    obtain ⟨t, ty, nf⟩ := hasTy_ok (G := gx X cl) hC it S2 r2 ht
    refine ⟨a, dx, _, t, rfl, ha, ty, nf, ρ2, M2, [x, y], S2, .two (r1.mono e2) r2, (noexF (post_bind hy)).imp (fun d M3 hd ρ3 v3 H3 e3 S3 r3 => ?_) (fun _ _ _ z => z)⟩
    cases r3 with
    | bl b => exact ⟨b, rfl, hd ρ3 _ H3 (e1.trans (e2.trans e3)) S3 (.bl _)⟩
    | _ => exact hd.elim
  · exact hy.elim
theorem se_eqO {c : Str} {C f : Addr} {k : Nat} {fd : FuncData} {ps : List Str} {F : DF} {a b : Expr} {fa fb : DE} {pos : Pos} (hC : cl c = some C) (o : EqOwn X.K C f) (Fk : FnOk X.prog X.w X.K X.mg X.base CX0 k f fd ps (spD (gx X cl) F)) (hr : Room (k + 1) X.A) (hb : Binds X.K fd ps []) (ha : SE X cl W a fa) (hb' : SE X cl W b fb) :
    SE X cl W (.Compare a [.Eq] [b] pos) (dEqO c false F fa fb) :=
  PEweak (pe_cmpR (op_eqO Fk o hr hb) ha hb' (nomark _)) fun σ H Q h => eqO_ok (f := f) hC o.it h
theorem st_neO {c : Str} {C f : Addr} {k : Nat} {fd : FuncData} {ps : List Str} {F : DF} {a b : Expr} {fa fb : DE} {pos : Pos} (hC : cl c = some C) (o : EqOwn X.K C f) (Fk : FnOk X.prog X.w X.K X.mg X.base CX0 k f fd ps (spD (gx X cl) F)) (hr : Room (k + 1) X.A) (hb : Binds X.K fd ps []) (ha : SE X cl W a fa) (hb' : SE X cl W b fb) :
    ST X cl W (.Compare a [.NotEq] [b] pos) (dB (dEqO c true F fa fb)) :=
  PTweak (pt_cmpR (op_neO Fk o hr hb) ha hb' (nomark _)) fun σ H Q h => eqO_ok (f := f) hC o.it (dB_ok h)
theorem kit_same {K : PySem.W.Frag} {C : Addr} : PySem.W.kitOne K (.ref C) (.ref C) = some true := by
  unfold PySem.W.kitOne
  rw [if_pos (by simp)]
theorem kit_other {K : PySem.W.Frag} {C : Addr} {t : String} (k : Cls K C) (ty : PySem.W.typeIn K (.ref C) = some (.type "type")) (ht : t ∈ mroTys) : PySem.W.kitOne K (.type t) (.ref C) = some false := by
  unfold PySem.W.kitOne
  rw [if_neg (by simp)]
  show (if ((PySem.W.clsIn K C).isSome && PySem.W.typeIn K (.ref C) == some (.type "type")) = true then PySem.W.subIn K (.type t) (.ref C) else none) = some false
  have hc : (PySem.W.clsIn K C).isSome = true := by
    obtain ⟨cd, hc, _⟩ := PySem.W.any_some k.hd
    rw [hc]
    rfl
  rw [hc, ty, sub_own ht]
  simp
theorem se_isiO {c : Str} {C : Addr} {x : Str} {e : Expr} {fe : DE} {p p2 pos : Pos} (hC : cl c = some C) (it : InsT X.K C) (ty : PySem.W.typeIn X.K (.ref C) = some (.type "type")) (hg : Gl X "isinstance") (hm : X.mg "isinstance" = none) (hgT : Gl X x) (hmT : X.mg x = some (.ref C)) (he : SE X cl W e fe)
    (hdT : (x == ("__debug__" : Str)) = false := by decide)
    (h1 : starEach [e, .Name x p2] X.env = (false, eval e X.env) :: starEach [.Name x p2] X.env := by rfl) (h2 : starEach [.Name x p2] X.env = (false, eval (.Name x p2) X.env) :: starEach [] X.env := by rfl) (hpl : (backTo pos (starEach [.Name x p2] X.env)).any (·.1) = false := by rfl) :
    SE X cl W (.Call (.Name "isinstance" p) [e, .Name x p2] [] pos) (dUn (gIsiO c) fe) :=
  PEweak (pe_callB call_isi hg hm (by decide +kernel) (pa_cons he (pa_cons (pe_glob (v := .ref C) hgT hmT rfl hdT) pa_nil h2) h1) (by decide) (by decide) h1 hpl) fun σ H Q ⟨ρ, env, M, hE, hS, h⟩ => by
    refine ⟨ρ, env, M, hE, hS, (post_bind h).imp (fun y M1 hx ρ1 v H1 e1 S1 r1 => ?_) (fun _ _ _ z => z)⟩
    obtain ⟨d, M', eq, q⟩ := lift_some hx
    unfold gIsiO at eq
    split at eq
    · rename_i p hp
      obtain ⟨ks, ds⟩ := p
      cases eq
      obtain ⟨a, dx, vs, rfl, ha, _⟩ := objOf_ok (G := gx X cl) hC S1 r1 hp
      exact ⟨_, .ref C, .ref C, .ref C, true, rfl, .own C, .base (.ins ha it.cl it.ha it.hn it.tk it.hm), kit_same, q ρ1 _ H1 e1 S1 (.bl _)⟩
    · split at eq
      · rename_i t ht
        cases eq
        exact ⟨v, .ref C, .type t, .ref C, false, rfl, .own C, tyD_ok (G := gx X cl) S1 r1 ht, kit_other it.cl ty (tyD_mem ht), q ρ1 _ H1 e1 S1 (.bl _)⟩
      · cases eq
end
end Ip
end
section
set_option Elab.async false
set_option linter.all false
set_option maxRecDepth 100000
set_option maxHeartbeats 4000000
set_option autoImplicit false
namespace Ip
open PySem PySem.Spec PyProof.Rows L2
end Ip
end
section
set_option Elab.async false
set_option linter.all false
set_option maxRecDepth 100000
set_option maxHeartbeats 4000000
set_option autoImplicit false
namespace Ip
open PySem PySem.Spec PyProof.Rows L2
end Ip
end
section
set_option Elab.async false
set_option linter.all false
set_option maxRecDepth 100000
set_option maxHeartbeats 4000000
set_option autoImplicit false
namespace Ip
open PySem PySem.Spec PyProof.Rows L2
end Ip
end
section
set_option Elab.async false
set_option linter.all false
set_option maxRecDepth 100000
set_option maxHeartbeats 4000000
set_option autoImplicit false
namespace Ip
open PySem PySem.Spec PyProof.Rows L2
end Ip
end
section
set_option Elab.async false
set_option linter.all false
set_option maxRecDepth 100000
set_option maxHeartbeats 4000000
set_option autoImplicit false
namespace Ip
open PySem PySem.Spec PyProof.Rows L2
end Ip
end
section
set_option Elab.async false
set_option linter.all false
set_option maxRecDepth 100000
set_option maxHeartbeats 4000000
set_option autoImplicit false
namespace Ip
open PySem PySem.Spec PyProof.Rows L2
end Ip
end
section
set_option Elab.async false
set_option linter.all false
set_option maxRecDepth 100000
set_option maxHeartbeats 4000000
set_option autoImplicit false
namespace Ip
open PySem PySem.Spec PyProof.Rows L2
end Ip
end
section
set_option Elab.async false
set_option linter.all false
set_option maxRecDepth 100000
set_option maxHeartbeats 4000000
set_option autoImplicit false
namespace Ip
open PySem PySem.Spec PyProof.Rows L2
def Exn.at (e : Exn) (n : Str) : Option D := (e.ks.zip e.vs).lookup n
/-- what stands of an exception in the heap -/
structure ExS (G : Gx) (H : Hp) (ρ : Rho) (M : Sto) (e : Exn) (dd : Addr) (us : List V) : Prop where
  rs : RS G H ρ M
  xd : H dd = some (.xd (e.ks.zip us))
  no : dd ∉ ρ
  len : e.ks.length = us.length
  rv : RVs G H ρ e.vs us
theorem zip_look {G : Gx} {H : Hp} {ρ : Rho} : ∀ {ks : List Str} {ds : List D} {us : List V} {n : Str} {d : D}, RVs G H ρ ds us → (ks.zip ds).lookup n = some d → ∃ v, (ks.zip us).lookup n = some v ∧ RV G H ρ d v
  | [], _, _, _, _, _, h => by simp at h
  | _ :: _, [], _, _, _, .nil, h => by simp at h
  | k :: ks, d0 :: ds, u :: us, n, d, .cons r rs, h => by
    simp only [List.zip_cons_cons, List.lookup] at h ⊢
    split at h
    · cases h; exact ⟨u, rfl, r⟩
    · exact zip_look rs h
theorem ExS.at {G : Gx} {H : Hp} {ρ : Rho} {M : Sto} {e : Exn} {dd : Addr} {us : List V} (x : ExS G H ρ M e dd us) {n : Str} {d : D} (h : e.at n = some d) : ∃ v, (e.ks.zip us).lookup n = some v ∧ RV G H ρ d v := zip_look x.rv h
theorem ExS.new {G : Gx} {H : Hp} {ρ : Rho} {M : Sto} {e : Exn} {dd : Addr} {us : List V} (x : ExS G H ρ M e dd us) {p : Addr} {o : HO} (hp : H p = none) : ExS G (upd H p o) ρ M e dd us :=
  ⟨x.rs.new hp, by rw [upd_ne (ne_of_none x.xd hp)]; exact x.xd, x.no, x.len, x.rv.mono (Ext.new x.rs hp)⟩
end Ip
end
section
set_option Elab.async false
set_option linter.all false
set_option maxRecDepth 100000
set_option maxHeartbeats 4000000
set_option autoImplicit false
namespace Ip
open PySem PySem.Spec PyProof.Rows L2
end Ip
end
section
set_option Elab.async false
set_option linter.all false
set_option maxRecDepth 100000
set_option maxHeartbeats 4000000
set_option autoImplicit false
namespace Ip
open PySem PySem.Spec PyProof.Rows L2
end Ip
end
section
set_option Elab.async false
set_option linter.all false
set_option maxRecDepth 100000
set_option maxHeartbeats 4000000
set_option autoImplicit false
namespace Ip
open PySem PySem.Spec PyProof.Rows L2
end Ip
end
section
set_option Elab.async false
set_option linter.all false
set_option maxRecDepth 100000
set_option maxHeartbeats 4000000
set_option autoImplicit false
namespace Ip
open PySem PySem.Spec PyProof.Rows L2
abbrev E3 (elt t0 i0 t1 i1 t2 i2 : Expr) (f0 f1 f2 : List Expr) (scope : Scope) (pos : Pos) : Expr := .ListComp elt [⟨t0, i0, f0, 0⟩, ⟨t1, i1, f1, 0⟩, ⟨t2, i2, f2, 0⟩] scope pos
end Ip
end
section
set_option Elab.async false
set_option linter.all false
set_option maxRecDepth 100000
set_option maxHeartbeats 4000000
set_option autoImplicit false
namespace Ip
open PySem PySem.Spec PyProof.Rows L2
end Ip
end
section
set_option Elab.async false
set_option linter.all false
set_option maxRecDepth 100000
set_option maxHeartbeats 4000000
set_option autoImplicit false
namespace Ip
open PySem PySem.Spec PyProof.Rows L2
theorem Mo.refl {G : Gx} {H : Hp} {ρ : Rho} : Mo G H ρ H ρ := ⟨fun _ _ h => h, fun _ _ h => h, fun _ _ h1 _ h2 => ⟨h2, h1⟩⟩
theorem Mo.trans {G : Gx} {H H1 H2 : Hp} {ρ ρ1 ρ2 : Rho} (a : Mo G H ρ H1 ρ1) (b : Mo G H1 ρ1 H2 ρ2) : Mo G H ρ H2 ρ2 :=
  ⟨fun n c h => b.pre n c (a.pre n c h), fun c xs h => b.tup c xs (a.tup c xs h), fun c o h1 h3 h2 => b.keep c o (a.keep c o h1 h3 h2).2 h3 (a.keep c o h1 h3 h2).1⟩
/-- while the list D is written -/
structure SD (G : Gx) (H1 : Hp) (ρ1 : Rho) (L : Addr) (H : Hp) (ρ : Rho) (M : Sto) (acc : List D) : Prop where
  t : ρ.t = L :: ρ1.t
  x : Ext G H1 ρ1 H ⟨ρ.c, ρ1.t⟩
  a : ∃ av, H L = some (.lst av) ∧ RVs G H ρ acc av
  s : RS G H ρ M
section
variable {G : Gx} {H1 H H' : Hp} {ρ1 ρ ρ' : Rho} {L : Addr} {M M' : Sto} {acc : List D}
theorem SD.inT (h : SD G H1 ρ1 L H ρ M acc) : L ∈ ρ.t := by rw [h.t]; exact List.mem_cons_self
theorem SD.ext (h0 : H1 L = none) (h : SD G H1 ρ1 L H ρ M acc) (x : Ext G H ρ H' ρ') (S' : RS G H' ρ' M') : SD G H1 ρ1 L H' ρ' M' acc := by
  refine ⟨x.res.trans h.t, ⟨fun n a z => x.pre n a (h.x.pre n a z), rfl, fun a z => (x.same a (by rw [h.t]; exact List.mem_cons_of_mem _ z)).trans (h.x.same a z), fun a xs z => x.tup a xs (h.x.tup a xs z), fun a o n nt z => ?_⟩, ?_, S'⟩
  · obtain ⟨k1, k2⟩ := h.x.keep a o n nt z
    have k3 : a ∉ ρ := fun w => by
      rcases w with w | w
      · exact k2 (.inl w)
      · rw [h.t] at w
        rcases List.mem_cons.mp w with w | w
        · rw [w, h0] at z; cases z
        · exact n (.inr w)
    obtain ⟨k4, k5⟩ := x.keep a o k3 nt k1
    exact ⟨k4, fun w => by
      rcases w with w | w
      · exact k5 (.inl w)
      · exact n (.inr w)⟩
  · obtain ⟨av, z, r⟩ := h.a
    exact ⟨av, (x.same L h.inT).trans z, r.mono x⟩
theorem SD.app (h0 : H1 L = none) (h1 : L ∉ ρ1) (h : SD G H1 ρ1 L H ρ M acc) {av : List V} (ha : H L = some (.lst av)) (r : RVs G H ρ acc av) {y : D} {v : V} (ry : RV G H ρ y v) :
    SD G H1 ρ1 L (upd H L (.lst (av ++ [v]))) ρ M (acc ++ [y]) ∧ Mo G H ρ (upd H L (.lst (av ++ [v]))) ρ := by
  have mo : Mo G H ρ (upd H L (.lst (av ++ [v]))) ρ := ⟨fun _ _ z => z, fun a xs z => tpA_upd z (fun u w => by rw [ha] at w; cases w; exact ⟨fun _ z => (by cases z), fun _ _ z => (by cases z)⟩), fun a o n nt z => ⟨by rw [upd_ne (fun w : a = L => n (by rw [w]; exact .inr h.inT))]; exact z, n⟩⟩
  refine ⟨⟨h.t, ⟨h.x.pre, rfl, fun a z => ?_, fun a xs z => mo.tup a xs (h.x.tup a xs z), fun a o n nt z => ?_⟩, ⟨_, upd_same, (r.append (.one ry)).mo mo⟩, ?_⟩, mo⟩
  · rw [upd_ne (fun w : a = L => h1 (by rw [← w]; exact .inr z))]
    exact h.x.same a z
  · obtain ⟨k1, k2⟩ := h.x.keep a o n nt z
    exact ⟨by rw [upd_ne (ne_of_none z h0)]; exact k1, k2⟩
  · refine ⟨h.s.len, h.s.nd, h.s.dis, fun a w => ?_, fun n c w => ?_, h.s.tb.keeps fun b u z nz => by rw [upd_ne (fun w : b = L => nz (by rw [w, ha] at z; cases z; exact .inl ⟨_, rfl⟩))]; exact z⟩
    · by_cases z : a = L
      · exact ⟨_, by rw [z]; exact upd_same, .inl ⟨_, rfl⟩⟩
      · rw [upd_ne z]; exact h.s.trt a w
    · obtain ⟨a, w1, w2⟩ := h.s.at_ n c w
      exact ⟨a, w1, w2.mo mo (upd_ne (fun z : a = L => h.s.dis a (List.mem_of_getElem? w1) (by rw [z]; exact h.inT)))⟩
end
end Ip
end
section
set_option Elab.async false
set_option linter.all false
set_option maxRecDepth 100000
set_option maxHeartbeats 4000000
set_option autoImplicit false
namespace Ip
open PySem PySem.Spec PyProof.Rows L2
end Ip
end
section
set_option Elab.async false
set_option linter.all false
set_option maxRecDepth 100000
set_option maxHeartbeats 4000000
set_option autoImplicit false
namespace Ip
open PySem PySem.Spec PyProof.Rows L2
/-- in order, each once -/
def insU (k : Int) : List Int → List Int
  | [] => [k]
  | x :: l => if k < x then k :: x :: l else if k = x then x :: l else x :: insU k l
def srt (ns : List Int) : List Int := ns.foldr insU []
section
variable {X : Cx} {cl : Str → Option Addr} {W : WX} {G : Gx}
def rSetL (K : PySem.W.Frag) (w : World) : List V → Hp → VK → Prop := fun xs H Q => ∃ (l : Addr) (ns : List Int), xs = [.ref l] ∧ SqL K H l (ns.map V.int) ∧ ns.length < 4000 ∧
  ∀ p c, H p = none → c ≤ (srt ns).length → Q (.ref p) (upd H p (SetO w p (fun j => decide (j ∈ ns)) c))
end
end Ip
end
section
set_option Elab.async false
set_option linter.all false
set_option maxRecDepth 100000
set_option maxHeartbeats 4000000
set_option autoImplicit false
namespace Ip
open PySem PyProof.Rows L2
section
variable {X : Cx} {cl : Str → Option Addr} {W : WX} {G : Gx}
def anyD (ds : List PyData) (d : PyData) : Bool := ds.any fun z => PyData.eqv z d
def rInT (K : PySem.W.Frag) (n : Bool) : R2 := fun x y H Q => ∃ d ds, Dp K H x d ∧ ((Dp K H y (.list ds) ∧ SeqAt.shaped (.list ds) = true) ∨ (Dp K H y (.tuple ds) ∧ SeqAt.shaped (.tuple ds) = true)) ∧ SeqAt.shaped d = true ∧ Q (.bl (if n then !anyD ds d else anyD ds d)) H
theorem op_inT (hu : X.A.units + 65 < cLine) : OpR X (compareOp .In) (rInT X.K false) := by
  intro pins s σ H x y v u Q I rx ry h
  obtain ⟨d, ds, hd, he, sd, q⟩ := h
  obtain ⟨as, r1⟩ := Dp.reads I d x v hd rx
  rcases he with ⟨he, se⟩ | ⟨he, se⟩
  · obtain ⟨bs, r2⟩ := Dp.reads I (.list ds) y u he ry
    exact SeqAt.in_list_reads r2 r1 (SeqAt.canLay_of_shaped se) (SeqAt.canLay_of_shaped sd) (room_in_shaped sd hu) ⟨.bl _, H, I, rfl, q⟩
  · obtain ⟨bs, r2⟩ := Dp.reads I (.tuple ds) y u he ry
    exact SeqAt.in_tuple_reads r2 r1 (SeqAt.canLay_of_shaped se) (SeqAt.canLay_of_shaped sd) (room_in_shaped sd hu) ⟨.bl _, H, I, rfl, q⟩
def inD (x y : D) (M : Sto) : Option Bool := match pyM x M, pyM y M with
  | some p, some (.list qs) => if SeqAt.shaped p && SeqAt.shaped (.list qs) then some (anyD qs p) else none
  | some p, some (.tuple qs) => if SeqAt.shaped p && SeqAt.shaped (.tuple qs) then some (anyD qs p) else none
  | _, _ => none
def gIn (n : Bool) : G2 := fun x y M => (inD x y M).map fun b => (.bl (if n then !b else b), M)
theorem inD_some {x y : D} {M : Sto} {b : Bool} (h : inD x y M = some b) : ∃ p qs, pyM x M = some p ∧ SeqAt.shaped p = true ∧ ((pyM y M = some (.list qs) ∧ SeqAt.shaped (.list qs) = true) ∨ (pyM y M = some (.tuple qs) ∧ SeqAt.shaped (.tuple qs) = true)) ∧ b = anyD qs p := by
  unfold inD at h
  split at h
  · rename_i p qs h1 h2
    split at h
    · rename_i hs
      rw [Bool.and_eq_true] at hs
      cases h
      exact ⟨p, qs, h1, hs.1, .inl ⟨h2, hs.2⟩, rfl⟩
    · cases h
  · rename_i p qs h1 h2
    split at h
    · rename_i hs
      rw [Bool.and_eq_true] at hs
      cases h
      exact ⟨p, qs, h1, hs.1, .inr ⟨h2, hs.2⟩, rfl⟩
    · cases h
  · cases h
theorem ops_in (n : Bool) : OpS G (rInT G.K n) (gIn n) := fun H ρ M x y dx dy d M' Q S rx ry e z => by
  unfold gIn at e
  cases hb : inD dx dy M with
  | none => rw [hb] at e; cases e
  | some b =>
    rw [hb] at e; cases e
    have hq := z ρ _ H .refl S (.bl _)
    obtain ⟨p, qs, h1, h2, h3, rfl⟩ := inD_some hb
    refine ⟨p, qs, pyM_ok S rx h1, ?_, h2, hq⟩
    rcases h3 with ⟨h3, h4⟩ | ⟨h3, h4⟩
    · exact .inl ⟨pyM_ok S ry h3, h4⟩
    · exact .inr ⟨pyM_ok S ry h3, h4⟩
theorem room_65 {k : Nat} (hr : Room k X.A) : X.A.units + 65 < cLine := by
  have := hr.un
  omega
variable {a b : Expr} {fa fb : DE} {pos : Pos}
theorem st_in {k : Nat} (hr : Room k X.A) (ha : SE X cl W a fa) (hb : SE X cl W b fb) (hm : behindInMarks .In b = false := by rfl) : ST X cl W (.Compare a [.In] [b] pos) (dB (dBin (gIn false) fa fb)) := st_cmp (op_inT (room_65 hr)) (ops_in false) ha hb hm
end
end Ip
end
section
set_option Elab.async false
set_option linter.all false
set_option maxRecDepth 100000
set_option maxHeartbeats 4000000
set_option autoImplicit false
namespace Ip
open PySem PySem.Spec PyProof.Rows L2
end Ip
end
section
set_option Elab.async false
set_option linter.all false
set_option maxRecDepth 100000
set_option maxHeartbeats 4000000
set_option autoImplicit false
namespace Ip
open PySem PySem.Spec PyProof.Rows L2
section
variable {G : Gx} {H : Hp} {ρ : Rho} {κ : Type} [DecidableEq κ]
abbrev KD := List (List Key) × List D
structure SDd (G : Gx) (H1 : Hp) (ρ1 : Rho) (L : Addr) (H : Hp) (ρ : Rho) (M : Sto) (acc : KD) : Prop where
  t : ρ.t = L :: ρ1.t
  x : Ext G H1 ρ1 H ⟨ρ.c, ρ1.t⟩
  a : ∃ av, H L = some (.dT (acc.1.zip av)) ∧ acc.1.length = av.length ∧ RVs G H ρ acc.2 av
  s : RS G H ρ M
variable {H1 H' : Hp} {ρ1 ρ' : Rho} {L : Addr} {M M' : Sto} {acc : KD}
theorem SDd.inT (h : SDd G H1 ρ1 L H ρ M acc) : L ∈ ρ.t := by rw [h.t]; exact List.mem_cons_self
theorem SDd.ext (h0 : H1 L = none) (h : SDd G H1 ρ1 L H ρ M acc) (x : Ext G H ρ H' ρ') (S' : RS G H' ρ' M') : SDd G H1 ρ1 L H' ρ' M' acc := by
  refine ⟨x.res.trans h.t, ⟨fun n a z => x.pre n a (h.x.pre n a z), rfl, fun a z => (x.same a (by rw [h.t]; exact List.mem_cons_of_mem _ z)).trans (h.x.same a z), fun a xs z => x.tup a xs (h.x.tup a xs z), fun a o n nt z => ?_⟩, ?_, S'⟩
  · obtain ⟨k1, k2⟩ := h.x.keep a o n nt z
    have k3 : a ∉ ρ := fun w => by
      rcases w with w | w
      · exact k2 (.inl w)
      · rw [h.t] at w
        rcases List.mem_cons.mp w with w | w
        · rw [w, h0] at z; cases z
        · exact n (.inr w)
    obtain ⟨k4, k5⟩ := x.keep a o k3 nt k1
    exact ⟨k4, fun w => by
      rcases w with w | w
      · exact k5 (.inl w)
      · exact n (.inr w)⟩
  · obtain ⟨av, z, l, r⟩ := h.a
    exact ⟨av, (x.same L h.inT).trans z, l, r.mono x⟩
end
end Ip
end
section
set_option Elab.async false
set_option linter.all false
set_option maxRecDepth 100000
set_option maxHeartbeats 4000000
set_option autoImplicit false
namespace Ip
open PySem PySem.Spec PyProof.Rows L2
abbrev II := Int × Int
def pT (p : II) : D := .tup [.int p.1, .int p.2]
def pK (p : II) : List Key := [.inl p.1, .inl p.2]
end Ip
end
section
set_option Elab.async false
set_option linter.all false
set_option maxRecDepth 100000
set_option maxHeartbeats 4000000
set_option autoImplicit false
namespace Ip
open PySem PySem.Spec PyProof.Rows L2
end Ip
end
section
set_option Elab.async false
set_option linter.all false
set_option maxRecDepth 100000
set_option maxHeartbeats 4000000
set_option autoImplicit false
namespace Ip
open PySem PySem.Spec PyProof.Rows L2
end Ip
end
section
set_option Elab.async false
set_option linter.all false
set_option maxRecDepth 100000
set_option maxHeartbeats 1000000
namespace Ip
open PySem PySem.Spec PyProof.Rows L2
abbrev set0 (w : World) : Obj := { cls := .type "set", dict := none, data := .set #[] 0 (.fresh 0 0 (!w.params.followText "set-order")) }
end Ip
end
section
set_option Elab.async false
set_option linter.all false
set_option maxRecDepth 100000
set_option maxHeartbeats 4000000
set_option autoImplicit false
namespace Ip
open PySem PySem.Spec PyProof.Rows L2
end Ip
end
section
set_option Elab.async false
set_option linter.all false
set_option maxRecDepth 100000
set_option maxHeartbeats 1000000
namespace Ip
open PySem PySem.Spec PyProof.Rows L2
end Ip
end
section
set_option Elab.async false
set_option linter.all false
set_option maxRecDepth 100000
set_option maxHeartbeats 4000000
set_option autoImplicit false
namespace Ip
open PySem PySem.Spec PyProof.Rows L2
end Ip
end
section
set_option Elab.async false
set_option linter.all false
set_option maxRecDepth 100000
set_option maxHeartbeats 1000000
set_option autoImplicit false
namespace Ip
open PySem PySem.Spec PyProof.Rows L2
/-- two heaps that differ by the lock of one dict -/
structure Lk (H H2 : Hp) (d : Addr) (kvs : List (List Key × V)) : Prop where
  off : ∀ a, a ≠ d → H2 a = H a
  h1 : Rd H d (.dT kvs)
  h2 : Rd H2 d (.dT kvs)
section
variable {G : Gx} {H H2 : Hp} {ρ : Rho} {d : Addr} {kvs : List (List Key × V)} {M : Sto}
theorem Lk.at (L : Lk H H2 d kvs) {a : Addr} {o : HO} (h : H a = some o) (n1 : ∀ kv, o ≠ .dT kv) (n2 : ∀ q kv, o ≠ .frz q (.dT kv)) : H2 a = some o := by
  have : a ≠ d := by
    rintro rfl
    rcases L.h1 with e | ⟨q, e⟩
    · rw [h] at e; exact n1 _ (Option.some.inj e)
    · rw [h] at e; exact n2 _ _ (Option.some.inj e)
  rw [L.off a this, h]
end
end Ip
end
section
set_option Elab.async false
set_option linter.all false
set_option maxRecDepth 100000
set_option maxHeartbeats 4000000
set_option autoImplicit false
namespace Ip
open PySem PySem.Spec PyProof.Rows L2
/-- .. no name of its own that the maker's slots have -/
structure LamSD (N : List Str) (sc scope : Scope) : Prop where
  kind : scope.kind = .function
  co : scope.isCoroutine = false
  gen : scope.isGenerator = false
  cel : ∀ y ∈ scope.names, y.2 ≠ .cell
  own : ∀ y ∈ scope.names, y.2 = .local → y.1 ∉ N
  free : ∀ y ∈ scope.names, y.2 = .free → sc.names.lookup y.1 = some .cell ∨ sc.names.lookup y.1 = some .free
theorem LamSD.has {N : List Str} {X : Cx} {scope : Scope} (L : LamSD N X.env.scope scope) (ok : X.Ok) : ∀ y ∈ scope.names, y.2 = .free → ∃ c, X.env.cells.lookup y.1 = some c := fun y hy e => by
  rcases L.free y hy e with k | k
  · exact ok.has _ (.inl k)
  · exact ok.has _ (.inr k)
end Ip
end
section
set_option Elab.async false
set_option linter.all false
set_option maxRecDepth 100000
set_option maxHeartbeats 4000000
set_option autoImplicit false
namespace Ip
open PySem PySem.Spec PyProof.Rows L2
def dM1 (g : Str → Str → Option D) (fo fe : DE) : DE := fun env M => (fo env M).bind fun x M1 => match x with
  | .str a => (fe env M1).bind fun y M2 => match y with
    | .str b => match g a b with
      | some d => .ok d M2
      | none => .bad
    | _ => .bad
  | _ => .bad
def gPart (a b : Str) : Option D := if (b.length == 0) = false ∧ a.length ≤ 16777216 then some (.tup [.str (Txt.partition a b).1, .str (Txt.partition a b).2.1, .str (Txt.partition a b).2.2]) else none
section
variable {X : Cx} {cl : Str → Option Addr} {W : WX} {G : Gx}
theorem m1_ok {g : Str → Str → Option D} {r : V → List V → Hp → VK → Prop} {fo fe : DE} (hg : ∀ (H : Hp) (ρ : Rho) (M : Sto) (a b : Str) (d : D) (Q : VK), RS G H ρ M → g a b = some d → oP G H ρ Q d M → r (.str a) [.str b] H Q) {σ : L2.St} {H : Hp} {Q : VK} (h : dE G W (dM1 g fo fe) σ H Q) :
    tM1 r (dE G W fo) (dE G W fe) σ H Q := by
  obtain ⟨ρ, env, M, hE, hS, h⟩ := h
  refine ⟨ρ, env, M, hE, hS, (post_bind h).imp (fun x M1 hx ρ1 v H1 e1 S1 r1 => ?_) (fun _ _ _ z => z)⟩
  split at hx
  · rename_i a
    cases r1
    refine ⟨⟨a, rfl⟩, ρ1, env, M1, hE.mono e1, S1, (post_bind hx).imp (fun y M2 hy ρ2 w H2 e2 S2 r2 => ?_) (fun _ _ _ z => eP.sh e1 z)⟩
    split at hy
    · rename_i b
      cases r2
      split at hy
      · rename_i d hd
        exact hg H2 ρ2 M2 a b d Q S2 hd (oP.sh (e1.trans e2) hy)
      · exact hy.elim
    · exact hy.elim
  · exact hx.elim
theorem se_partition {o e : Expr} {fo fe : DE} {apos pos : Pos} (ho : SE X cl W o fo) (he : SE X cl W e fe) (hs : starEach [e] X.env = [(false, eval e X.env)] := by rfl) (hbase : attributeBase o "partition" X.env (eval o X.env) = eval o X.env := by rfl) (hline : (apos.endLine == pos.line) = true := by rfl) :
    SE X cl W (.Call (.Attribute o "partition" apos) [e] [] pos) (dM1 gPart fo fe) :=
  PEweak (pe_partition ho he hs hbase hline) fun σ H Q h => m1_ok (G := gx X cl) (fun H ρ M a b d Q S e z => by
    unfold gPart at e
    split at e
    · rename_i c
      cases e
      refine ⟨a, b, rfl, rfl, c.1, by rw [sizeLine_eq]; exact c.2, fun p hp => ?_⟩
      have en := Ext.new (o := .tup [.str (Txt.partition a b).1, .str (Txt.partition a b).2.1, .str (Txt.partition a b).2.2]) S hp
      exact z ρ (.ref p) _ en (S.new hp) (.tup (TpA.of upd_same) (.cons (.str _) (.cons (.str _) (.cons (.str _) .nil))))
    · cases e) h
end
end Ip
end
section
set_option Elab.async false
set_option linter.all false
set_option maxRecDepth 100000
set_option maxHeartbeats 4000000
set_option autoImplicit false
namespace Ip
open PySem PySem.Spec PyProof.Rows L2
end Ip
end
section
set_option Elab.async false
set_option linter.all false
set_option maxRecDepth 100000
set_option maxHeartbeats 4000000
set_option autoImplicit false
namespace Ip
open PySem PySem.Spec PyProof.Rows L2
section
variable {X : Cx} {cl : Str → Option Addr} {W : WX} {G : Gx}
theorem RVs.dropLast {H : Hp} {ρ : Rho} {ds : List D} {vs : List V} (r : RVs G H ρ ds vs) : RVs G H ρ ds.dropLast vs.dropLast := by
  rw [List.dropLast_eq_take, List.dropLast_eq_take, r.length]
  exact r.take _
def gSplit (a b : Str) : Option D := if (b.length == 0) = false ∧ a.length + 2 ≤ 16777216 then some (.lst ((Txt.split a b).map .str)) else none
theorem RVs.strs {H : Hp} {ρ : Rho} : ∀ (ys : List Str), RVs G H ρ (ys.map D.str) (ys.map V.str)
  | [] => .nil
  | y :: ys => .cons (.str y) (RVs.strs ys)
theorem se_split {o e : Expr} {fo fe : DE} {apos pos : Pos} (ho : SE X cl W o fo) (he : SE X cl W e fe) (hs : starEach [e] X.env = [(false, eval e X.env)] := by rfl) (hbase : attributeBase o "split" X.env (eval o X.env) = eval o X.env := by rfl) (hline : (apos.endLine == pos.line) = true := by rfl) :
    SE X cl W (.Call (.Attribute o "split" apos) [e] [] pos) (dM1 gSplit fo fe) :=
  PEweak (pe_m1 F.slot_str_split F.type_str_split mt_split ho he hs hbase hline) fun σ H Q h => m1_ok (G := gx X cl) (fun H ρ M a b d Q S e z => by
    unfold gSplit at e
    split at e
    · rename_i c
      cases e
      refine ⟨a, b, rfl, rfl, c.1, by rw [sizeLine_eq]; exact c.2, fun p hp => ?_⟩
      exact z ρ (.ref p) _ (Ext.new S hp) (S.new hp) (.lst upd_same (S.fresh hp) (RVs.strs _))
    · cases e) h
/-- a.isdigit() -/
def dM0 (g : Str → D) (fo : DE) : DE := fun env M => (fo env M).bind fun x M1 => match x with
  | .str a => .ok (g a) M1
  | _ => .bad
theorem se_isdigit {o : Expr} {fo : DE} {apos pos : Pos} (ho : SE X cl W o fo) (hbase : attributeBase o "isdigit" X.env (eval o X.env) = eval o X.env := by rfl) (hline : (apos.endLine == pos.line) = true := by rfl) :
    SE X cl W (.Call (.Attribute o "isdigit" apos) [] [] pos) (dM0 (fun a => .bl (Txt.isdigit a)) fo) :=
  PEweak (pe_m0 F.slot_str_isdigit F.type_str_isdigit mt_isdigit ho hbase hline) fun σ H Q ⟨ρ, env, M, hE, hS, h⟩ => by
    refine ⟨ρ, env, M, hE, hS, (post_bind h).imp (fun x M1 hx ρ1 v H1 e1 S1 r1 => ?_) (fun _ _ _ z => z)⟩
    split at hx
    · rename_i a
      cases r1
      exact ⟨⟨a, rfl⟩, a, rfl, rfl, trivial, hx ρ1 (.bl _) H1 e1 S1 (.bl _)⟩
    · exact hx.elim
def strsD : List D → Option (List Str)
  | [] => some []
  | .str s :: l => (strsD l).map (s :: ·)
  | _ :: _ => none
theorem strsD_ok : ∀ {l : List D} {ys : List Str}, strsD l = some ys → l = ys.map D.str
  | [], _, h => by cases h; rfl
  | .str s :: l, ys, h => by
    cases e : strsD l with
    | none => rw [show strsD (.str s :: l) = (strsD l).map (s :: ·) from rfl, e] at h; cases h
    | some zs =>
      rw [show strsD (.str s :: l) = (strsD l).map (s :: ·) from rfl, e] at h
      cases h
      rw [strsD_ok e]
      rfl
theorem RVs.ofStrs {H : Hp} {ρ : Rho} : ∀ {ys : List Str} {vs : List V}, RVs G H ρ (ys.map D.str) vs → vs = ys.map V.str
  | [], _, .nil => rfl
  | y :: ys, _, .cons r rs => by
    cases r
    rw [RVs.ofStrs rs]
    rfl
/-- sep.join(list of texts) -/
def dJoin (fo fe : DE) : DE := fun env M => (fo env M).bind fun x M1 => match x with
  | .str a => (fe env M1).bind fun y M2 => match asL y M2 with
    | some l => match strsD l with
      | some ys => if (ys.map (·.length)).sum + ys.length * a.length ≤ 16777216 then .ok (.str (Txt.join a ys)) M2 else .bad
      | none => .bad
    | none => .bad
  | _ => .bad
theorem se_join {o e : Expr} {fo fe : DE} {apos pos : Pos} (ho : SE X cl W o fo) (he : SE X cl W e fe) (hs : starEach [e] X.env = [(false, eval e X.env)] := by rfl) (hbase : attributeBase o "join" X.env (eval o X.env) = eval o X.env := by rfl) (hline : (apos.endLine == pos.line) = true := by rfl) :
    SE X cl W (.Call (.Attribute o "join" apos) [e] [] pos) (dJoin fo fe) :=
  PEweak (pe_join ho he hs hbase hline) fun σ H Q ⟨ρ, env, M, hE, hS, h⟩ => by
    refine ⟨ρ, env, M, hE, hS, (post_bind h).imp (fun x M1 hx ρ1 v H1 e1 S1 r1 => ?_) (fun _ _ _ z => z)⟩
    split at hx
    · rename_i a
      cases r1
      refine ⟨⟨a, rfl⟩, ρ1, env, M1, hE.mono e1, S1, (post_bind hx).imp (fun y M2 hy ρ2 w H2 e2 S2 r2 => ?_) (fun _ _ _ z => eP.sh e1 z)⟩
      split at hy
      · rename_i l hl
        split at hy
        · rename_i ys hys
          split at hy
          · rename_i hlen
            obtain ⟨p, vs, rfl, hp, rl⟩ := asL_ok S2 r2 hl
            rw [strsD_ok hys] at rl
            have := rl.ofStrs
            subst this
            exact ⟨a, p, ys, rfl, rfl, .inl (.inl (.inl hp)), hlen, (oP.sh (e1.trans e2) hy) ρ2 (.str _) H2 .refl S2 (.str _)⟩
          · exact hy.elim
        · exact hy.elim
      · exact hy.elim
    · exact hx.elim
end
end Ip
end
section
set_option Elab.async false
set_option linter.all false
set_option maxRecDepth 100000
set_option maxHeartbeats 4000000
set_option autoImplicit false
namespace Ip
open PySem PyProof.Rows L2
end Ip
end
section
set_option Elab.async false
set_option linter.all false
set_option maxRecDepth 100000
set_option maxHeartbeats 4000000
set_option autoImplicit false
namespace PySem
end PySem
namespace L2
open PySem PyProof.Rows
end L2
end
section
set_option Elab.async false
set_option linter.all false
set_option maxRecDepth 100000
set_option maxHeartbeats 4000000
set_option autoImplicit false
namespace Ip
open PySem PyProof.Rows L2
section
variable {X : Cx} {cl : Str → Option Addr} {W : WX}
theorem GI.len {S : Addr} {ip : List (Addr × Obj)} {ys : List V} {σ : L2.St} {H : Hp} {s : Shared} (h : GI X S ip ys σ H s) : σ.length = X.N.length := by
  obtain ⟨_, _, _, I⟩ := h
  exact I.len
end
end Ip
end
section
set_option Elab.async false
set_option linter.all false
set_option maxRecDepth 100000
set_option maxHeartbeats 4000000
set_option autoImplicit false
namespace Ip
open PySem PyProof.Rows L2
end Ip
end
section
set_option Elab.async false
set_option linter.all false
set_option maxRecDepth 100000
set_option maxHeartbeats 4000000
set_option autoImplicit false
namespace Ip
open PySem PyProof.Rows L2
end Ip
end
section
set_option Elab.async false
set_option linter.all false
set_option maxRecDepth 100000
set_option maxHeartbeats 4000000
set_option autoImplicit false
namespace Ip
open PySem PyProof.Rows L2
end Ip
end
section
set_option Elab.async false
set_option linter.all false
set_option maxRecDepth 100000
set_option maxHeartbeats 4000000
set_option autoImplicit false
namespace Ip
open PySem PyProof.Rows L2
end Ip
end
section
set_option Elab.async false
set_option linter.all false
set_option maxRecDepth 100000
set_option maxHeartbeats 4000000
set_option autoImplicit false
namespace Ip
open PySem PyProof.Rows L2
section
variable {X : Cx} {cl : Str → Option Addr} {W : WX}
def gSlS (x : D) (lo hi : Option Int) (M : Sto) : Option (D × Sto) := match x with
  | .str z => if z.length ≤ 16777216 then some (.str (cutS z lo hi), M) else none
  | _ => none
def dSlS (fe : DE) (fl fh : DO) : DE := fun env M => (fe env M).bind fun x M1 => (fl env M1).bind fun lo M2 => (fh env M2).bind fun hi M3 => liftM (gSlS x lo hi M3)
theorem gSlS_ok {G : Gx} {H : Hp} {ρ : Rho} {M M' : Sto} {x d : D} {v : V} {lo hi : Option Int} {Q : VK} (S : RS G H ρ M) (r : RV G H ρ x v) (e : gSlS x lo hi M = some (d, M')) (h : oP G H ρ Q d M') : rSlS v lo hi H Q := by
  unfold gSlS at e
  split at e
  · cases r with
    | str z =>
      split at e
      · rename_i hz
        cases e
        exact ⟨_, rfl, line_of hz, h ρ _ H .refl S (.str _)⟩
      · cases e
  · cases e
theorem se_sliceS {e : Expr} {lo hi : Option Expr} {fe : DE} {fl fh : DO} {p2 pos : Pos} (he : SE X cl W e fe) (hl : SO X cl W lo fl) (hh : SO X cl W hi fh) : SE X cl W (.Subscript e (.Slice lo hi none p2) pos) (dSlS fe fl fh) :=
  PEweak (pe_slice sl_str he hl hh) fun σ H Q ⟨ρ, env, M, hE, hS, h⟩ => by
    refine ⟨ρ, env, M, hE, hS, (post_bind h).imp (fun x M1 hx ρ1 v H1 e1 S1 r1 => ?_) (fun _ _ _ z => z)⟩
    refine ⟨ρ1, env, M1, hE.mono e1, S1, (post_bind hx).imp (fun o M2 hy ρ2 H2 e2 S2 => ?_) (fun _ _ _ z => eP.sh e1 z)⟩
    refine ⟨ρ2, env, M2, hE.mono (e1.trans e2), S2, (post_bind hy).imp (fun o2 M3 hz ρ3 H3 e3 S3 => ?_) (fun _ _ _ z => eP.sh (e1.trans e2) z)⟩
    obtain ⟨d, M', eq, q⟩ := lift_some hz
    exact gSlS_ok (G := gx X cl) S3 (r1.mono (e2.trans e3)) eq (oP.sh (e1.trans (e2.trans e3)) q)
end
end Ip
end
section
set_option Elab.async false
set_option linter.all false
set_option maxRecDepth 100000
set_option maxHeartbeats 4000000
set_option autoImplicit false
namespace Ip
open PySem PySem.Spec PyProof.Rows L2
section
variable {X : Cx} {cl : Str → Option Addr} {W : WX} {G : Gx}
theorem PE.or {e : Expr} {t t' : TE} (h : PE X e t) (h' : PE X e t') : PE X e (fun σ H Q => t σ H Q ∨ t' σ H Q) :=
  ⟨fun pins s σ H Q I z => z.elim (h.run pins s σ H Q I) (h'.run pins s σ H Q I)⟩
theorem PS.or {e : Stmt} {t t' : TS} (h : PS X e t) (h' : PS X e t') : PS X e (fun D σ H => t D σ H ∨ t' D σ H) :=
  ⟨fun pins s σ H D I z => z.elim (h.run pins s σ H D I) (h'.run pins s σ H D I)⟩
end
end Ip
end
section
set_option Elab.async false
set_option linter.all false
set_option maxRecDepth 100000
set_option maxHeartbeats 4000000
set_option autoImplicit false
namespace Ip
open PySem PyProof.Rows L2
section
variable {P : Program} {w : World} {K : PySem.W.Frag} {mg : Str → Option Value} {A : Around} {s : Shared}
/-- what a bare call needs of the heap -/
structure Bare (K : PySem.W.Frag) (mg : Str → Option Value) (h : Heap) : Prop where
  kin : K.In h
  glob : h.Ns mainGlobals mg
  lim : h.NoLimit
theorem Bare.keeps {h h' : Heap} (b : Bare K mg h) (k : ∀ a o, h.get? a = some o → h'.get? a = some o) : Bare K mg h' := ⟨b.kin.keeps k, b.glob.keeps k, b.lim.keeps k⟩
/-- a piece as it stands: word, first number, second -/
inductive PieceAt (h : Heap) (t : Addr) : Int → Int → Prop
  | old {a : Int} {x y : Tok} {v : Value} : IsTup h t #[.str "old" x, .int a y, v] → PieceAt h t a a
  | new {a b c : Int} {x y z u : Tok} : IsTup h t #[.str "new" x, .int a y, .int b z, .int c u] → PieceAt h t a b
theorem IsTup.keeps {h h' : Heap} {t : Addr} {xs : Array Value} (i : IsTup h t xs) (k : ∀ a o, h.get? a = some o → h'.get? a = some o) : IsTup h' t xs := by
  obtain ⟨o, e1, e2, e3⟩ := i
  exact ⟨o, k _ _ e1, e2, e3⟩
theorem PieceAt.keeps {h h' : Heap} {t : Addr} {a b : Int} (p : PieceAt h t a b) (k : ∀ a o, h.get? a = some o → h'.get? a = some o) : PieceAt h' t a b := by
  cases p with
  | old i => exact .old (IsTup.keeps i k)
  | new i => exact .new (IsTup.keeps i k)
end
end Ip
end
section
set_option Elab.async false
set_option linter.all false
set_option maxRecDepth 100000
set_option maxHeartbeats 4000000
set_option autoImplicit false
namespace Ip
open PySem PyProof.Rows L2
end Ip
end
section
set_option Elab.async false
set_option linter.all false
set_option maxRecDepth 100000
set_option maxHeartbeats 4000000
set_option autoImplicit false
namespace Ip
open PySem PySem.Spec PyProof.Rows L2
end Ip
end
section
set_option Elab.async false
set_option linter.all false
set_option maxRecDepth 100000
set_option maxHeartbeats 4000000
set_option autoImplicit false
namespace Ip
open PySem PyProof.Rows L2
end Ip
end
section
set_option Elab.async false
set_option linter.all false
set_option maxRecDepth 100000
set_option maxHeartbeats 4000000
set_option autoImplicit false
namespace Ip
open PySem PySem.Spec PyProof.Rows L2
def lcS (t : DG) (ft : DT) (fe : DE) (src : Src) : Nat → Nat → List D → En → Sto → Out (List D)
  | 0, _, _, _, _ => .bad
  | f + 1, i, acc, env, M => match src.at_ i M with
    | none => .bad
    | some none => .ok acc M
    | some (some d) => match t d env with
      | none => .bad
      | some env1 => (noex (ft env1 M)).bind fun b M1 => if b then (noex (fe env1 M1)).bind fun y M2 => if acc.length < 16777216 then lcS t ft fe src f (i + 1) (acc ++ [y]) env M2 else .bad
        else lcS t ft fe src f (i + 1) acc env M1
def dLc2 (vs : List Nat) (t : DG) (fi : DI) (ft : DT) (fe : DE) : DE := fun env M => (fi env M).bind fun src M1 => (lcS t ft fe src 20000000 0 [] (wipeE env vs) M1).bind fun l M2 => .ok (.lst l) M2
theorem lcS_noexc {t : DG} {ft : DT} {fe : DE} {src : Src} : ∀ (f i : Nat) (acc : List D) (env : En) (M : Sto) (e : Exn) (ev : En) (M2 : Sto), lcS t ft fe src f i acc env M ≠ .exc e ev M2
  | 0, i, acc, env, M, e, ev, M2, z => by cases z
  | f + 1, i, acc, env, M, e, ev, M2, z => by
    unfold lcS at z
    split at z
    · cases z
    · cases z
    · split at z
      · cases z
      · cases h1 : ft _ M with
        | bad => rw [h1] at z; cases z
        | exc _ _ _ => rw [h1] at z; cases z
        | ok b M3 =>
          rw [h1] at z
          cases b with
          | false => exact lcS_noexc f _ _ _ _ _ _ _ z
          | true =>
            change (noex (fe _ M3)).bind _ = _ at z
            cases h2 : fe _ M3 with
            | bad => rw [h2] at z; cases z
            | exc _ _ _ => rw [h2] at z; cases z
            | ok y M4 =>
              rw [h2] at z
              change (if acc.length < 16777216 then _ else _) = _ at z
              split at z
              · exact lcS_noexc f _ _ _ _ _ _ _ z
              · cases z
section
variable {X : Cx} {cl : Str → Option Addr} {W : WX} {G : Gx}
theorem lc2_ok {vs : List Nat} {g : TG} {t : DG} {fi : DI} {ft : DT} {fe : DE} (hg : TgOk G vs g t) {σ : L2.St} {H : Hp} {Q : VK} (h : dE G W (dLc2 vs t fi ft fe) σ H Q) : tLc (dI2 G W fi) g (dT G W0 ft) (dE G W0 fe) vs σ H Q := by
  obtain ⟨ρ, env, M, hE, hS, h⟩ := h
  refine ⟨ρ, env, M, hE, hS, (post_bind h).imp (fun src M1 hx ρ1 H1 J e1 S1 good D hD => ?_) (fun _ _ _ z => z)⟩
  have hD1 : D ∉ ρ1 := S1.fresh hD
  refine ⟨fun i m H => ∃ (ρ : Rho) (M : Sto) (acc : List Ip.D) (av : List V), ρ.t = D :: ρ1.t ∧ Ext G H1 ρ1 H ⟨ρ.c, ρ1.t⟩ ∧ H D = some (.lst av) ∧ RVs G H ρ acc av ∧ RE G H ρ (wipeE env vs) (wipe σ vs) ∧ RS G H ρ M ∧
    (lcS t ft fe src m i acc (wipeE env vs) M).post (fun l M' => oP G H1 ρ1 Q (.lst l) M') (fun _ _ _ => False), ⟨20000000, ⟨ρ1.c, D :: ρ1.t⟩, M1, [], [], rfl, ?_, upd_same, .nil, ?_, ?_, ?_⟩, ?_⟩
  · exact Ext.new S1 hD
  · refine RE.mo (H := H1) (ρ := ρ1) ?_ ((hE.mono e1).wipe vs)
    exact ⟨fun _ _ z => z, fun a xs z => tpA_upd z (fun u w => by rw [hD] at w; cases w), fun a o n nt z => ⟨by rw [upd_ne (ne_of_none z hD)]; exact z, fun w => by
      rcases w with w | w
      · exact n (.inl w)
      · rcases List.mem_cons.mp w with w | w
        · exact ne_of_none z hD w
        · exact n (.inr w)⟩⟩
  · have mo : Mo G H1 ρ1 (upd H1 D (.lst [])) ⟨ρ1.c, D :: ρ1.t⟩ := ⟨fun _ _ z => z, fun a xs z => tpA_upd z (fun u w => by rw [hD] at w; cases w), fun a o n nt z => ⟨by rw [upd_ne (ne_of_none z hD)]; exact z, fun w => by
      rcases w with w | w
      · exact n (.inl w)
      · rcases List.mem_cons.mp w with w | w
        · exact ne_of_none z hD w
        · exact n (.inr w)⟩⟩
    refine ⟨S1.len, S1.nd, fun a ha hb => ?_, fun a ha => ?_, fun n c hc => ?_, S1.tb.keeps fun b u z _ => by rw [upd_ne (ne_of_none z hD)]; exact z⟩
    · rcases List.mem_cons.mp hb with z | z
      · exact hD1 (.inl (by rw [← z]; exact ha))
      · exact S1.dis a ha z
    · rcases List.mem_cons.mp ha with z | z
      · exact ⟨_, by rw [z]; exact upd_same, .inl ⟨_, rfl⟩⟩
      · rw [upd_ne (S1.ne_new hD (.inr z))]; exact S1.trt a z
    · obtain ⟨a, ha, q⟩ := S1.at_ n c hc
      exact ⟨a, ha, q.mo mo (upd_ne (S1.ne_new hD (.inl (List.mem_of_getElem? ha))))⟩
  · have hx' := post_bind hx
    cases hlc : lcS t ft fe src 20000000 0 [] (wipeE env vs) M1 with
    | ok l M2 => rw [hlc] at hx'; exact oP.sh e1 hx'
    | bad => rw [hlc] at hx'; exact hx'
    | exc e ev M2 => exact absurd hlc (lcS_noexc _ _ _ _ _ _ _ _)
  · rintro i m H2 ⟨ρ2, M2, acc, av, ht, x2, hDv, ra, E2, S2, q⟩
    have mk2 : ∀ (a : Addr) (o : HO), a ∉ ρ1 → (∀ ps, o ≠ .tbl ps) → H1 a = some o → H2 a = some o ∧ a ∉ ρ2 := fun a o n nt z => ⟨(x2.keep a o n nt z).1, fun w => by
      rcases w with w | w
      · exact (x2.keep a o n nt z).2 (.inl w)
      · rw [ht] at w
        rcases List.mem_cons.mp w with w | w
        · exact ne_of_none z hD w
        · exact n (.inr w)⟩
    have mo2 : Mo G H1 ρ1 H2 ρ2 := ⟨x2.pre, x2.tup, fun a o n p z => mk2 a o n p.tbl z⟩
    have hDt : D ∈ ρ2.t := by rw [ht]; exact List.mem_cons_self
    obtain ⟨g1, g2⟩ := good H2 ρ2 M2 mo2 S2 i
    cases m with
    | zero => exact q.elim
    | succ m =>
    unfold lcS at q
    split at q
    · exact q.elim
    · rename_i hat
      refine .inl ⟨g2 hat, q ⟨ρ2.c, ρ1.t⟩ (.ref D) H2 x2 ?_ ?_⟩
      · have mo : Mo G H2 ρ2 H2 ⟨ρ2.c, ρ1.t⟩ := ⟨fun _ _ z => z, fun _ _ z => z, fun a o n nt z => ⟨z, fun w => by
          rcases w with w | w
          · exact n (.inl w)
          · exact n (.inr (by rw [ht]; exact List.mem_cons_of_mem _ w))⟩⟩
        refine ⟨S2.len, S2.nd, fun a ha hb => S2.dis a ha (by rw [ht]; exact List.mem_cons_of_mem _ hb), fun a ha => S2.trt a (by rw [ht]; exact List.mem_cons_of_mem _ ha), fun n c hc => ?_, S2.tb⟩
        obtain ⟨a, ha, q⟩ := S2.at_ n c hc
        exact ⟨a, ha, q.mo mo rfl⟩
      · have mo : Mo G H2 ρ2 H2 ⟨ρ2.c, ρ1.t⟩ := ⟨fun _ _ z => z, fun _ _ z => z, fun a o n nt z => ⟨z, fun w => by
          rcases w with w | w
          · exact n (.inl w)
          · exact n (.inr (by rw [ht]; exact List.mem_cons_of_mem _ w))⟩⟩
        exact .lst hDv (fun w => by
          rcases w with w | w
          · exact S2.dis D w hDt
          · exact hD1 (.inr w)) (ra.mo mo)
    · rename_i d hat
      obtain ⟨go, yl⟩ := g1 d hat
      refine .inr ⟨go, fun H => ∃ (ρ : Rho) (M : Sto) (acc : List Ip.D) (av : List V), ρ.t = D :: ρ1.t ∧ Ext G H1 ρ1 H ⟨ρ.c, ρ1.t⟩ ∧ H D = some (.lst av) ∧ RVs G H ρ acc av ∧ RE G H ρ (wipeE env vs) (wipe σ vs) ∧ RS G H ρ M ∧
        (lcS t ft fe src m (i + 1) acc (wipeE env vs) M).post (fun l M' => oP G H1 ρ1 Q (.lst l) M') (fun _ _ _ => False), fun H' n2 => ⟨m, Nat.lt_succ_self _, n2⟩, fun x H3 y => ?_⟩
      obtain ⟨x3, rs3, r3⟩ := yl x H3 y
      split at q
      · exact q.elim
      · rename_i env1 he1
        refine hg H3 ρ2 x _ _ env1 _ _ (E2.mono x3) r3 he1 fun σ4 E4 w4 => ⟨w4.trans (by rw [wipe_eq (σ := wipe σ vs) (τ := σ) (vs := vs) (wipe_length _ _) fun j hj => wipe_out hj]), ?_⟩
        -- from where the turn began to where it is
        have step : ∀ {H5 : Hp} {ρ5 : Rho}, Ext G H2 ρ2 H5 ρ5 → Ext G H1 ρ1 H5 ⟨ρ5.c, ρ1.t⟩ ∧ ρ5.t = D :: ρ1.t ∧ H5 D = some (.lst av) := fun {H5 ρ5} x5 =>
          ⟨⟨fun n a z => x5.pre n a (x2.pre n a z), rfl, fun a z => (x5.same a (by rw [ht]; exact List.mem_cons_of_mem _ z)).trans (x2.same a z), fun a xs z => x5.tup a xs (x2.tup a xs z), fun a o n nt z => by
              obtain ⟨k1, k2⟩ := mk2 a o n nt z
              obtain ⟨k3, k4⟩ := x5.keep a o k2 nt k1
              exact ⟨k3, fun w => by
                rcases w with w | w
                · exact k4 (.inl w)
                · exact n (.inr w)⟩⟩, x5.res.trans ht, (x5.same D hDt).trans hDv⟩
        refine ⟨ρ2, env1, M2, E4, rs3, (noex_post (post_bind q)).imp (fun b M5 hb ρ5 H5 x5 S5 => ?_) (fun _ _ _ z => z)⟩
        cases b with
        | false =>
          obtain ⟨s1, s2, s3⟩ := step (x3.trans x5)
          exact ⟨ρ5, M5, acc, av, s2, s1, s3, ra.mono (x3.trans x5), E2.mono (x3.trans x5), S5, hb⟩
        | true =>
          rw [if_pos rfl]
          refine ⟨ρ5, env1, M5, E4.mono x5, S5, (noex_post (post_bind (show (Out.bind (noex (fe env1 M5)) _).post _ _ from hb))).imp (fun y M6 hy ρ6 v6 H6 x6 S6 r6 => ?_) (fun _ _ _ z => z)⟩
          obtain ⟨s1, s2, s3⟩ := step (x3.trans (x5.trans x6))
          split at hy
          · rename_i hlen
            have hD6 : D ∈ ρ6.t := by rw [s2]; exact List.mem_cons_self
            have mo6 : Mo G H6 ρ6 (upd H6 D (.lst (av ++ [v6]))) ρ6 := ⟨fun _ _ z => z, fun a xs z => tpA_upd z (fun u w => by rw [s3] at w; cases w; exact ⟨fun _ z => (by cases z), fun _ _ z => (by cases z)⟩), fun a o n nt z => ⟨by rw [upd_ne (fun w : a = D => n (by rw [w]; exact .inr hD6))]; exact z, n⟩⟩
            have la : av.length = acc.length := ra.length
            refine ⟨av, s3, by rw [la]; rw [sizeLine_eq]; exact hlen, ρ6, M6, acc ++ [y], av ++ [v6], s2, ⟨s1.pre, rfl, fun a z => ?_, fun a xs z => mo6.tup a xs (s1.tup a xs z), fun a o n nt z => ?_⟩, upd_same, ?_, (E2.mono (x3.trans (x5.trans x6))).mo mo6, ?_, hy⟩
            · rw [upd_ne (fun w : a = D => hD1 (by rw [← w]; exact .inr z))]
              exact s1.same a z
            · obtain ⟨k1, k2⟩ := s1.keep a o n nt z
              exact ⟨by rw [upd_ne (ne_of_none z hD)]; exact k1, k2⟩
            · exact ((ra.mono (x3.trans (x5.trans x6))).append (.one r6)).mo mo6
            · refine ⟨S6.len, S6.nd, S6.dis, fun a ha => ?_, fun n c hc => ?_, S6.tb.keeps fun b u z nz => by rw [upd_ne (fun w : b = D => nz (by rw [w, s3] at z; cases z; exact .inl ⟨_, rfl⟩))]; exact z⟩
              · by_cases z : a = D
                · exact ⟨_, by rw [z]; exact upd_same, .inl ⟨_, rfl⟩⟩
                · rw [upd_ne z]; exact S6.trt a ha
              · obtain ⟨a, ha, q⟩ := S6.at_ n c hc
                exact ⟨a, ha, q.mo mo6 (upd_ne (fun z : a = D => S6.dis a (List.mem_of_getElem? ha) (by rw [z]; exact hD6)))⟩
          · exact hy.elim
theorem se_lc2 {elt tg iter : Expr} {ifs : List Expr} {scope : Scope} {own : List (Str × Nat)} {pos : Pos} {g : TG} {t : DG} {fi : DI} {ft : DT} {fe : DE} (hc : X.calm = true) (hN : X.N.Nodup) (hi : SI2 X cl W tg iter fi) (ok : BlkOk X.N X.env.scope scope own)
    (hgp : ∀ (s : Shared) (H : Hp) (C : Addr) (c : List (Str × Addr)) (fp : List Addr), PG (X.blk s H scope (compEnvC scope c C X.env) fp) tg g) (hg : TgOk (gx X cl) (own.map (·.2)) g t)
    (ht : ∀ (s : Shared) (H : Hp) (C : Addr) (c : List (Str × Addr)) (fp : List Addr), PTs (X.blk s H scope (compEnvC scope c C X.env) fp) ifs (dT (gx X cl) W0 ft))
    (he : ∀ (s : Shared) (H : Hp) (C : Addr) (c : List (Str × Addr)) (fp : List Addr), PE (X.blk s H scope (compEnvC scope c C X.env) fp) elt (dE (gx X cl) W0 fe)) (hs : ∀ x, foldedSetIterable iter X.env x = pure x := by intro _; rfl) :
    SE X cl W (.ListComp elt [⟨tg, iter, ifs, 0⟩] scope pos) (dLc2 (own.map (·.2)) t fi ft fe) :=
  PEweak (pe_lc hc hN hi ok hgp ht he hs) fun σ H Q h => lc2_ok hg h
end
end Ip
end
section
set_option Elab.async false
set_option linter.all false
set_option maxRecDepth 100000
set_option maxHeartbeats 4000000
set_option autoImplicit false
namespace Ip
open PySem PySem.Spec PyProof.Rows L2
end Ip
end
section
set_option Elab.async false
set_option linter.all false
set_option maxRecDepth 100000
set_option maxHeartbeats 4000000
set_option autoImplicit false
namespace Ip
open PySem PyProof.Rows L2
end Ip
end
section
set_option Elab.async false
set_option linter.all false
set_option maxRecDepth 100000
set_option maxHeartbeats 1000000
set_option autoImplicit false
namespace Ip
open PySem PySem.Spec PyProof.Rows L2
mutual
def noTx : NestedKey → Bool
  | .text _ => false
  | .tup l => noTxs l
  | .none => true
  | .num _ => true
def noTxs : List NestedKey → Bool
  | [] => true
  | k :: l => noTx k && noTxs l
end
/-- at b stands the tuple k -/
structure NK (P : Program) (w : World) (h : Heap) (k : NestedKey) (b : Addr) : Prop where
  kind : (nestedKind P w).is h k b
  plain : noTx k = true
abbrev Lk2 := List (Addr × NestedKey)
/-- what stands in the set for one of them -/
def rowN (w : World) (q : Addr × NestedKey) : Int × Value := (q.2.hash w, Value.ref q.1)
section
variable {P : Program} {w : World} {A : Around} {E : Value → Shared → Prop} {s : Shared}
def ClsN (P : Program) (w : World) (n : Nat) (s : Shared) (v : Value) : Prop := ∀ (A : Around) (E : Value → Shared → Prop) (Q : Bool → Shared → Prop), Q false s → wpAny (model P w) A (ofAClassStatement n v) Q E s
def HbyN (P : Program) (w : World) (n : Nat) (s : Shared) (v : Value) : Prop := ∀ (A : Around) (E : Value → Shared → Prop) (Q : Bool → Shared → Prop), Q true s → wpAny (model P w) A (hashByValue n v) Q E s
theorem ClsN.tuple {n m : Nat} {b : Addr} {o : Obj} {vs : Array Value} (ho : s.heap.get? b = some o) (hc : o.cls = .type "tuple") (hd : o.data = .seq vs m) (all : ∀ v ∈ vs.toList, ClsN P w n s v) : ClsN P w (n + 1) s (.ref b) := fun A E Q q => by
  have ty : s.TypeIs (.ref b) "tuple" := ⟨o, ho, hc⟩
  unfold ofAClassStatement
  refine wpAny_bind (wpAny_typeOf ty ?_)
  have yes : (("tuple" : String) == "tuple") = true := by decide
  dsimp only
  simp only [yes, if_true, Bool.not_true, Bool.false_eq_true, if_false]
  try refine wpAny_bind (wpAny_pure ?_)
  try simp only [Bool.not_true, Bool.false_eq_true, if_false]
  refine wpAny_bind (m := seqItems? (.ref b)) (wpAny_seqItems ho hd ?_)
  dsimp only
  refine wpAny_bind ?_
  show wpAny _ _ (forIn vs _ _) _ _ s
  rw [← Array.forIn_toList]
  refine wpAny_forIn_list _ (fun l r u => (r.1 = none ∧ u = s) ∧ ∀ v ∈ l, ClsN P w n s v) _ ?_ ?_ _ _ ⟨⟨rfl, rfl⟩, all⟩
  · rintro v l r u ⟨⟨e, rfl⟩, al⟩
    refine wpAny_bind (al v List.mem_cons_self _ _ _ ?_)
    simp only [Bool.false_eq_true, if_false]
    exact wpAny_pure ⟨⟨rfl, rfl⟩, fun x hx => al x (List.mem_cons_of_mem _ hx)⟩
  · rintro ⟨a1, a2⟩ u ⟨⟨e, rfl⟩, _⟩
    have e : a1 = none := e
    subst e
    exact wpAny_pure q
theorem HbyN.tuple {n m : Nat} {b : Addr} {o : Obj} {vs : Array Value} (ho : s.heap.get? b = some o) (hc : o.cls = .type "tuple") (hd : o.data = .seq vs m) (all : ∀ v ∈ vs.toList, HbyN P w n s v) : HbyN P w (n + 1) s (.ref b) := fun A E Q q => by
  have ty : s.TypeIs (.ref b) "tuple" := ⟨o, ho, hc⟩
  unfold hashByValue
  refine wpAny_bind (wpAny_specialOf ty F.slot_tuple_hash.lookup ?_)
  refine wpAny_bind (m := seqItems? (.ref b)) (wpAny_seqItems ho hd ?_)
  refine wpAny_bind ?_
  show wpAny _ _ (forIn vs _ _) _ _ s
  rw [← Array.forIn_toList]
  refine wpAny_forIn_list _ (fun l r u => (r.1 = none ∧ u = s) ∧ ∀ v ∈ l, HbyN P w n s v) _ ?_ ?_ _ _ ⟨⟨rfl, rfl⟩, all⟩
  · rintro v l r u ⟨⟨e, rfl⟩, al⟩
    refine wpAny_bind (al v List.mem_cons_self _ _ _ ?_)
    simp only [Bool.not_true, Bool.false_eq_true, if_false]
    exact wpAny_pure ⟨⟨rfl, rfl⟩, fun x hx => al x (List.mem_cons_of_mem _ hx)⟩
  · rintro ⟨a1, a2⟩ u ⟨⟨e, rfl⟩, _⟩
    have e : a1 = none := e
    subst e
    exact wpAny_pure q
structure SN (P : Program) (w : World) (h : Heap) (a : Addr) (L : Lk2) (es : Array (Int × Value)) (ep : Nat) (T : SetTable) : Prop where
  obj : ∃ o, (h.get? a = some o ∧ o.data = .set es ep T) ∧ o.ExactSet
  ent : es.toList = L.map (rowN w)
  tab : TabOk T (L.map fun q => q.2.hash w)
  nod : (L.map Prod.snd).Nodup
  key : ∀ q ∈ L, NK P w h q.2 q.1
  flag : T.plain = true ∧ (w.params.followText "set-order" = true ∨ T.led = true)
  rm : 5 * L.length < 3 * T.mask
  fw : L.length ≤ 63
variable {a : Addr} {L : Lk2} {es : Array (Int × Value)} {ep : Nat} {T : SetTable}
end
end Ip
end
section
set_option Elab.async false
set_option linter.all false
set_option maxRecDepth 100000
set_option maxHeartbeats 1000000
set_option autoImplicit false
namespace Ip
open PySem PySem.Spec PyProof.Rows L2
section
variable {P : Program} {w : World} {A : Around} {E : Value → Shared → Prop} {s : Shared} {a : Addr} {L : Lk2} {es : Array (Int × Value)} {ep : Nat} {T : SetTable}
theorem SN.fresh {h : Heap} (ho : h.get? a = some (set0 w)) : SN P w h a [] #[] 0 (.fresh 0 0 (!w.params.followText "set-order")) := by
  have T := setTR_fresh (P := P) (w := w) ho
  exact ⟨⟨_, ⟨ho, rfl⟩, ⟨rfl, rfl, rfl⟩⟩, rfl, T.tab, List.nodup_nil, fun _ z => (by cases z), ⟨T.plain, T.led⟩, by have := T.room; simpa using this, Nat.zero_le _⟩
variable {S : Addr} {ks : Lk2}
end
end Ip
end
section
set_option Elab.async false
set_option linter.all false
set_option maxRecDepth 100000
set_option maxHeartbeats 4000000
set_option autoImplicit false
namespace Ip
open PySem PySem.Spec PyProof.Rows L2
end Ip
end
section
set_option Elab.async false
set_option linter.all false
set_option maxRecDepth 100000
set_option maxHeartbeats 4000000
set_option autoImplicit false
namespace Ip
open PySem PySem.Spec PyProof.Rows L2
end Ip
end
section
set_option Elab.async false
set_option linter.all false
set_option maxRecDepth 100000
set_option maxHeartbeats 4000000
set_option autoImplicit false
namespace Ip
open PySem PySem.Spec PyProof.Rows L2
def sgn (c : Nat) : Str := ⟨#[c]⟩
section
variable {X : Cx} {cl : Str → Option Addr} {W : WX} {G : Gx}
def gLenS : GC := fun as M => match as with
  | [.str z] => if z.length ≤ 16777216 then some (.int (z.length : Nat), M) else none
  | _ => none
theorem cs_lenS : CallS G (fun xs H Q => ∃ z, xs = [.str z] ∧ z.length ≤ sizeLine ∧ Q (.int z.length) H) gLenS := fun H ρ M xs ds d M' Q S rs e h => by
  unfold gLenS at e
  split at e
  · rename_i z
    cases rs with
    | cons r1 r2 =>
      cases r1
      cases r2
      split at e
      · rename_i hz
        cases e
        exact ⟨z, rfl, by rw [sizeLine_eq]; exact hz, h ρ _ H .refl S (.int _)⟩
      · cases e
  · cases e
def gIxS : G2 := fun x y M => match x, y with
  | .str z, .int i => if z.length ≤ 16777216 then (L2.atI z.cps.toList i).map fun c => (.str (sgn c), M) else none
  | _, _ => none
theorem ops_ixS : OpS G rIxS gIxS := fun H ρ M x y dx dy d M' Q S rx ry e h => by
  unfold gIxS at e
  split at e
  · rename_i z i
    cases rx
    cases ry
    split at e
    · rename_i hz
      obtain ⟨c, hc, e⟩ := Option.map_eq_some_iff.mp e
      cases e
      exact ⟨z, i, c, rfl, rfl, by rw [sizeLine_eq]; exact hz, hc, h ρ _ H .refl S (.str _)⟩
    · cases e
  · cases e
theorem se_atS {a b : Expr} {fa fb : DE} {pos : Pos} (ha : SE X cl W a fa) (hb : SE X cl W b fb) (hs : PlainIx b := by exact fun _ _ => rfl) : SE X cl W (.Subscript a b pos) (dBin gIxS fa fb) := se_ix ix_str ops_ixS ha hb hs
def gDivW : G2 := gIntC (fun _ j => decide (0 < j) && decide (j < 1000000000000000000)) fun i j => i / j
theorem cdivW_of {i j : Int} (h1 : 0 < j) (h2 : j < 1000000000000000000) : CDivW i j := by
  refine ⟨h1, ?_⟩
  have : j.natAbs < 2 ^ 60 := by omega
  have := (Nat.log2_lt (by omega)).mpr this
  omega
theorem se_divW {a b : Expr} {fa fb : DE} {pos : Pos} (ha : SE X cl W a fa) (hb : SE X cl W b fb) : SE X cl W (.BinOp a .FloorDiv b pos) (dBin gDivW fa fb) := se_bin op_fdivW (ops_intC fun i j h => by
  simp only [Bool.and_eq_true, decide_eq_true_eq] at h
  exact cdivW_of h.1 h.2) ha hb
theorem g_divW (M : Sto) (i j : Int) (h : 0 < j) (h' : j < 1000000000000000000) : gDivW (.int i) (.int j) M = some (.int (i / j), M) := by
  simp [gDivW, gIntC, h, h']
def gIntT : GC := fun as M => match as with
  | [.str a] => if a.length ≤ 640 then (PySem.intText? a).map fun n => (.int n, M) else none
  | _ => none
theorem cs_intT : CallS G (fun xs H Q => ∃ a n, xs = [.str a] ∧ PySem.intText? a = some n ∧ a.length ≤ 640 ∧ Q (.int n) H) gIntT := fun H ρ M xs ds d M' Q S rs e h => by
  unfold gIntT at e
  split at e
  · rename_i a
    cases rs with
    | cons r1 r2 =>
      cases r1
      cases r2
      split at e
      · rename_i hz
        obtain ⟨n, hn, e⟩ := Option.map_eq_some_iff.mp e
        cases e
        exact ⟨a, n, rfl, hn, hz, h ρ _ H .refl S (.int _)⟩
      · cases e
  · cases e
def thawE (k : Nat) (M : Sto) (env : En) : En := env.map fun o => match o with
  | some d => thaw k M d
  | none => none
def dThaw2 (f1 f2 g : DS) : DS := fun env M => (f1 env M).bind fun fl M1 => match fl with
  | .nx env1 => (f2 env1 M1).bind fun fl2 M2 => match fl2 with
    | .nx env2 => if (M2.take M.length).all (cellClosed M.length) then g (thawE M.length M2 env2) (M2.take M.length) else .bad
    | _ => .bad
  | _ => .bad
theorem re_thaw {H : Hp} {ρ : Rho} {M : Sto} {env : En} {σ : L2.St} (hE : RE G H ρ env σ) (S : RS G H ρ M) (k : Nat) : RE G H (ρ.cut k) (thawE k M env) σ := by
  refine ⟨by unfold thawE; rw [List.length_map]; exact hE.1, fun i d h => ?_⟩
  unfold thawE at h
  rw [List.getElem?_map] at h
  cases e : env[i]? with
  | none => rw [e] at h; cases h
  | some o =>
    rw [e] at h
    cases o with
    | none => cases h
    | some d0 =>
      have h : thaw k M d0 = some d := Option.some.inj h
      obtain ⟨v, e1, r⟩ := hE.2 i d0 e
      exact ⟨v, e1, thaw_ok S r h⟩
theorem ss_thaw {st1 st2 : Stmt} {sts : List Stmt} {f1 f2 g : DS} (h1 : SS X cl W st1 f1) (h2 : SS X cl W st2 f2) (h3 : SSs X cl W sts g) : SSs X cl W (st1 :: st2 :: sts) (dThaw2 f1 f2 g) :=
  PSsweak (pss_cons h1 (pss_cons h2 h3)) fun D σ H ⟨ρ, env, M, hE, hS, h⟩ => by
    refine ⟨ρ, env, M, hE, hS, (post_bind h).imp (fun fl M1 hx => ?_) (fun _ _ _ z => z)⟩
    cases fl with
    | rt d => exact hx.elim
    | bk d => exact hx.elim
    | ct d => exact hx.elim
    | nx env1 =>
      intro ρ1 σ1 H1 e1 S1 E1
      refine ⟨ρ1, env1, M1, E1, S1, (post_bind hx).imp (fun fl2 M2 hy => ?_) (fun _ _ _ z => eP.sh e1 z)⟩
      cases fl2 with
      | rt d => exact hy.elim
      | bk d => exact hy.elim
      | ct d => exact hy.elim
      | nx env2 =>
        intro ρ2 σ2 H2 e2 S2 E2
        simp only at hy
        split at hy
        · rename_i hc
          have e3 := Ext.cut (M' := M2) hS (e1.trans e2)
          exact ⟨ρ2.cut M.length, thawE M.length M2 env2, M2.take M.length, re_thaw E2 S2 M.length, S2.cut hc, Out.post.imp hy (fun _ _ z => sP.sh e3 z) (fun _ _ _ z => eP.sh e3 z)⟩
        · exact hy.elim
end
end Ip
end
section
set_option Elab.async false
set_option linter.all false
set_option maxRecDepth 100000
set_option maxHeartbeats 4000000
set_option autoImplicit false
namespace Ip
open PySem PySem.Spec PyProof.Rows L2
section
variable {X : Cx} {cl : Str → Option Addr} {W : WX}
def dCMethN (c : Str) (F : DF) (fa : DA) : DE := fun env M => (fa env M).bind fun ds M1 => noex (F (.cls c :: ds) M1)
theorem se_cmethN {c x : Str} {k : Nat} {C p g : Addr} {mc : Value} {fd : FuncData} {ps : List Str} {F : DF} {m : Str} {e : Expr} {es : List Expr} {fa : DA} {pos apos npos : Pos} {pl : Sem Bool} (hC : cl c = some C) (hg : Gl X x) (hm : X.mg x = some (.ref C)) (r : ClX.CRead X.K C mc) (cm : ClX.CMet X.K C mc m p g) (Fk : FnOk X.prog X.w X.K X.mg X.base CX0 k g fd ps (spD (gx X cl) F)) (hr : Room k X.A) (hb : Binds X.K fd ps [])
    (ha : SA X cl W (e :: es) fa) (hd : (x == ("__debug__" : Str)) = false := by decide)
    (hst : starEach (e :: es) X.env = (false, eval e X.env) :: starEach es X.env := by rfl) (hpl : (backTo pos (starEach es X.env)).any (·.1) = false := by rfl)
    (ht : eval (.Call (.Attribute (.Name x npos) m apos) (e :: es) [] pos) X.env = (do
      let ov ← eval (.Name x npos) X.env
      standAt apos.atName
      let (f, first) ← holding [ov] (getMethod ov m pl)
      callWith pos f first (backTo pos (starEach (e :: es) X.env)) (backToKw pos (keywordEach [] X.env))) := by rfl) :
    SE X cl W (.Call (.Attribute (.Name x npos) m apos) (e :: es) [] pos) (dCMethN c F fa) :=
  PEweak (ClX.pe_cmeth (E := E0) (pe_glob (v := .ref C) hg hm rfl hd) r cm (Fk.raw hb .nil) hr pass0 ha hst hpl ht) fun σ H Q ⟨ρ, env, M, hE, hS, h⟩ => by
    refine ⟨rfl, ρ, env, M, hE, hS, (post_bind h).imp (fun ds M1 hx ρ1 vs H1 e1 S1 r1 => ?_) (fun _ _ _ z => z)⟩
    show spD (gx X cl) F ((.ref C :: vs) ++ []) _ _ E0
    rw [List.append_nil]
    exact ⟨ρ1, M1, .cls c :: ds, S1, .cons (.cls hC) r1, (noexF hx).imp (fun _ _ z => oP.sh e1 z) (fun _ _ _ z => z)⟩
theorem ps_try_calm {body : List Stmt} {h₀ : ExceptHandler} {hds : List ExceptHandler} {pos : Pos} {tb : TS} (hs : X.stack = X.env :: X.outer) (hf : X.env.frame = some X.env.locals)
    (hb : ∀ (pn : List (Addr × Obj)) (xe : Value → Shared → Prop), PassesOwn (model X.prog X.w) X.A X.env xe → PSs (X.tr pn xe) body tb) : PS X (.Try body (h₀ :: hds) [] [] pos) tb := by
  refine ⟨fun pins s σ H D I h => ?_⟩
  have ok := I.ok
  refine wpAny_Try_except ?_
  refine wpAny_mono ((hb (X.pn ++ pins) (fun e s₁ => wpAny (model X.prog X.w) X.A (noteFrame e X.env) (fun _ s₂ => wpAny (model X.prog X.w) X.A (setFlight e none) (fun _ s₃ =>
    wpAny (model X.prog X.w) X.A (handleBy e X.env (h₀ :: hds)) (SP X pins D) X.xe s₃) X.xe s₂) X.xe s₁) PassesOwn.looking).run [] s σ H D (I.toTry _) h) (fun f s1 hsp => ?_) (fun e s1 he => he)
  cases f with
  | next =>
    obtain ⟨σ', H', J', q⟩ := hsp
    exact wpAny_execs_nil ⟨σ', H', J'.ofTry ok, q⟩
  | brk =>
    obtain ⟨σ', H', J', q⟩ := hsp
    exact ⟨σ', H', J'.ofTry ok, q⟩
  | cont =>
    obtain ⟨σ', H', J', q⟩ := hsp
    exact ⟨σ', H', J'.ofTry ok, q⟩
  | ret u =>
    obtain ⟨v, σ', H', J', r, q⟩ := hsp
    exact ⟨v, σ', H', J'.ofTry ok, r, q⟩
def noexS (f : DS) : DS := fun env M => match f env M with
  | .exc _ _ _ => .bad
  | o => o
theorem ss_tryN {body : List Stmt} {h₀ : ExceptHandler} {hds : List ExceptHandler} {pos : Pos} {fb : DS} (hs : X.stack = X.env :: X.outer := by rfl) (hf : X.env.frame = some X.env.locals := by rfl)
    (hb : ∀ (pn : List (Addr × Obj)) (xe : Value → Shared → Prop), PassesOwn (model X.prog X.w) X.A X.env xe → SSs (X.tr pn xe) cl (fun _ _ _ _ => False) body fb) : SS X cl W (.Try body (h₀ :: hds) [] [] pos) (noexS fb) :=
  PSweak (ps_try_calm (tb := dS (gx X cl) (fun _ _ _ _ => False) fb) hs hf (fun pn xe hp => hb pn xe hp)) fun D σ H ⟨ρ, env, M, hE, hS, h⟩ => by
    refine ⟨ρ, env, M, hE, hS, ?_⟩
    unfold noexS at h
    cases e : fb env M with
    | ok fl M1 => rw [e] at h; exact h
    | exc a b c => rw [e] at h; exact h.elim
    | bad => rw [e] at h; exact h.elim
end
end Ip
end
section
set_option Elab.async false
set_option linter.all false
set_option maxRecDepth 100000
set_option maxHeartbeats 4000000
set_option autoImplicit false
namespace Ip
open PySem PySem.Spec PySem.Calls PyProof.Rows L2
section
variable {prog : Program} {w : World} {A : Around} {E : Value → Shared → Prop} {s : Shared}
theorem walks_from {l it : Addr} {items : Array Value} {k : Nat} (hne : l ≠ it) (hh : A.handled = none) (hk : k ≤ items.size) :
    WalksS prog w A it [it, l] [it] (fun a b => b = a) (items.size - k) (fun i v => items[k + i]? = some v) (fun i s => s.heap.IsListIter it l (k + i) ∧ s.heap.IsList l items) where
  sub := by simp
  grefl := fun _ => rfl
  gtrans := fun _ _ _ a b => b.trans a
  frame := fun i s h' tk ⟨⟨o, h1, h2⟩, ⟨o', g1, g2⟩⟩ _ f => ⟨⟨o, f it (by simp) o h1, h2⟩, ⟨o', f l (by simp) o' g1, g2⟩⟩
  item := fun i s Q E hi ⟨h1, h2⟩ hQ => wpAny_pyNext_list_item h1 h2 (x := items[k + i]'(by omega)) (Array.getElem?_eq_getElem (by omega)) fun h' h3 h4 =>
    hQ _ _ (Array.getElem?_eq_getElem (by omega)) ⟨h3, h2.extBut h4.extBut hne⟩ ⟨fun b o hb e => by
      have hb' : b ≠ it := by simpa using hb
      exact (h4.2 b hb').trans e, rfl, rfl, rfl, Nat.le_refl _⟩
  done := fun s Q E ⟨h1, h2⟩ hQ => wpAny_pyNext_list_end hh h1 h2 (Array.getElem?_eq_none (by omega)) fun h' h3 => hQ _ ⟨fun b o hb e => h3 b o (by simpa using hb) e, rfl, rfl, rfl, Nat.le_refl _⟩
  self := fun i s Q E ⟨h1, _⟩ h => wpAny_pyIter_listiter h1 h
theorem star_items {l : Addr} {items : Array Value} {Q : List Value → Shared → Prop} (hh : A.handled = none) (hh1 : A.in1.handled = none) (hl : s.heap.IsList l items) (h1 : 0 < items.size) (hz : items.size ≤ sizeLine)
    (hQ : ∀ (h' : Heap) (tk : Nat), (∀ b o, s.heap.get? b = some o → h'.get? b = some o) → s.toks ≤ tk → Q [items[0], .ref h'.objs.size] { s with heap := h'.push { cls := .type "list", data := .seq (items.toList.drop 1).toArray }, toks := tk }) :
    wpAny (model prog w) A (unpackItems (.ref l) 2 (some 1)) Q E s := by
  have hlt : l ≠ s.heap.objs.size := by obtain ⟨o, ho, _⟩ := hl; exact Nat.ne_of_lt (Heap.lt_size ho)
  unfold unpackItems
  refine wpAny_bind ?_
  unfold notIterableAtAll
  refine wpAny_bind (wpAny_specialOf hl.typeIs PySem.F.slot_list_iter.lookup ?_)
  refine wpAny_pure ?_
  simp only [Bool.false_eq_true, if_false]
  refine wpAny_bind (wpAny_holding (wpAny_pyIter_list hl ?_))
  refine wpAny_bind (wpAny_holding (PySem.W.kun_draw hlt 1 0 _ _ ⟨_, Heap.get?_push_size _ rfl, rfl, rfl⟩ (hl.push _) (by omega) fun h₁ hit₁ hs₁ => ?_))
  have hall : List.take 1 (List.drop 0 items.toList) = [items[0]] := by
    rw [List.drop_zero]
    cases e : items.toList with
    | nil =>
      have h0 : items.toList.length = 0 := by rw [e]; rfl
      rw [Array.length_toList] at h0
      omega
    | cons x xs =>
      have : items[0] = x := by
        have h2 : items.toList[0]? = some x := by rw [e]; rfl
        rw [Array.getElem?_toList, Array.getElem?_eq_getElem h1] at h2
        exact Option.some.inj h2
      rw [this]
      rfl
  rw [hall]
  rw [if_neg (by simp)]
  have hl₁ : h₁.IsList l items := (hl.push _).extBut hs₁.extBut hlt
  have hkeep : ∀ b o, s.heap.get? b = some o → h₁.get? b = some o := fun b o e => by
    have hb : b ≠ s.heap.objs.size := Nat.ne_of_lt (Heap.lt_size e)
    exact (hs₁.2 b hb).trans (Heap.get?_push_of_some _ e)
  have hsz₁ : s.heap.objs.size < h₁.objs.size := by obtain ⟨o, ho, _⟩ := hit₁; exact Heap.lt_size ho
  refine wpAny_bind (wpAny_holding (wpAny_collect_iter (T := "list_iterator") (.inr (.inr (.inl rfl))) (walks_from (items := items) (k := 1) hlt hh1 (by omega)) (fun i s h => h.1.typeIs) ⟨hit₁, hl₁⟩ (fun b hb => ?_) (by simp) (fun s' acc hm hi => ?_) (by omega)))
  · simp only [List.mem_cons, List.not_mem_nil, or_false] at hb
    rcases hb with rfl | rfl
    · exact hsz₁
    · obtain ⟨o, ho, _⟩ := hl₁; exact Heap.lt_size ho
  · have hacc : acc.toList = items.toList.drop 1 := by
      refine List.ext_getElem? fun j => ?_
      rw [List.getElem?_drop, Array.getElem?_toList, Array.getElem?_toList]
      by_cases hj : j < acc.size
      · rw [Array.getElem?_eq_getElem hj]
        exact (hi.2 j _ (Array.getElem?_eq_getElem hj)).symm
      · rw [Array.getElem?_eq_none (by omega), Array.getElem?_eq_none (by have := hi.1; omega)]
    rw [hacc]
    simp only [Nat.reduceSub]
    rw [if_neg (by omega)]
    have hk' : ∀ b o, s.heap.get? b = some o → s'.heap.get? b = some o := fun b o e => hm.heap b o (by
      simp only [List.mem_singleton]
      exact Nat.ne_of_lt (Heap.lt_size e)) (hkeep b o e)
    rw [Moved.eq_with hm]
    rw [Nat.sub_zero, List.take_length, List.drop_length]
    refine wpAny_bind (wpAny_newList ?_ (by rw [List.length_drop, Array.length_toList]; omega))
    refine wpAny_pure ?_
    exact hQ s'.heap s'.toks hk' hm.toks
end
section
variable {X : Cx} {cl : Str → Option Addr} {W : WX} {G : Gx}
def gStar (K : PySem.W.Frag) (t : TGs) : TG := fun v σ H Q => ∃ a x xs, v = .ref a ∧ SqL K H a (x :: xs) ∧ ∀ l, H l = none → t [x, .ref l] σ (upd H l (.lst xs)) Q
theorem pg_star {e1 e2 : Expr} {k : Nat} {t : TGs} {p pos : Pos} (hc : X.calm = true) (h : PGs X [e1, e2] t)
    (hn : (assignEach [e1, .Starred e2 p] X.env).length = 2 := by rfl) (hst : (assignEach [e1, .Starred e2 p] X.env).findIdx? (·.1) = some 1 := by rfl)
    (hm : (assignEach [e1, .Starred e2 p] X.env).map (·.2) = (assignEach [e1, e2] X.env).map (·.2) := by rfl) : PG X (.Tuple [e1, .Starred e2 p] k pos) (gStar X.K t) := by
  refine ⟨fun pins s σ H v u Q I r hw => ?_⟩
  obtain ⟨a, x, xs, e1, hq, hw⟩ := hw
  subst e1
  cases r
  obtain ⟨its, rv, pl, hz⟩ := I.list hq
  cases rv with
  | @cons _ y _ ys r1 r2 =>
    have hlen := r2.length
    rw [PyProof.Rows.assign_Tuple]
    refine wpAny_bind (wpAny_standAt ?_)
    unfold unpack
    rw [hn, hst, hm]
    refine wpAny_bind (wpAny_holding (star_items (I.ok.hd hc) (I.ok.hd hc) pl.isList (by simp) (by simp only [List.size_toArray, List.length_cons] at hz ⊢; omega) fun h' tk kp htk => ?_))
    have I1 : Inv X pins σ H { s with heap := h', toks := tk } := I.kept kp
    have I2 : Inv X pins σ (upd H h'.objs.size (.lst xs)) { s with heap := h'.push { cls := .type "list", data := .seq ys.toArray }, toks := tk } :=
      I1.laid (t' := tk) (fun b o e => Heap.get?_push_of_some _ e) (Nat.le_refl _) (show ObjOk X.prog X.w _ _ _ (.lst xs) from ⟨by simp only [List.length_cons] at hz; omega, ys, 0, r2, Heap.get?_push_size _ rfl⟩)
    exact h.run pins _ σ _ [x, .ref h'.objs.size] _ Q I2 (.cons r1 (.cons rfl .nil)) (hw _ (I1.hok.fresh (Nat.le_refl _)))
/-- a, *rest = xs -/
def dStar (i j : Nat) (fe : DE) : DS := fun env M => (fe env M).bind fun d M1 => match d with
  | .lst (x :: xs) => .ok (.nx ((env.set i (some x)).set j (some (.lst xs)))) M1
  | _ => .bad
theorem ss_star {i j : Nat} {e1 e2 e : Expr} {fe : DE} {k : Nat} {p ps pos : Pos} (hc : X.calm = true) (he : SE X cl W e fe) (h : PGs X [e1, e2] (gsNames [i, j]))
    (hn : (assignEach [e1, .Starred e2 p] X.env).length = 2 := by rfl) (hst : (assignEach [e1, .Starred e2 p] X.env).findIdx? (·.1) = some 1 := by rfl)
    (hm : (assignEach [e1, .Starred e2 p] X.env).map (·.2) = (assignEach [e1, e2] X.env).map (·.2) := by rfl)
    (hs : swapsWithSole [.Tuple [e1, .Starred e2 p] k ps] e pos.line X.env = pure false := by rfl) (hw : swappedStores [.Tuple [e1, .Starred e2 p] k ps] e X.env = pure none := by rfl)
    (h1 : (assignEach [.Tuple [e1, .Starred e2 p] k ps] X.env).map (·.2) = [assign (.Tuple [e1, .Starred e2 p] k ps) X.env] := by rfl) :
    SS X cl W (.Assign [.Tuple [e1, .Starred e2 p] k ps] e pos) (dStar i j fe) :=
  PSweak (ps_asg he (pg_star hc h hn hst hm) hs hw h1) fun D σ H ⟨ρ, env, M, hE, hS, h⟩ => by
    refine ⟨ρ, env, M, hE, hS, (post_bind h).imp (fun d M1 hx ρ1 v H1 e1 S1 r1 => ?_) (fun _ _ _ z => z)⟩
    split at hx
    · rename_i x xs
      cases r1 with
      | lst hh hno rs =>
        cases rs with
        | cons rx rxs =>
          refine ⟨_, _, _, rfl, SqL.of hh, fun l hl => ?_⟩
          exact gsNames_ok (G := gx X cl) (H := upd H1 l _) (ρ := ρ1) (ds := [x, .lst xs]) (.cons (rx.mono (Ext.new S1 hl)) (.one (.lst upd_same (S1.fresh hl) (rxs.mono (Ext.new S1 hl))))) ((hE.mono e1).mono (Ext.new S1 hl)) rfl
            fun σ' E' => hx ρ1 σ' _ (e1.trans (Ext.new S1 hl)) (S1.new hl) E'
    · exact hx.elim
end
end Ip
end
section
set_option Elab.async false
set_option linter.all false
set_option maxRecDepth 100000
set_option maxHeartbeats 4000000
set_option autoImplicit false
namespace Ip
open PySem PySem.Spec PySem.Calls PyProof.Rows L2
open Builtin Builtin.Str
section
variable {X : Cx} {cl : Str → Option Addr} {W : WX} {G : Gx}
theorem run_in2 {f : Addr} {fd : FuncData} {k : Nat} {ps : List Str} {sp : Sp} {pins : List (Addr × Obj)} {σ : L2.St} {H : Hp} {s : Shared} {Q : VK} {us : List Value} {vs : List V} (F : FnOk X.prog X.w X.K X.mg X.base CX0 k f fd ps sp) (hr : Room (k + 2) X.A) (hb : Binds X.K fd ps [])
    (I : Inv X pins σ H s) (r : Vals vs us) (h : sp vs H Q E0) : wpAny (model X.prog X.w) X.A.in1.in1 (call (.ref f) us) (EP X pins σ Q) X.xe s :=
  thn (run_in (X := inCx X) F hr.in1 hb (inCx_in I) r h) fun u s' ⟨v, H', I', rv, q⟩ => ⟨v, H', inCx_out I', rv, q⟩
theorem meets_strIn {prog : Program} {w : World} {v : Value} : MeetsIn prog w (Builtin.«str.__new__» ⟨[.type "str", v], []⟩) (fun A R s => wpAny (model prog w) A.in1 (Builtin.Str.strOf v) (fun r s' => R (.ok (.ret r)) s') (fun e s' => R (.error e) s') s) := fun A R s h => by
  rw [str_new_tree v]
  refine wpAny_bind (wpAny_pure ?_)
  refine wpAny_bind (wpAny_of_eq isSubtype_str_str ?_)
  exact wpAny_bind (wpAny_mono h (fun r s' h' => wpAny_pure h') fun _ _ e => e)
theorem call_strO {C f : Addr} {fd : FuncData} {k : Nat} {ps : List Str} {sp : Sp} (hm : Meth X.K C "__str__" f) (F : FnOk X.prog X.w X.K X.mg X.base CX0 k f fd ps sp) (hr : Room (k + 2) X.A) (hb : Binds X.K fd ps []) :
    CallR X (.type "str") (fun xs H Q => ∃ a dx fs, xs = [.ref a] ∧ H a = some (.ins C dx fs) ∧ sp [.ref a] H (fun v H' => ∃ m : Str, v = .str m ∧ Q (.str m) H') E0) := by
  intro pins s σ H xs us Q I r h
  obtain ⟨a, dx, fs, rfl, ha, h⟩ := h
  obtain ⟨u, rfl, rx⟩ := vals1 r
  obtain rfl : u = Value.ref a := rx
  have sp1 := spec_own hm I ha
  have bf := PySem.W.bind_fn (M := model X.prog X.w) I.kIn (.ref a) (fn_type hm.fn)
  have hu : X.A.in1.in1.units < cLine := hr.in1.in1.units0
  have hcall := run_in2 (vs := [.ref a]) F hr hb I (.cons rfl .nil) h
  refine callType_newIn PySem.F.called_str (by decide) (PySem.F.typeCall_str_1 _) (PySem.F.newCall_str_1 _) (fun obj => PySem.F.args_object_init_2 obj _) PySem.F.entry_str_new meets_strIn ?_
  show wpAny (model X.prog X.w) X.A.in1.in1 (Builtin.Str.strOf (.ref a)) _ _ s
  unfold Builtin.Str.strOf
  refine wpAny_bind (m := cRoomFor _ _) (wpAny_cRoomFor hu ?_)
  have cs : wpAny (model X.prog X.w) X.A.in1.in1 (callSpecial? (.ref a) (Str.ofString "__str__")) (fun o s' => ∃ v, o = some v ∧ EP X pins σ (fun v H' => ∃ m : Str, v = .str m ∧ Q (.str m) H') v s') X.xe s := by
    simp only [callSpecial?]
    refine wpAny_bind (sp1.here ?_)
    refine wpAny_holding (wpAny_bind (bf.here ?_))
    exact wpAny_bind (thn hcall fun v s' q => wpAny_pure ⟨v, rfl, q⟩)
  refine wpAny_bind (m := callSpecial? (.ref a) (Str.ofString "__str__")) (wpAny_mono cs (fun o s1 ⟨v, e, z⟩ => ?_) fun _ _ e => e)
  subst e
  obtain ⟨v', H1, I1, rv, m, rfl, q⟩ := z
  obtain ⟨t, rfl⟩ := rv
  exact wpAny_pure ⟨typeIs_str _ _ _, ⟨.str m, H1, I1, ⟨_, rfl⟩, q⟩⟩
theorem se_strO {c : Str} {C f : Addr} {fd : FuncData} {k : Nat} {ps : List Str} {F : DF} {e : Expr} {fe : DE} {p pos : Pos} (hC : cl c = some C) (hm : Meth X.K C "__str__" f) (Fk : FnOk X.prog X.w X.K X.mg X.base CX0 k f fd ps (spD (gx X cl) F)) (hr : Room (k + 2) X.A) (hb : Binds X.K fd ps [])
    (hg : Gl X "str") (hn : X.mg "str" = none) (he : SE X cl W e fe) (h1 : starEach [e] X.env = (false, eval e X.env) :: starEach [] X.env := by rfl) (hpl : (backTo pos (starEach [] X.env)).any (·.1) = false := by rfl) :
    SE X cl W (.Call (.Name "str" p) [e] [] pos) (dReprO c F fe) :=
  PEweak (pe_callTy (call_strO hm Fk hr hb) hg hn (by decide +kernel) (pa_cons he pa_nil h1) (by decide) (by decide) h1 hpl) fun σ H Q ⟨ρ, env, M, hE, hS, h⟩ => by
    refine ⟨ρ, env, M, hE, hS, (post_bind h).imp (fun x M1 hx ρ1 v H1 e1 S1 r1 => ?_) (fun _ _ _ z => z)⟩
    split at hx
    · rename_i p hp
      obtain ⟨ks, ds⟩ := p
      obtain ⟨a, dx, vs, rfl, ha, hl, rs⟩ := objOf_ok (G := gx X cl) hC S1 r1 hp
      refine ⟨a, dx, _, rfl, ha, ρ1, M1, [x], S1, .one r1, (noexF (post_bind hx)).imp (fun d M2 hd ρ2 v2 H2 e2 S2 r2 => ?_) (fun _ _ _ z => z)⟩
      cases r2 with
      | str m => exact ⟨m, rfl, hd ρ2 _ H2 (e1.trans e2) S2 (.str m)⟩
      | _ => exact hd.elim
    · exact hx.elim
end
end Ip
end
section
set_option Elab.async false
set_option linter.all false
set_option maxRecDepth 100000
set_option maxHeartbeats 4000000
set_option autoImplicit false
namespace Ip
open PySem PyProof.Rows L2
section
variable {α β : Type} (env : En) (M : Sto)
theorem bind_ok (a : α) (k : α → Sto → Out β) : (Out.ok a M).bind k = k a M := rfl
theorem bind_bad (k : α → Sto → Out β) : (Out.bad : Out α).bind k = .bad := rfl
theorem liftM_some (d : D) : Ip.liftM (some (d, M)) = .ok d M := rfl
theorem liftM_none : Ip.liftM none = .bad := rfl
theorem noex_ok (a : α) : noex (.ok a M) = .ok a M := rfl
theorem noex_bad : noex (.bad : Out α) = .bad := rfl
def varO (o : Option (Option D)) (M : Sto) : Out D := match o with
  | some (some d) => .ok d M
  | _ => .bad
theorem ev_var (i : Nat) : dVar i env M = varO env[i]? M := rfl
theorem ev_varO (d : D) : varO (some (some d)) M = .ok d M := rfl
theorem celL_l (l : List D) : celL (some (.lst l)) = some l := rfl
theorem asL_ref (n : Nat) : asL (.ref n) M = celL M[n]? := rfl
theorem asL_lst (l : List D) : asL (.lst l) M = some l := rfl
theorem ev_c (d : D) : dC d env M = .ok d M := rfl
def kBin2 (g : G2) (x : D) : D → Sto → Out D := fun y M2 => Ip.liftM (g x y M2)
def kBin (g : G2) (fb : DE) (env : En) : D → Sto → Out D := fun x M1 => (fb env M1).bind (kBin2 g x)
theorem ev_bin (g : G2) (fa fb : DE) : dBin g fa fb env M = (fa env M).bind (kBin g fb env) := rfl
theorem ev_kBin (g : G2) (fb : DE) (x : D) : kBin g fb env x M = (fb env M).bind (kBin2 g x) := rfl
theorem ev_kBin2 (g : G2) (x y : D) : kBin2 g x y M = Ip.liftM (g x y M) := rfl
def kUn (g : D → Sto → Option (D × Sto)) : D → Sto → Out D := fun x M1 => Ip.liftM (g x M1)
theorem ev_un (g : D → Sto → Option (D × Sto)) (fa : DE) : dUn g fa env M = (fa env M).bind (kUn g) := rfl
theorem ev_kUn (g : D → Sto → Option (D × Sto)) (x : D) : kUn g x M = Ip.liftM (g x M) := rfl
theorem ev_nilA : dNilA env M = .ok [] M := rfl
def kCons2 (x : D) : List D → Sto → Out (List D) := fun xs M2 => .ok (x :: xs) M2
def kCons (fr : DA) (env : En) : D → Sto → Out (List D) := fun x M1 => (fr env M1).bind (kCons2 x)
theorem ev_consA (fa : DE) (fr : DA) : dConsA fa fr env M = (fa env M).bind (kCons fr env) := rfl
theorem ev_kCons (fr : DA) (x : D) : kCons fr env x M = (fr env M).bind (kCons2 x) := rfl
theorem ev_kCons2 (x : D) (xs : List D) : kCons2 x xs M = .ok (x :: xs) M := rfl
def kTup : List D → Sto → Out D := fun xs M1 => if xs.length ≤ 16777216 then .ok (.tup xs) M1 else .bad
def kLst : List D → Sto → Out D := fun xs M1 => if xs.length ≤ 16777216 then .ok (.lst xs) M1 else .bad
def kLstC : List D → Sto → Out D := fun xs M1 => if xs.length ≤ 16777216 then .ok (.ref M1.length) (M1 ++ [.lst xs]) else .bad
theorem ev_tup (fa : DA) : dTup fa env M = (fa env M).bind kTup := rfl
theorem ev_lst (fa : DA) : dLst fa env M = (fa env M).bind kLst := rfl
theorem ev_lstC (fa : DA) : dLstC fa env M = (fa env M).bind kLstC := rfl
theorem ev_kTup (xs : List D) (h : xs.length ≤ 16777216) : kTup xs M = .ok (.tup xs) M := if_pos h
theorem ev_kLst (xs : List D) (h : xs.length ≤ 16777216) : kLst xs M = .ok (.lst xs) M := if_pos h
theorem ev_kLstC (xs : List D) (h : xs.length ≤ 16777216) : kLstC xs M = .ok (.ref M.length) (M ++ [.lst xs]) := if_pos h
def kCallB (g : List D → Sto → Option (D × Sto)) : List D → Sto → Out D := fun xs M1 => Ip.liftM (g xs M1)
theorem ev_callB (g : List D → Sto → Option (D × Sto)) (fa : DA) : dCallB g fa env M = (fa env M).bind (kCallB g) := rfl
theorem ev_kCallB (g : List D → Sto → Option (D × Sto)) (xs : List D) : kCallB g xs M = Ip.liftM (g xs M) := rfl
def kCall (F : DF) : List D → Sto → Out D := fun xs M1 => noex (F xs M1)
theorem ev_call (F : DF) (fa : DA) : dCall F fa env M = (fa env M).bind (kCall F) := rfl
theorem ev_kCall (F : DF) (xs : List D) : kCall F xs M = noex (F xs M) := rfl
def kIfE (fa fb : DE) (env : En) : Bool → Sto → Out D := fun c M1 => if c then fa env M1 else fb env M1
theorem ev_ifE (ft : DT) (fa fb : DE) : dIfE ft fa fb env M = (ft env M).bind (kIfE fa fb env) := rfl
theorem ev_kIfE_t (fa fb : DE) : kIfE fa fb env true M = fa env M := rfl
theorem ev_kIfE_f (fa fb : DE) : kIfE fa fb env false M = fb env M := rfl
def kAndV (fb : DE) (env : En) : D → Sto → Out D := fun x M1 => match x with
  | .bl true => fb env M1
  | .bl false => .ok (.bl false) M1
  | _ => .bad
def kOrV (fb : DE) (env : En) : D → Sto → Out D := fun x M1 => match x with
  | .bl true => .ok (.bl true) M1
  | .bl false => fb env M1
  | _ => .bad
def kNotV : D → Sto → Out D := fun x M1 => match x with
  | .bl b => .ok (.bl (!b)) M1
  | _ => .bad
theorem ev_andV (fa fb : DE) : dAndV fa fb env M = (fa env M).bind (kAndV fb env) := rfl
theorem ev_orV (fa fb : DE) : dOrV fa fb env M = (fa env M).bind (kOrV fb env) := rfl
theorem ev_notV (fa : DE) : dNotV fa env M = (fa env M).bind kNotV := rfl
theorem ev_kAndV_t (fb : DE) : kAndV fb env (.bl true) M = fb env M := rfl
theorem ev_kAndV_f (fb : DE) : kAndV fb env (.bl false) M = .ok (.bl false) M := rfl
theorem ev_kOrV_t (fb : DE) : kOrV fb env (.bl true) M = .ok (.bl true) M := rfl
theorem ev_kOrV_f (fb : DE) : kOrV fb env (.bl false) M = fb env M := rfl
theorem ev_kNotV (b : Bool) : kNotV (.bl b) M = .ok (.bl (!b)) M := rfl
def kAnd (fb : DT) (env : En) : Bool → Sto → Out Bool := fun c M1 => if c then fb env M1 else .ok false M1
def kOr (fb : DT) (env : En) : Bool → Sto → Out Bool := fun c M1 => if c then .ok true M1 else fb env M1
def kNot : Bool → Sto → Out Bool := fun c M1 => .ok (!c) M1
theorem ev_and (fa fb : DT) : dAnd fa fb env M = (fa env M).bind (kAnd fb env) := rfl
theorem ev_or (fa fb : DT) : dOr fa fb env M = (fa env M).bind (kOr fb env) := rfl
theorem ev_not (fa : DT) : dNot fa env M = (fa env M).bind kNot := rfl
theorem ev_kAnd_t (fb : DT) : kAnd fb env true M = fb env M := rfl
theorem ev_kAnd_f (fb : DT) : kAnd fb env false M = .ok false M := rfl
theorem ev_kOr_t (fb : DT) : kOr fb env true M = .ok true M := rfl
theorem ev_kOr_f (fb : DT) : kOr fb env false M = fb env M := rfl
theorem ev_kNot (b : Bool) : kNot b M = .ok (!b) M := rfl
def kTru : D → Sto → Out Bool := fun x M1 => match truD x M1 with
  | some b => .ok b M1
  | none => .bad
def kB : D → Sto → Out Bool := fun x M1 => match x with
  | .bl b => .ok b M1
  | _ => .bad
theorem ev_tru (fa : DE) : dTru fa env M = (fa env M).bind kTru := rfl
theorem ev_b (fa : DE) : dB fa env M = (fa env M).bind kB := rfl
theorem ev_kTru_bl (b : Bool) : kTru (.bl b) M = .ok b M := rfl
theorem ev_kTru_lst (l : List D) : kTru (.lst l) M = .ok (!l.isEmpty) M := rfl
theorem ev_kTru_tup (l : List D) : kTru (.tup l) M = .ok (!l.isEmpty) M := rfl
def truO (o : Option (List D)) (M : Sto) : Out Bool := match o with
  | some l => .ok (!l.isEmpty) M
  | none => .bad
theorem ev_kTru_ref (n : Nat) : kTru (.ref n) M = truO (celL M[n]?) M := by
  unfold kTru truD truO celL
  simp only
  cases h : M[n]? with
  | none => rfl
  | some c => cases c <;> rfl
theorem ev_truO (l : List D) : truO (some l) M = .ok (!l.isEmpty) M := rfl
theorem ev_kB (b : Bool) : kB (.bl b) M = .ok b M := rfl
theorem ev_yes : dYes env M = .ok true M := rfl
def kCh3 (g' : G2) (y : D) : D → Sto → Out D := fun w M4 => Ip.liftM (g' y w M4)
def kCh2 (g' : G2) (fc : DE) (env : En) (y : D) : D → Sto → Out D := fun z M3 => match z with
  | .bl true => (fc env M3).bind (kCh3 g' y)
  | .bl false => .ok (.bl false) M3
  | _ => .bad
def kCh1 (g g' : G2) (fc : DE) (env : En) (x : D) : D → Sto → Out D := fun y M2 => (Ip.liftM (g x y M2)).bind (kCh2 g' fc env y)
def kCh0 (g g' : G2) (fb fc : DE) (env : En) : D → Sto → Out D := fun x M1 => (fb env M1).bind (kCh1 g g' fc env x)
theorem ev_chain (g g' : G2) (fa fb fc : DE) : dChain g g' fa fb fc env M = (fa env M).bind (kCh0 g g' fb fc env) := rfl
theorem ev_kCh0 (g g' : G2) (fb fc : DE) (x : D) : kCh0 g g' fb fc env x M = (fb env M).bind (kCh1 g g' fc env x) := rfl
theorem ev_kCh1 (g g' : G2) (fc : DE) (x y : D) : kCh1 g g' fc env x y M = (Ip.liftM (g x y M)).bind (kCh2 g' fc env y) := rfl
theorem ev_kCh2_t (g' : G2) (fc : DE) (y : D) : kCh2 g' fc env y (.bl true) M = (fc env M).bind (kCh3 g' y) := rfl
theorem ev_kCh2_f (g' : G2) (fc : DE) (y : D) : kCh2 g' fc env y (.bl false) M = .ok (.bl false) M := rfl
theorem ev_kCh3 (g' : G2) (y w : D) : kCh3 g' y w M = Ip.liftM (g' y w M) := rfl
def kSl3 (x : D) (lo : Option Int) : Option Int → Sto → Out D := fun hi M3 => Ip.liftM (gSl x lo hi M3)
def kSl2 (fh : DO) (env : En) (x : D) : Option Int → Sto → Out D := fun lo M2 => (fh env M2).bind (kSl3 x lo)
def kSl1 (fl fh : DO) (env : En) : D → Sto → Out D := fun x M1 => (fl env M1).bind (kSl2 fh env x)
theorem ev_sl (fe : DE) (fl fh : DO) : dSl fe fl fh env M = (fe env M).bind (kSl1 fl fh env) := rfl
theorem ev_kSl1 (fl fh : DO) (x : D) : kSl1 fl fh env x M = (fl env M).bind (kSl2 fh env x) := rfl
theorem ev_kSl2 (fh : DO) (x : D) (lo : Option Int) : kSl2 fh env x lo M = (fh env M).bind (kSl3 x lo) := rfl
theorem ev_kSl3 (x : D) (lo hi : Option Int) : kSl3 x lo hi M = Ip.liftM (gSl x lo hi M) := rfl
def kPart : D → Sto → Out (Option Int) := fun x M1 => match x with
  | .int i => .ok (some i) M1
  | _ => .bad
theorem ev_part (fe : DE) : dPart fe env M = (fe env M).bind kPart := rfl
theorem ev_kPart (i : Int) : kPart (.int i) M = .ok (some i) M := rfl
theorem ev_noPart : dNoPart env M = .ok none M := rfl
def kSeq (g : DS) : Fl → Sto → Out Fl := fun fl M1 => match fl with
  | .nx env1 => g env1 M1
  | o => .ok o M1
theorem ev_seq (f g : DS) : dSeq f g env M = (f env M).bind (kSeq g) := rfl
theorem ev_kSeq_nx (g : DS) : kSeq g (.nx env) M = g env M := rfl
theorem ev_kSeq_rt (g : DS) (d : D) : kSeq g (.rt d) M = .ok (.rt d) M := rfl
theorem ev_kSeq_bk (g : DS) : kSeq g (.bk env) M = .ok (.bk env) M := rfl
theorem ev_kSeq_ct (g : DS) : kSeq g (.ct env) M = .ok (.ct env) M := rfl
theorem ev_skip : dSkip env M = .ok (.nx env) M := rfl
def kSet (i : Nat) (env : En) : D → Sto → Out Fl := fun d M1 => .ok (.nx (env.set i (some d))) M1
theorem ev_set (i : Nat) (fe : DE) : dSet i fe env M = (fe env M).bind (kSet i env) := rfl
theorem ev_kSet (i : Nat) (d : D) : kSet i env d M = .ok (.nx (env.set i (some d))) M := rfl
def kDrop (env : En) : D → Sto → Out Fl := fun _ M1 => .ok (.nx env) M1
theorem ev_drop (fe : DE) : dDrop fe env M = (fe env M).bind (kDrop env) := rfl
theorem ev_kDrop (d : D) : kDrop env d M = .ok (.nx env) M := rfl
def kRet : D → Sto → Out Fl := fun d M1 => .ok (.rt d) M1
theorem ev_ret (fe : DE) : dRet fe env M = (fe env M).bind kRet := rfl
theorem ev_kRet (d : D) : kRet d M = .ok (.rt d) M := rfl
theorem ev_retN : dRetN env M = .ok (.rt .non) M := rfl
def kIf (fa fb : DS) (env : En) : Bool → Sto → Out Fl := fun c M1 => if c then fa env M1 else fb env M1
theorem ev_if (ft : DT) (fa fb : DS) : dIf ft fa fb env M = (ft env M).bind (kIf fa fb env) := rfl
theorem ev_kIf_t (fa fb : DS) : kIf fa fb env true M = fa env M := rfl
theorem ev_kIf_f (fa fb : DS) : kIf fa fb env false M = fb env M := rfl
theorem ev_bad : dBad env M = .bad := rfl
def kAsg (t : DG) (env : En) : D → Sto → Out Fl := fun d M1 => match t d env with
  | some env' => .ok (.nx env') M1
  | none => .bad
theorem ev_asg (t : DG) (fe : DE) : dAsg t fe env M = (fe env M).bind (kAsg t env) := rfl
def asgO (o : Option En) (M : Sto) : Out Fl := match o with
  | some env' => .ok (.nx env') M
  | none => .bad
theorem ev_kAsg (t : DG) (d : D) : kAsg t env d M = asgO (t d env) M := by
  unfold kAsg asgO
  cases t d env <;> rfl
theorem ev_asgO (env' : En) : asgO (some env') M = .ok (.nx env') M := rfl
def kPar (i j : Nat) (env : En) : List D → Sto → Out Fl := fun ds M1 => match ds with
  | [x, y] => .ok (.nx ((env.set i (some x)).set j (some y))) M1
  | _ => .bad
theorem ev_par (i j : Nat) (fa : DA) : dPar i j fa env M = (fa env M).bind (kPar i j env) := rfl
theorem ev_kPar (i j : Nat) (x y : D) : kPar i j env [x, y] M = .ok (.nx ((env.set i (some x)).set j (some y))) M := rfl
def kFor (t : DG) (fb : DS) (env : En) : List D → Sto → Out Fl := fun items M1 => forGo t fb items env M1
theorem ev_for (t : DG) (fi : DA) (fb : DS) : dFor t fi fb env M = (fi env M).bind (kFor t fb env) := rfl
theorem ev_kFor (t : DG) (fb : DS) (l : List D) : kFor t fb env l M = forGo t fb l env M := rfl
def kGo (t : DG) (fb : DS) (ds : List D) : Fl → Sto → Out Fl := fun fl M1 => match fl with
  | .nx e => forGo t fb ds e M1
  | .ct e => forGo t fb ds e M1
  | .bk e => .ok (.nx e) M1
  | .rt d => .ok (.rt d) M1
theorem ev_go_nil (t : DG) (fb : DS) : forGo t fb [] env M = .ok (.nx env) M := rfl
def goO (t : DG) (fb : DS) (ds : List D) (o : Option En) (M : Sto) : Out Fl := match o with
  | some env1 => (fb env1 M).bind (kGo t fb ds)
  | none => .bad
theorem ev_go_cons (t : DG) (fb : DS) (d : D) (ds : List D) : forGo t fb (d :: ds) env M = goO t fb ds (t d env) M := by
  unfold forGo goO; cases t d env <;> rfl
theorem ev_goO (t : DG) (fb : DS) (ds : List D) (env1 : En) : goO t fb ds (some env1) M = (fb env1 M).bind (kGo t fb ds) := rfl
theorem ev_kGo_nx (t : DG) (fb : DS) (ds : List D) : kGo t fb ds (.nx env) M = forGo t fb ds env M := rfl
theorem ev_kGo_ct (t : DG) (fb : DS) (ds : List D) : kGo t fb ds (.ct env) M = forGo t fb ds env M := rfl
theorem ev_kGo_rt (t : DG) (fb : DS) (ds : List D) (d : D) : kGo t fb ds (.rt d) M = .ok (.rt d) M := rfl
def kIter : D → Sto → Out (List D) := fun x M1 => match iterD x with
  | some l => .ok l M1
  | none => .bad
theorem ev_iter (fe : DE) : dIter fe env M = (fe env M).bind kIter := rfl
theorem ev_kIter_l (l : List D) : kIter (.lst l) M = .ok l M := rfl
theorem ev_kIter_t (l : List D) : kIter (.tup l) M = .ok l M := rfl
theorem ev_kIter_s (ns : List Int) : kIter (.scr ns) M = .ok (ns.map D.int) M := rfl
def kRng1 : List D → Sto → Out (List D) := fun ds M1 => match ds with
  | [.int j] => if in62 j then .ok (rngD 0 j.toNat) M1 else .bad
  | _ => .bad
def kRng2 : List D → Sto → Out (List D) := fun ds M1 => match ds with
  | [.int i, .int j] => if in62 i && in62 j then .ok (rngD i (j - i).toNat) M1 else .bad
  | _ => .bad
theorem ev_rng1 (fa : DA) : dRng1 fa env M = (fa env M).bind kRng1 := rfl
theorem ev_rng2 (fa : DA) : dRng2 fa env M = (fa env M).bind kRng2 := rfl
theorem ev_kRng1 (j : Int) (h : in62 j = true) : kRng1 [.int j] M = .ok (rngD 0 j.toNat) M := by unfold kRng1; simp only [h, if_true]
def kEnum : List D → Sto → Out (List D) := fun ds M1 => match ds with
  | [.lst l] => .ok (enumD 0 l) M1
  | [.tup l] => .ok (enumD 0 l) M1
  | _ => .bad
theorem ev_enum (fa : DA) : dEnumA fa env M = (fa env M).bind kEnum := rfl
theorem ev_kEnum_l (l : List D) : kEnum [.lst l] M = .ok (enumD 0 l) M := rfl
theorem ev_kEnum_t (l : List D) : kEnum [.tup l] M = .ok (enumD 0 l) M := rfl
def kFld (c f : Str) : D → Sto → Out D := fun x M1 => match objOf c x M1 with
  | some (ks, ds) => match (ks.zip ds).lookup f with
    | some d => .ok d M1
    | none => .bad
  | none => .bad
theorem ev_fld (c f : Str) (fe : DE) : dFld c f fe env M = (fe env M).bind (kFld c f) := rfl
def fldO (o : Option D) (M : Sto) : Out D := match o with
  | some d => .ok d M
  | none => .bad
theorem ev_kFld (c f : Str) (ks : List Str) (ds : List D) : kFld c f (.obj c ks ds) M = fldO ((ks.zip ds).lookup f) M := by
  unfold kFld objOf fldO
  simp only [if_true]
theorem ev_fldO (d : D) : fldO (some d) M = .ok d M := rfl
def kRun : Fl → Sto → Out D := fun fl M1 => match fl with
  | .nx _ => .ok .non M1
  | .rt d => .ok d M1
  | _ => .bad
theorem ev_runF (n m : Nat) (fb : DS) (ds : List D) (h : ds.length = m) : runF n m fb ds M = (fb (ds.map some ++ List.replicate (n - m) none) M).bind kRun := if_pos h
theorem ev_kRun_rt (d : D) : kRun (.rt d) M = .ok d M := rfl
theorem ev_kRun_nx : kRun (.nx env) M = .ok .non M := rfl
def kLm2 (g : GM) (x : D) : List D → Sto → Out D := fun as M2 => Ip.liftM (g x as M2)
def kLm (g : GM) (fa : DA) (env : En) : D → Sto → Out D := fun x M1 => match asL x M1 with
  | some _ => (fa env M1).bind (kLm2 g x)
  | none => .bad
theorem ev_lm (g : GM) (fo : DE) (fa : DA) : dLm g fo fa env M = (fo env M).bind (kLm g fa env) := rfl
def lmO (g : GM) (fa : DA) (env : En) (n : Nat) (o : Option (List D)) (M : Sto) : Out D := match o with
  | some _ => (fa env M).bind (kLm2 g (.ref n))
  | none => .bad
theorem ev_kLm (g : GM) (fa : DA) (n : Nat) : kLm g fa env (.ref n) M = lmO g fa env n (celL M[n]?) M := by
  unfold kLm lmO; rw [asL_ref]
theorem ev_lmO (g : GM) (fa : DA) (n : Nat) (l : List D) : lmO g fa env n (some l) M = (fa env M).bind (kLm2 g (.ref n)) := rfl
theorem ev_kLm2 (g : GM) (x : D) (as : List D) : kLm2 g x as M = Ip.liftM (g x as M) := rfl
theorem setL_ref (n : Nat) (k : List D → Option (List D)) : setL (.ref n) M k = (celL M[n]?).bind fun l => (k l).map fun l' => M.set n (.lst l') := by
  unfold setL celL
  simp only
  cases h : M[n]? with
  | none => rfl
  | some c => cases c <;> rfl
def appL (y : D) (l : List D) : Option (List D) := if l.length < 16777216 then some (l ++ [y]) else none
theorem g_app (n : Nat) (y : D) : gApp (.ref n) [y] M = ((celL M[n]?).bind fun l => (appL y l).map fun l' => M.set n (.lst l')).map (D.non, ·) := by
  show Option.map _ (setL (.ref n) M (appL y)) = _
  rw [setL_ref]
theorem g_clear (n : Nat) : gClear (.ref n) [] M = ((celL M[n]?).map fun _ => M.set n (.lst [])).map (D.non, ·) := by
  unfold gClear
  simp only
  rw [setL_ref]
  cases celL M[n]? <;> rfl
def kSetIx3 (x y : D) (env : En) : D → Sto → Out Fl := fun i M3 => match i with
  | .int k => match setL x M3 fun l => (ixN l.length k).map fun j => l.set j y with
    | some M4 => .ok (.nx env) M4
    | none => .bad
  | _ => .bad
def kSetIx2 (fi : DE) (env : En) (y : D) : D → Sto → Out Fl := fun x M2 => (fi env M2).bind (kSetIx3 x y env)
def kSetIx1 (fo fi : DE) (env : En) : D → Sto → Out Fl := fun y M1 => (fo env M1).bind (kSetIx2 fi env y)
theorem ev_setIx (fo fi fe : DE) : dSetIx fo fi fe env M = (fe env M).bind (kSetIx1 fo fi env) := rfl
theorem ev_kSetIx1 (fo fi : DE) (y : D) : kSetIx1 fo fi env y M = (fo env M).bind (kSetIx2 fi env y) := rfl
theorem ev_kSetIx2 (fi : DE) (y x : D) : kSetIx2 fi env y x M = (fi env M).bind (kSetIx3 x y env) := rfl
def setO (env : En) (o : Option Sto) : Out Fl := match o with
  | some M4 => .ok (.nx env) M4
  | none => .bad
def putL (k : Int) (y : D) (l : List D) : Option (List D) := (ixN l.length k).map fun j => l.set j y
theorem ev_kSetIx3 (n : Nat) (y : D) (k : Int) : kSetIx3 (.ref n) y env (.int k) M = setO env ((celL M[n]?).bind fun l => (putL k y l).map fun l' => M.set n (.lst l')) := by
  show (match setL (.ref n) M (putL k y) with
    | some M4 => Out.ok (Fl.nx env) M4
    | none => .bad) = _
  rw [setL_ref]
  unfold setO
  first | rfl | skip
theorem ev_setO : setO env (some M) = .ok (.nx env) M := rfl
theorem g_ixT (l : List D) (i : Int) : gIx (.tup l) (.int i) M = (atI l i).map (·, M) := rfl
theorem g_ixL (l : List D) (i : Int) : gIx (.lst l) (.int i) M = (atI l i).map (·, M) := rfl
theorem g_ixR (n : Nat) (i : Int) : gIx (.ref n) (.int i) M = (celL M[n]?).bind fun l => (atI l i).map (·, M) := by
  unfold gIx
  simp only [asL_ref]
  cases celL M[n]? <;> rfl
theorem g_add_i (i j : Int) : gAdd (.int i) (.int j) M = some (.int (i + j), M) := rfl
theorem g_add_l (a b : List D) (h : a.length + b.length ≤ 16777216) : gAdd (.lst a) (.lst b) M = some (.lst (a ++ b), M) := by
  simp [gAdd, orG, gStr, gCat, asL, h]
theorem g_sub (i j : Int) : Ip.gSub (.int i) (.int j) M = some (.int (i - j), M) := rfl
theorem g_lt (i j : Int) : gLt (.int i) (.int j) M = some (.bl (decide (i < j)), M) := rfl
theorem g_le (i j : Int) : gLe (.int i) (.int j) M = some (.bl (decide (i ≤ j)), M) := rfl
theorem g_gt (i j : Int) : gGt (.int i) (.int j) M = some (.bl (decide (j < i)), M) := rfl
theorem g_ge (i j : Int) : gGe (.int i) (.int j) M = some (.bl (decide (j ≤ i)), M) := rfl
theorem g_mod (i j : Int) (h : 0 < j) : gMod (.int i) (.int j) M = some (.int (i % j), M) := by simp [gMod, gIntC, h]
theorem g_mul (i j : Int) (h : in64 i = true ∨ in64 j = true) : gMul (.int i) (.int j) M = some (.int (i * j), M) := by
  have : (in64 i || in64 j) = true := by rw [Bool.or_eq_true]; exact h
  simp [gMul, orG, gIntC, this]
theorem g_is_n : gIs false .non .non M = some (.bl true, M) := rfl
theorem g_isnot_n : gIs true .non .non M = some (.bl false, M) := rfl
theorem g_is_i (i : Int) : gIs false (.int i) .non M = some (.bl false, M) := rfl
theorem g_isnot_i (i : Int) : gIs true (.int i) .non M = some (.bl true, M) := rfl
theorem g_is_t (l : List D) : gIs false (.tup l) .non M = some (.bl false, M) := rfl
theorem g_isnot_t (l : List D) : gIs true (.tup l) .non M = some (.bl true, M) := rfl
theorem g_eq (x y : D) : gEq false x y M = (eqD x y M).map fun b => (.bl b, M) := rfl
theorem g_ne (x y : D) : gEq true x y M = (eqD x y M).map fun b => (.bl (!b), M) := rfl
theorem eq_int (i j : Int) : eqD (.int i) (.int j) M = some (decide (i = j)) := by simp [eqD, toV, scal]
theorem eq_str (s t : Str) : eqD (.str s) (.str t) M = some (decide (s = t)) := by simp [eqD, toV, scal]
theorem eq_bl (s t : Bool) : eqD (.bl s) (.bl t) M = some (decide (s = t)) := by simp [eqD, toV, scal]
theorem eq_nn : eqD .non .non M = some true := by simp [eqD, toV, scal]
theorem eq_ni (i : Int) : eqD .non (.int i) M = some false := by simp [eqD, toV, scal]
theorem eq_in (i : Int) : eqD (.int i) .non M = some false := by simp [eqD, toV, scal]
theorem eq_t2 (a b c d : Int) : eqD (.tup [.int a, .int b]) (.tup [.int c, .int d]) M = some (decide (a = c ∧ b = d)) := by
  simp [eqD, toV, pyM, toPy, toPys, SeqAt.shaped, PyData.canLay0, PyData.canLayAll0, PyData.depth, PyData.depthAll, PyData.eqv, PyData.eqvAll, Bool.and_true]
  by_cases h1 : a = c <;> by_cases h2 : b = d <;> simp [h1, h2]
theorem g_lenT (l : List D) : gLen [.tup l] M = some (.int (l.length : Nat), M) := rfl
theorem g_lenL (l : List D) : gLen [.lst l] M = some (.int (l.length : Nat), M) := rfl
theorem g_lenR (n : Nat) : gLen [.ref n] M = (celL M[n]?).map fun l => (.int (l.length : Nat), M) := by
  unfold gLen
  simp only [asL_ref]
  cases celL M[n]? <;> rfl
theorem g_slT (l : List D) (lo hi : Option Int) : gSl (.tup l) lo hi M = some (.tup (Ip.cutD l lo hi), M) := rfl
theorem g_slL (l : List D) (lo hi : Option Int) : gSl (.lst l) lo hi M = some (.lst (Ip.cutD l lo hi), M) := rfl
theorem g_slS (ns : List Int) (lo hi : Option Int) : gSl (.scr ns) lo hi M = some (.lst (Ip.cutD (ns.map D.int) lo hi), M) := rfl
theorem at0 (a : α) (l : List α) : atI (a :: l) 0 = some a := atI_nat (j := 0) rfl
theorem at1 (a b : α) (l : List α) : atI (a :: b :: l) 1 = some b := atI_nat (j := 1) rfl
theorem at2 (a b c : α) (l : List α) : atI (a :: b :: c :: l) 2 = some c := atI_nat (j := 2) rfl
theorem at3 (a b c d : α) (l : List α) : atI (a :: b :: c :: d :: l) 3 = some d := atI_nat (j := 3) rfl
theorem at4 (a b c d e : α) (l : List α) : atI (a :: b :: c :: d :: e :: l) 4 = some e := atI_nat (j := 4) rfl
theorem atm1 (l : List α) (a : α) : atI (l ++ [a]) (-1) = some a := atI_last l a
def kLcEnd : List D → Sto → Out D := fun l M2 => .ok (.lst l) M2
def kLc (vs : List Nat) (t : DG) (ft : DT) (fe : DE) (env : En) : List D → Sto → Out D := fun items M1 => (lcGo t ft fe items [] (wipeE env vs) M1).bind kLcEnd
theorem ev_lc (vs : List Nat) (t : DG) (fi : DA) (ft : DT) (fe : DE) : dLc vs t fi ft fe env M = (fi env M).bind (kLc vs t ft fe env) := rfl
theorem ev_kLc (vs : List Nat) (t : DG) (ft : DT) (fe : DE) (l : List D) : kLc vs t ft fe env l M = (lcGo t ft fe l [] (wipeE env vs) M).bind kLcEnd := rfl
theorem ev_kLcEnd (l : List D) : kLcEnd l M = .ok (.lst l) M := rfl
def kLcE (t : DG) (ft : DT) (fe : DE) (ds acc : List D) (env : En) : D → Sto → Out (List D) := fun y M2 => if acc.length < 16777216 then lcGo t ft fe ds (acc ++ [y]) env M2 else .bad
def kLcT (t : DG) (ft : DT) (fe : DE) (ds acc : List D) (env env1 : En) : Bool → Sto → Out (List D) := fun b M1 => if b then (noex (fe env1 M1)).bind (kLcE t ft fe ds acc env) else lcGo t ft fe ds acc env M1
def lcO (t : DG) (ft : DT) (fe : DE) (ds acc : List D) (env : En) (o : Option En) (M : Sto) : Out (List D) := match o with
  | some env1 => (noex (ft env1 M)).bind (kLcT t ft fe ds acc env env1)
  | none => .bad
theorem ev_lc_nil (t : DG) (ft : DT) (fe : DE) (acc : List D) : lcGo t ft fe [] acc env M = .ok acc M := rfl
theorem ev_lc_cons (t : DG) (ft : DT) (fe : DE) (d : D) (ds acc : List D) : lcGo t ft fe (d :: ds) acc env M = lcO t ft fe ds acc env (t d env) M := by
  unfold lcGo lcO; cases t d env <;> rfl
theorem ev_lcO (t : DG) (ft : DT) (fe : DE) (ds acc : List D) (env1 : En) : lcO t ft fe ds acc env (some env1) M = (noex (ft env1 M)).bind (kLcT t ft fe ds acc env env1) := rfl
theorem ev_kLcT_t (t : DG) (ft : DT) (fe : DE) (ds acc : List D) (env1 : En) : kLcT t ft fe ds acc env env1 true M = (noex (fe env1 M)).bind (kLcE t ft fe ds acc env) := rfl
theorem ev_kLcT_f (t : DG) (ft : DT) (fe : DE) (ds acc : List D) (env1 : En) : kLcT t ft fe ds acc env env1 false M = lcGo t ft fe ds acc env M := rfl
theorem ev_kLcE (t : DG) (ft : DT) (fe : DE) (ds acc : List D) (y : D) (h : acc.length < 16777216) : kLcE t ft fe ds acc env y M = lcGo t ft fe ds (acc ++ [y]) env M := if_pos h
/-- a comprehension whose element changes nothing -/
theorem lc_map (t : DG) (fe : DE) (f : D → D) : ∀ (ds acc : List D), (∀ d ∈ ds, ∃ env1, t d env = some env1 ∧ fe env1 M = .ok (f d) M) → acc.length + ds.length ≤ 16777216 → lcGo t dYes fe ds acc env M = .ok (acc ++ ds.map f) M
  | [], acc, _, _ => by rw [ev_lc_nil, List.map_nil, List.append_nil]
  | d :: ds, acc, h, hl => by
    obtain ⟨env1, h1, h2⟩ := h d List.mem_cons_self
    have l1 : acc.length < 16777216 := by simp at hl; omega
    rw [ev_lc_cons, h1, ev_lcO, ev_yes, noex_ok, bind_ok, ev_kLcT_t, h2, noex_ok, bind_ok, ev_kLcE (h := l1), lc_map t fe f ds (acc ++ [f d]) (fun x hx => h x (List.mem_cons_of_mem _ hx)) (by simp at hl ⊢; omega)]
    simp
theorem g_isi_n (T : String) : gIsi T .non M = (isA "NoneType" T).map fun b => (.bl b, M) := rfl
theorem g_isi_b (T : String) (b : Bool) : gIsi T (.bl b) M = (isA "bool" T).map fun b => (.bl b, M) := rfl
theorem g_isi_i (T : String) (i : Int) : gIsi T (.int i) M = (isA "int" T).map fun b => (.bl b, M) := rfl
theorem g_isi_s (T : String) (s : Str) : gIsi T (.str s) M = (isA "str" T).map fun b => (.bl b, M) := rfl
theorem g_isi_t (T : String) (l : List D) : gIsi T (.tup l) M = (isA "tuple" T).map fun b => (.bl b, M) := rfl
theorem g_isi_l (T : String) (l : List D) : gIsi T (.lst l) M = (isA "list" T).map fun b => (.bl b, M) := rfl
theorem isA_ii : isA "int" "int" = some true := by decide +kernel
theorem isA_ib : isA "int" "bool" = some false := by decide +kernel
theorem isA_it : isA "int" "tuple" = some false := by decide +kernel
theorem isA_il : isA "int" "list" = some false := by decide +kernel
theorem isA_bi : isA "bool" "int" = some true := by decide +kernel
theorem isA_bb : isA "bool" "bool" = some true := by decide +kernel
theorem isA_bt : isA "bool" "tuple" = some false := by decide +kernel
theorem isA_bll : isA "bool" "list" = some false := by decide +kernel
theorem isA_ni : isA "NoneType" "int" = some false := by decide +kernel
theorem isA_nb : isA "NoneType" "bool" = some false := by decide +kernel
theorem isA_nt : isA "NoneType" "tuple" = some false := by decide +kernel
theorem isA_nl : isA "NoneType" "list" = some false := by decide +kernel
theorem isA_si : isA "str" "int" = some false := by decide +kernel
theorem isA_sb : isA "str" "bool" = some false := by decide +kernel
theorem isA_st : isA "str" "tuple" = some false := by decide +kernel
theorem isA_sl : isA "str" "list" = some false := by decide +kernel
theorem isA_tt : isA "tuple" "tuple" = some true := by decide +kernel
theorem isA_tl : isA "tuple" "list" = some false := by decide +kernel
theorem isA_ti : isA "tuple" "int" = some false := by decide +kernel
theorem isA_tb : isA "tuple" "bool" = some false := by decide +kernel
theorem isA_lt : isA "list" "tuple" = some false := by decide +kernel
theorem isA_ll : isA "list" "list" = some true := by decide +kernel
theorem isA_li : isA "list" "int" = some false := by decide +kernel
theorem isA_lb : isA "list" "bool" = some false := by decide +kernel
theorem g_neg (i : Int) : gNeg (.int i) M = some (.int (-i), M) := rfl
theorem g_all (l : List D) : gAll [.lst l] M = (bls l).map fun bs => (.bl (bs.all id), M) := rfl
theorem bls_nil : bls [] = some [] := rfl
theorem bls_cons (b : Bool) (l : List D) : bls (.bl b :: l) = (bls l).map (b :: ·) := rfl
def kSetFld2 (c f : Str) (y : D) (env : En) : D → Sto → Out Fl := fun x M2 => match x with
  | .ref n => match M2[n]? with
    | some (.ins c' ks ds) => if c' = c ∧ ks.length < 1000 then .ok (.nx env) (M2.set n (.ins c' (putKs f ks) (putVs f y ks ds))) else .bad
    | _ => .bad
  | _ => .bad
def kSetFld1 (c f : Str) (fo : DE) (env : En) : D → Sto → Out Fl := fun y M1 => (fo env M1).bind (kSetFld2 c f y env)
theorem ev_setFld (c f : Str) (fo fe : DE) : dSetFld c f fo fe env M = (fe env M).bind (kSetFld1 c f fo env) := rfl
theorem ev_kSetFld1 (c f : Str) (fo : DE) (y : D) : kSetFld1 c f fo env y M = (fo env M).bind (kSetFld2 c f y env) := rfl
theorem ev_kSetFld2 (c f : Str) (y : D) (n : Nat) (ks : List Str) (ds : List D) (h : M[n]? = some (.ins c ks ds)) (hk : ks.length < 1000) : kSetFld2 c f y env (.ref n) M = .ok (.nx env) (M.set n (.ins c (putKs f ks) (putVs f y ks ds))) := by
  show (match M[n]? with
    | some (.ins c' ks ds) => if c' = c ∧ ks.length < 1000 then Out.ok (Fl.nx env) (M.set n (.ins c' (putKs f ks) (putVs f y ks ds))) else .bad
    | _ => .bad) = _
  rw [h]
  exact if_pos ⟨rfl, hk⟩
def kMake2 (k : Nat) : D → Sto → Out D := fun d M2 => match d with
  | .non => frzO k (.ref k) M2
  | _ => .bad
def kMake (c : Str) (F : DF) : List D → Sto → Out D := fun ds M1 => (noex (F (.ref M1.length :: ds) (M1 ++ [.ins c [] []]))).bind (kMake2 M1.length)
theorem ev_make (c : Str) (F : DF) (fa : DA) : dMake c F fa env M = (fa env M).bind (kMake c F) := rfl
theorem ev_kMake (c : Str) (F : DF) (ds : List D) : kMake c F ds M = (noex (F (.ref M.length :: ds) (M ++ [.ins c [] []]))).bind (kMake2 M.length) := rfl
theorem ev_kMake2 (k : Nat) : kMake2 k .non M = frzO k (.ref k) M := rfl
def kMeth2 (F : DF) (x : D) : List D → Sto → Out D := fun as M2 => noex (F (x :: as) M2)
def kMeth (c m : Str) (F : DF) (fa : DA) (env : En) : D → Sto → Out D := fun x M1 => match objOf c x M1 with
  | some (ks, ds) => match (ks.zip ds).lookup m with
    | none => (fa env M1).bind (kMeth2 F x)
    | some _ => .bad
  | none => .bad
theorem ev_meth (c m : Str) (F : DF) (fo : DE) (fa : DA) : dMeth c m F fo fa env M = (fo env M).bind (kMeth c m F fa env) := rfl
theorem ev_kMeth2 (F : DF) (x : D) (as : List D) : kMeth2 F x as M = noex (F (x :: as) M) := rfl
def kLenO2 : D → Sto → Out D := fun d M2 => match d with
  | .int n => if 0 ≤ n ∧ n < 2 ^ 63 then .ok (.int n) M2 else .bad
  | _ => .bad
def kLenO (c : Str) (F : DF) : D → Sto → Out D := fun x M1 => match objOf c x M1 with
  | some _ => (noex (F [x] M1)).bind kLenO2
  | none => .bad
theorem ev_lenO (c : Str) (F : DF) (fe : DE) : dLenO c F fe env M = (fe env M).bind (kLenO c F) := rfl
theorem ev_kLenO (c : Str) (F : DF) (ks : List Str) (ds : List D) : kLenO c F (.obj c ks ds) M = (noex (F [.obj c ks ds] M)).bind kLenO2 := by
  unfold kLenO objOf
  simp only [if_true]
def kReprO2 : D → Sto → Out D := fun d M2 => match d with
  | .str m => .ok (.str m) M2
  | _ => .bad
def kReprO (c : Str) (F : DF) : D → Sto → Out D := fun x M1 => match objOf c x M1 with
  | some _ => (noex (F [x] M1)).bind kReprO2
  | none => .bad
theorem ev_reprO (c : Str) (F : DF) (fe : DE) : dReprO c F fe env M = (fe env M).bind (kReprO c F) := rfl
theorem ev_kReprO (c : Str) (F : DF) (ks : List Str) (ds : List D) : kReprO c F (.obj c ks ds) M = (noex (F [.obj c ks ds] M)).bind kReprO2 := by
  unfold kReprO objOf
  simp only [if_true]
theorem ev_kReprO2 (m : Str) : kReprO2 (.str m) M = .ok (.str m) M := rfl
def kFmt : D → Sto → Out D := fun x M1 => match x with
  | .str y => if y.length ≤ 16777216 then .ok (.str y) M1 else .bad
  | .int i => if i.natAbs.log2 < 1920 then .ok (.str (toString i)) M1 else .bad
  | _ => .bad
theorem ev_fmt (fe : DE) : dFmt fe env M = (fe env M).bind kFmt := rfl
def kJs (fs : List DE) (acc : Str) (env : En) : D → Sto → Out D := fun x M1 => match x with
  | .str y => if (acc ++ y).length ≤ 16777216 then dJs fs (acc ++ y) env M1 else .bad
  | _ => .bad
theorem ev_js_nil (acc : Str) : dJs [] acc env M = .ok (.str acc) M := rfl
theorem ev_js_cons (f : DE) (fs : List DE) (acc : Str) : dJs (f :: fs) acc env M = (f env M).bind (kJs fs acc env) := rfl
theorem g_listC (l : List D) : gListC [.lst l] M = some (.ref M.length, M ++ [.lst l]) := rfl
theorem g_tupleR (n : Nat) : gTuple [.ref n] M = (celL M[n]?).map fun l => (.tup l, M) := by
  show (asL (.ref n) M).map _ = _
  rw [asL_ref]
def kForS (t : DG) (fb : DS) (env : En) : Src → Sto → Out Fl := fun src M1 => forS t fb src 20000000 0 env M1
theorem ev_forS (t : DG) (fi : DI) (fb : DS) : dForS t fi fb env M = (fi env M).bind (kForS t fb env) := rfl
theorem ev_kForS (t : DG) (fb : DS) (src : Src) : kForS t fb env src M = forS t fb src 20000000 0 env M := rfl
def srcO (o : Option Src) (M : Sto) : Out Src := match o with
  | some s => .ok s M
  | none => .bad
def kIter2 : D → Sto → Out Src := fun x M1 => srcO (srcD x M1) M1
def kEnum2 : D → Sto → Out Src := fun x M1 => srcO (esrcD x M1) M1
theorem ev_iter2 (fe : DE) : dIter2 fe env M = (fe env M).bind kIter2 := rfl
theorem ev_enum2 (fe : DE) : dEnum2 fe env M = (fe env M).bind kEnum2 := rfl
theorem ev_kIter2_l (l : List D) : kIter2 (.lst l) M = .ok (.items l) M := rfl
theorem ev_kIter2_t (l : List D) : kIter2 (.tup l) M = .ok (.items l) M := rfl
theorem ev_kIter2_s (ns : List Int) : kIter2 (.scr ns) M = .ok (.items (ns.map D.int)) M := rfl
theorem ev_kIter2_r (n : Nat) (l : List D) (h : M[n]? = some (.lst l)) : kIter2 (.ref n) M = .ok (.cell n) M := by
  show srcO ((celL M[n]?).map fun _ => Src.cell n) M = _
  rw [h]; rfl
theorem ev_kEnum2_l (l : List D) : kEnum2 (.lst l) M = .ok (.items (enumD 0 l)) M := rfl
theorem ev_kEnum2_t (l : List D) : kEnum2 (.tup l) M = .ok (.items (enumD 0 l)) M := rfl
theorem ev_kEnum2_r (n : Nat) (l : List D) (h : M[n]? = some (.lst l)) : kEnum2 (.ref n) M = .ok (.ecell n) M := by
  show srcO ((celL M[n]?).map fun _ => Src.ecell n) M = _
  rw [h]; rfl
end
end Ip
end
section
set_option Elab.async false
set_option linter.all false
set_option maxRecDepth 100000
set_option maxHeartbeats 4000000
set_option autoImplicit false
namespace Ip
open PySem PyProof.Rows L2
section
variable (env : En) (M : Sto)
theorem ev_makeV (i : Nat) (c : Str) (F : DF) (fa : DA) (h : env[i]? = some (some (.cls c))) : dMakeV i c F fa env M = dMake c F fa env M := by
  unfold dMakeV
  rw [h]
  exact if_pos rfl
end
end Ip
end
section
set_option Elab.async false
set_option linter.all false
set_option maxRecDepth 100000
set_option maxHeartbeats 1000000
set_option autoImplicit false
namespace Ip
open PySem L2
def Pr (α : Type) : Type := (α → Prop) → (Exn → Prop) → Prop
namespace Pr
variable {α β γ : Type}
def ok (a : α) : Pr α := fun Q _ => Q a
def bad : Pr α := fun _ _ => False
def exc (e : Exn) : Pr α := fun _ E => E e
def bind (p : Pr α) (k : α → Pr β) : Pr β := fun Q E => p (fun a => k a Q E) E
def need (c : Prop) (p : Pr α) : Pr α := fun Q E => c ∧ p Q E
theorem ok_bind (a : α) (k : α → Pr β) : (ok a).bind k = k a := rfl
theorem bind_bind (p : Pr α) (k : α → Pr β) (l : β → Pr γ) : (p.bind k).bind l = p.bind fun a => (k a).bind l := rfl
/-- one of the numbers below n -/
def pull (n : Int) : Pr Int := fun Q _ => 0 < n ∧ n < 1073741824 ∧ ∀ v, 0 ≤ v → v < n → Q v
/-- one of these -/
def of (l : List α) : Pr α := fun Q _ => l ≠ [] ∧ l.length < 1073741824 ∧ ∀ x ∈ l, Q x
end Pr
class Enc (α : Type) where
  enc : α → D
  cls : ∀ a k, closed k (enc a) = true
  inj : ∀ a b, enc a = enc b → a = b
abbrev en {α : Type} [Enc α] (a : α) : D := Enc.enc a
instance : Enc Int := ⟨D.int, fun _ _ => rfl, fun _ _ h => by cases h; rfl⟩
instance : Enc Bool := ⟨D.bl, fun _ _ => rfl, fun _ _ h => by cases h; rfl⟩
instance : Enc Str := ⟨D.str, fun _ _ => rfl, fun _ _ h => by cases h; rfl⟩
instance : Enc Unit := ⟨fun _ => D.non, fun _ _ => rfl, fun _ _ _ => rfl⟩
theorem closedAll_map {α : Type} [Enc α] (k : Nat) : ∀ l : List α, closedAll k (l.map en) = true
  | [] => rfl
  | x :: l => by simp [closedAll, Enc.cls x k, closedAll_map k l]
theorem map_inj {α : Type} [Enc α] : ∀ l l' : List α, l.map en = l'.map en → l = l'
  | [], [], _ => rfl
  | [], _ :: _, h => by simp at h
  | _ :: _, [], h => by simp at h
  | x :: l, y :: l', h => by
    simp only [List.map_cons, List.cons.injEq] at h
    rw [Enc.inj x y h.1, map_inj l l' h.2]
instance {α : Type} [Enc α] : Enc (List α) := ⟨fun l => .lst (l.map en), fun l k => by simp [closed, closedAll_map], fun a b h => map_inj a b (D.lst.inj h)⟩
instance {α β : Type} [Enc α] [Enc β] : Enc (α × β) := ⟨fun p => .tup [en p.1, en p.2], fun p k => by simp [closed, closedAll, Enc.cls], fun a b h => by
  have h' : [en a.1, en a.2] = [en b.1, en b.2] := D.tup.inj h
  simp only [List.cons.injEq, and_true] at h'
  exact Prod.ext (Enc.inj _ _ h'.1) (Enc.inj _ _ h'.2)⟩
/-- never None -/
class NoN (α : Type) [Enc α] : Prop where
  non : ∀ a : α, en a ≠ D.non
instance : NoN Int := ⟨fun _ h => by cases h⟩
instance : NoN Bool := ⟨fun _ h => by cases h⟩
instance : NoN Str := ⟨fun _ h => by cases h⟩
instance {α : Type} [Enc α] : NoN (List α) := ⟨fun _ h => by cases h⟩
instance {α β : Type} [Enc α] [Enc β] : NoN (α × β) := ⟨fun _ h => by cases h⟩
def enO {α : Type} [Enc α] : Option α → D
  | none => .non
  | some a => en a
instance {α : Type} [Enc α] [NoN α] : Enc (Option α) := ⟨enO, fun p k => by
    cases p with
    | none => rfl
    | some a => exact Enc.cls a k, fun a b h => by
    cases a with
    | none => cases b with
      | none => rfl
      | some b => exact absurd h.symm (NoN.non b)
    | some a => cases b with
      | none => exact absurd h (NoN.non a)
      | some b => rw [Enc.inj a b h]⟩
structure T3 (α β γ : Type) where
  p1 : α
  p2 : β
  p3 : γ
structure T4 (α β γ δ : Type) where
  p1 : α
  p2 : β
  p3 : γ
  p4 : δ
instance {α β γ : Type} [Enc α] [Enc β] [Enc γ] : Enc (T3 α β γ) := ⟨fun p => .tup [en p.p1, en p.p2, en p.p3], fun p k => by simp [closed, closedAll, Enc.cls], fun a b h => by
  have h' := D.tup.inj h
  simp only [List.cons.injEq, and_true] at h'
  cases a; cases b
  simp only [T3.mk.injEq]
  exact ⟨Enc.inj _ _ h'.1, Enc.inj _ _ h'.2.1, Enc.inj _ _ h'.2.2⟩⟩
instance {α β γ δ : Type} [Enc α] [Enc β] [Enc γ] [Enc δ] : Enc (T4 α β γ δ) := ⟨fun p => .tup [en p.p1, en p.p2, en p.p3, en p.p4], fun p k => by simp [closed, closedAll, Enc.cls], fun a b h => by
  have h' := D.tup.inj h
  simp only [List.cons.injEq, and_true] at h'
  cases a; cases b
  simp only [T4.mk.injEq]
  exact ⟨Enc.inj _ _ h'.1, Enc.inj _ _ h'.2.1, Enc.inj _ _ h'.2.2.1, Enc.inj _ _ h'.2.2.2⟩⟩
instance {α β γ : Type} [Enc α] [Enc β] [Enc γ] : NoN (T3 α β γ) := ⟨fun _ h => by cases h⟩
instance {α β γ δ : Type} [Enc α] [Enc β] [Enc γ] [Enc δ] : NoN (T4 α β γ δ) := ⟨fun _ h => by cases h⟩
/-- a tree without cells, of any kind -/
structure Da where
  d : D
  c : ∀ k, closed k d = true
instance : Enc Da := ⟨Da.d, fun a k => a.c k, fun a b h => by cases a; cases b; cases h; rfl⟩
/-- no cell speaks of another one -/
def PureS (M : Sto) : Prop := ∀ k, M.all (cellClosed k) = true
def bagD (ns : List Int) (i j m c : Int) : List D := [.lst (ns.map D.int), .int i, .int j, .int m, .int c]
def BagOk (l : List D) : Prop := ∃ ns i j m c, l = bagD ns i j m c ∧ 0 ≤ i ∧ 0 ≤ j ∧ 0 ≤ m ∧ m < 2147483563 ∧ 0 ≤ c
theorem PureS.app {M N : Sto} (h : PureS M) (h' : PureS N) : PureS (M ++ N) := fun k => by rw [List.all_append, h k, h' k]; rfl
theorem PureS.of_app {M N : Sto} (h : PureS (M ++ N)) : PureS M ∧ PureS N := ⟨fun k => by have := h k; rw [List.all_append, Bool.and_eq_true] at this; exact this.1, fun k => by have := h k; rw [List.all_append, Bool.and_eq_true] at this; exact this.2⟩
theorem PureS.one {c : Cell} (h : ∀ k, cellClosed k c = true) : PureS [c] := fun k => by simp [h k]
theorem PureS.set {M : Sto} (h : PureS M) (n : Nat) {c : Cell} (hc : ∀ k, cellClosed k c = true) : PureS (M.set n c) := fun k => by
  rw [List.all_eq_true]
  intro x hx
  rcases List.mem_or_eq_of_mem_set hx with z | z
  · exact List.all_eq_true.mp (h k) x z
  · rw [z]; exact hc k
theorem PureS.nil : PureS [] := fun _ => rfl
theorem closed_bagD (ns : List Int) (i j m c : Int) (k : Nat) : closedAll k (bagD ns i j m c) = true := by
  have := closedAll_map (α := Int) k ns
  simp only [bagD, closedAll, closed, Bool.and_true]
  exact this
theorem bag_closed {b : List D} (h : BagOk b) (k : Nat) : cellClosed k (.lst b) = true := by
  obtain ⟨ns, i, j, m, c, rfl, _⟩ := h
  exact closed_bagD ns i j m c k
/-- the store: what stood before, as P says, and the cells cs -/
structure St (N : Nat) (P : Sto → Prop) (cs : List (Nat × Cell)) (M : Sto) : Prop where
  base : ∃ A J, P A ∧ A.length = N ∧ M = A ++ J
  pure : PureS M
  nd : (cs.map Prod.fst).Nodup
  cell : ∀ p ∈ cs, N ≤ p.1 ∧ M[p.1]? = some p.2
section
variable {N : Nat} {P : Sto → Prop} {cs : List (Nat × Cell)} {M : Sto}
theorem St.get (h : St N P cs M) (i : Nat) {n : Nat} {c : Cell} (hi : cs[i]? = some (n, c)) : M[n]? = some c := (h.cell _ (List.mem_of_getElem? hi)).2
theorem St.new (h : St N P cs M) {c : Cell} (hc : ∀ k, cellClosed k c = true) : St N P (cs ++ [(M.length, c)]) (M ++ [c]) := by
  obtain ⟨A, J, hP, e, rfl⟩ := h.base
  refine ⟨⟨A, J ++ [c], hP, e, by simp⟩, h.pure.app (.one hc), ?_, ?_⟩
  · rw [List.map_append, List.nodup_append]
    refine ⟨h.nd, by simp, ?_⟩
    intro a ha b hb
    obtain ⟨p, hp, rfl⟩ := List.mem_map.mp ha
    have := (List.getElem?_eq_some_iff.mp (h.cell p hp).2).1
    simp only [List.map_cons, List.map_nil, List.mem_singleton] at hb
    omega
  · intro p hp
    rcases List.mem_append.mp hp with z | z
    · have := h.cell p z
      refine ⟨this.1, ?_⟩
      rw [List.getElem?_append_left (List.getElem?_eq_some_iff.mp this.2).1]
      exact this.2
    · have : p = ((A ++ J).length, c) := by simpa using z
      subst this
      exact ⟨by simp; omega, by simp⟩
theorem nodup_set_fst : ∀ (cs : List (Nat × Cell)) (i : Nat) (n : Nat) (c c' : Cell), cs[i]? = some (n, c) → (cs.set i (n, c')).map Prod.fst = cs.map Prod.fst
  | [], _, _, _, _, h => by simp at h
  | p :: cs, 0, n, c, c', h => by
    have : p = (n, c) := by simpa using h
    subst this; rfl
  | p :: cs, i + 1, n, c, c', h => by
    simp only [List.set_cons_succ, List.map_cons]
    rw [nodup_set_fst cs i n c c' (by simpa using h)]
theorem St.set (h : St N P cs M) (i : Nat) {n : Nat} {c c' : Cell} (hi : cs[i]? = some (n, c)) (hc : ∀ k, cellClosed k c' = true) : St N P (cs.set i (n, c')) (M.set n c') := by
  obtain ⟨A, J, hP, e, rfl⟩ := h.base
  have hn := h.cell _ (List.mem_of_getElem? hi)
  have hlt := (List.getElem?_eq_some_iff.mp hn.2).1
  simp only at hn hlt
  refine ⟨⟨A, J.set (n - N) c', hP, e, ?_⟩, h.pure.set n hc, ?_, ?_⟩
  · rw [List.set_append_right _ _ (by omega), e]
  · rw [nodup_set_fst cs i n c c' hi]; exact h.nd
  · intro p hp
    rcases List.getElem_of_mem hp with ⟨j, hj, ej⟩
    have hj' : (cs.set i (n, c'))[j]? = some p := by rw [List.getElem?_eq_getElem hj, ej]
    by_cases hji : j = i
    · subst hji
      rw [List.getElem?_set_self (by simpa using hj)] at hj'
      cases hj'
      exact ⟨hn.1, by simp only; rw [List.getElem?_set_self hlt]⟩
    · rw [List.getElem?_set_ne (Ne.symm hji)] at hj'
      have hp' := h.cell p (List.mem_of_getElem? hj')
      refine ⟨hp'.1, ?_⟩
      rw [List.getElem?_set_ne]
      · exact hp'.2
      · intro z
        have h1 : (cs.map Prod.fst)[j]? = some p.1 := by rw [List.getElem?_map, hj']; rfl
        have h2 : (cs.map Prod.fst)[i]? = some n := by rw [List.getElem?_map, hi]; rfl
        rw [← z] at h1
        exact hji ((List.getElem?_inj (List.getElem?_eq_some_iff.mp h1).1 h.nd).mp (h1.trans h2.symm))
theorem St.pre {cs' : List (Nat × Cell)} (h : St N P (cs ++ cs') M) : St N P cs M :=
  ⟨h.base, h.pure, by have := h.nd; rw [List.map_append, List.nodup_append] at this; exact this.1, fun p hp => h.cell p (List.mem_append_left _ hp)⟩
theorem St.start (hP : P M) (hl : M.length = N) (hp : PureS M) : St N P [] M := ⟨⟨M, [], hP, hl, by simp⟩, hp, List.nodup_nil, fun _ z => by cases z⟩
end
def BagP (G : Sto) : Sto → Prop := fun A => ∃ b, BagOk b ∧ A = .lst b :: G
/-- the bag of such a store -/
theorem St.bag {G : Sto} {cs : List (Nat × Cell)} {M : Sto} (h : St (G.length + 1) (BagP G) cs M) : ∃ b K, BagOk b ∧ M = .lst b :: K ∧ PureS K ∧ ∀ b', BagOk b' → St (G.length + 1) (BagP G) cs (.lst b' :: K) := by
  obtain ⟨A, J, ⟨b, hb, rfl⟩, e, rfl⟩ := h.base
  have hp := h.pure
  refine ⟨b, G ++ J, hb, rfl, (PureS.of_app (M := [.lst b]) (N := G ++ J) hp).2, fun b' hb' => ⟨⟨.lst b' :: G, J, ⟨b', hb', rfl⟩, by simp, rfl⟩, PureS.app (M := [.lst b']) (.one (bag_closed hb')) (PureS.of_app (M := [.lst b]) (N := G ++ J) hp).2, h.nd, fun p hq => ?_⟩⟩
  have := h.cell p hq
  refine ⟨this.1, ?_⟩
  have h1 := this.1
  obtain ⟨n, c⟩ := p
  simp only at h1 this ⊢
  cases n with
  | zero => omega
  | succ n => simpa using this.2
end Ip
end
section
set_option Elab.async false
set_option linter.all false
set_option maxRecDepth 100000
set_option maxHeartbeats 1000000
set_option autoImplicit false
namespace Ip
open PySem L2
structure Sat {α δ : Type} (o : Out δ) (p : Pr α) (rel : α → δ → Sto → Prop) (X : Sto → Prop) : Prop where
  run : ∀ (Q : α → Prop) (E : Exn → Prop), p Q E → o.post (fun d M => ∃ a, Q a ∧ rel a d M) (fun e _ M => E e ∧ X M)
abbrev NX : Sto → Prop := fun _ => False
theorem post_mk_bind {α β : Type} {o : Out α} {k : α → Sto → Out β} {Q : β → Sto → Prop} {E : Exn → En → Sto → Prop} (h : o.post (fun a M => (k a M).post Q E) E) : (o.bind k).post Q E := by
  cases o <;> exact h
section
variable {α β γ δ ε σ ρ : Type} {X : Sto → Prop} {rel : α → δ → Sto → Prop} {rel' : β → ε → Sto → Prop}
theorem Sat.bind {o : Out δ} {p : Pr α} {c : δ → Sto → Out ε} {k : α → Pr β} (h : Sat o p rel X) (hk : ∀ a d M, rel a d M → Sat (c d M) (k a) rel' X) : Sat (o.bind c) (p.bind k) rel' X :=
  ⟨fun Q E z => post_mk_bind ((h.run _ E z).imp (fun d M ⟨a, q, r⟩ => (hk a d M r).run Q E q) (fun _ _ _ z => z))⟩
theorem Sat.ok {d : δ} {M : Sto} {a : α} (h : rel a d M) : Sat (.ok d M) (Pr.ok a) rel X := ⟨fun Q E z => ⟨a, z, h⟩⟩
theorem Sat.bad {o : Out δ} : Sat o (Pr.bad : Pr α) rel X := ⟨fun Q E z => z.elim⟩
theorem Sat.imp {o : Out δ} {p : Pr α} {rel2 : α → δ → Sto → Prop} (h : Sat o p rel X) (w : ∀ a d M, rel a d M → rel2 a d M) : Sat o p rel2 X :=
  ⟨fun Q E z => (h.run Q E z).imp (fun d M ⟨a, q, r⟩ => ⟨a, q, w a d M r⟩) (fun _ _ _ z => z)⟩
theorem Sat.ref {o : Out δ} {p p' : Pr α} (h : Sat o p rel X) (w : ∀ Q E, p' Q E → p Q E) : Sat o p' rel X := ⟨fun Q E z => h.run Q E (w Q E z)⟩
theorem Sat.map {o : Out δ} {p : Pr α} {w : α → β} {r2 : β → δ → Sto → Prop} (h : Sat o p rel X) (hw : ∀ a d M, rel a d M → r2 (w a) d M) : Sat o (p.bind fun a => Pr.ok (w a)) r2 X :=
  ⟨fun Q E z => (h.run _ E z).imp (fun d M ⟨a, q, r⟩ => ⟨w a, q, hw a d M r⟩) (fun _ _ _ z => z)⟩
theorem Sat.need {c : Prop} {o : Out δ} {p : Pr α} (h : c → Sat o p rel X) : Sat o (Pr.need c p) rel X := ⟨fun Q E z => (h z.1).run Q E z.2⟩
theorem Sat.noex {o : Out δ} {p : Pr α} (h : Sat o p rel NX) : Sat (Ip.noex o) p rel X := by
  refine ⟨fun Q E z => ?_⟩
  have := h.run Q E z
  cases o with
  | ok d M => exact this
  | exc e env M => exact this.2.elim
  | bad => exact this
theorem bind_assoc (o : Out δ) (c : δ → Sto → Out ε) (c' : ε → Sto → Out γ) : (o.bind c).bind c' = o.bind fun d M => (c d M).bind c' := by cases o <;> rfl
def PV (f : DE) (env : En) (S : Sto → Prop) (x : D) : Prop := ∀ M, S M → f env M = .ok x M
def relE [Enc α] (S : Sto → Prop) : α → D → Sto → Prop := fun a d M => d = en a ∧ S M
def PX [Enc α] (f : DE) (env : En) (S X : Sto → Prop) (p : Pr α) : Prop := ∀ M, S M → Sat (f env M) p (relE S) X
def TV (f : DT) (env : En) (S : Sto → Prop) (b : Bool) : Prop := ∀ M, S M → f env M = .ok b M
def relT (S : Sto → Prop) : Bool → Bool → Sto → Prop := fun a d M => d = a ∧ S M
def TX (f : DT) (env : En) (S X : Sto → Prop) (p : Pr Bool) : Prop := ∀ M, S M → Sat (f env M) p (relT S) X
variable {env : En} {S : Sto → Prop} {M : Sto}
theorem PV.px [Enc α] {f : DE} {a : α} (h : PV f env S (en a)) : PX f env S X (Pr.ok a) := fun M hM => by rw [h M hM]; exact .ok ⟨rfl, hM⟩
theorem TV.tx {f : DT} {b : Bool} (h : TV f env S b) : TX f env S X (Pr.ok b) := fun M hM => by rw [h M hM]; exact .ok ⟨rfl, hM⟩
theorem pv {i : Nat} {d : D} (h : env[i]? = some (some d)) : PV (dVar i) env S d := fun M _ => by unfold dVar; rw [h]
theorem pv_c {d : D} : PV (dC d) env S d := fun _ _ => rfl
/-- the value of a tree of another kind -/
def cast [Enc α] [Enc β] (a : α) : Pr β := fun Q _ => ∃ b : β, en a = en b ∧ Q b
theorem PV.cast [Enc α] [Enc β] {f : DE} {a : α} (h : PV f env S (en a)) : PX f env S X (Ip.cast a : Pr β) := fun M hM => by
  refine ⟨fun Q E ⟨b, e, q⟩ => ?_⟩
  rw [h M hM]
  exact ⟨b, q, e, hM⟩
theorem PX.cast [Enc α] [Enc β] {f : DE} {p : Pr α} (h : PX f env S X p) : PX f env S X (p.bind fun a => (Ip.cast a : Pr β)) := fun M hM => ⟨fun Q E z =>
  ((h M hM).run _ E z).imp (fun d M' ⟨a, ⟨b, e, q⟩, r1, r2⟩ => ⟨b, q, r1.trans e, r2⟩) (fun _ _ _ z => z)⟩
theorem bd_p {f : DE} {x : D} {c : D → Sto → Out ε} {P : Pr β} (h : PV f env S x) (hM : S M) (hk : Sat (c x M) P rel' X) : Sat ((f env M).bind c) P rel' X := by
  rw [h M hM]; exact hk
theorem bd_e [Enc α] {f : DE} {p : Pr α} {c : D → Sto → Out ε} {k : α → Pr β} (h : PX f env S X p) (hM : S M) (hk : ∀ a M1, S M1 → Sat (c (en a) M1) (k a) rel' X) : Sat ((f env M).bind c) (p.bind k) rel' X :=
  (h M hM).bind fun a d M1 ⟨e, s⟩ => by rw [e]; exact hk a M1 s
theorem td_p {f : DT} {b : Bool} {c : Bool → Sto → Out ε} {P : Pr β} (h : TV f env S b) (hM : S M) (hk : Sat (c b M) P rel' X) : Sat ((f env M).bind c) P rel' X := by
  rw [h M hM]; exact hk
theorem td_e {f : DT} {p : Pr Bool} {c : Bool → Sto → Out ε} {k : Bool → Pr β} (h : TX f env S X p) (hM : S M) (hk : ∀ a M1, S M1 → Sat (c a M1) (k a) rel' X) : Sat ((f env M).bind c) (p.bind k) rel' X :=
  (h M hM).bind fun a d M1 ⟨e, s⟩ => by rw [e]; exact hk a M1 s
/-- what the operator g gives, as a value of a known kind -/
def op2 [Enc α] [Enc β] [Enc γ] (g : G2) (a : α) (b : β) : Pr γ := fun Q _ => ∃ c : γ, (∀ M, g (en a) (en b) M = some (en c, M)) ∧ Q c
theorem op2_ok [Enc α] [Enc β] [Enc γ] {g : G2} {a : α} {b : β} {c : γ} (h : ∀ M, g (en a) (en b) M = some (en c, M)) : (op2 g a b : Pr γ) = Pr.ok c := by
  funext Q E
  refine propext ⟨fun ⟨c', h', q⟩ => ?_, fun q => ⟨c, h, q⟩⟩
  have e := (h' []).symm.trans (h [])
  simp only [Option.some.injEq, Prod.mk.injEq, and_true] at e
  rw [Enc.inj c' c e] at q
  exact q
def GS [Enc γ] (S X : Sto → Prop) (g : G2) (x y : D) (p : Pr γ) : Prop := ∀ M, S M → Sat (liftM (g x y M)) p (relE S) X
theorem gs_op2 [Enc α] [Enc β] [Enc γ] {g : G2} {a : α} {b : β} : GS S X g (en a) (en b) (op2 g a b : Pr γ) := fun M hM => by
  refine ⟨fun Q E ⟨c, h, q⟩ => ?_⟩
  rw [h M]
  exact ⟨c, q, rfl, hM⟩
theorem gs_ok [Enc γ] {g : G2} {x y : D} {c : γ} (h : ∀ M, S M → g x y M = some (en c, M)) : GS S X g x y (Pr.ok c) := fun M hM => by
  rw [h M hM]
  exact .ok ⟨rfl, hM⟩
theorem bin_v {g : G2} {fa fb : DE} {x y z : D} (ha : PV fa env S x) (hb : PV fb env S y) (hg : ∀ M, S M → g x y M = some (z, M)) : PV (dBin g fa fb) env S z := fun M hM => by
  unfold dBin
  rw [ha M hM]
  show (fb env M).bind _ = _
  rw [hb M hM]
  show liftM (g x y M) = _
  rw [hg M hM]; rfl
theorem bin_pp [Enc γ] {g : G2} {fa fb : DE} {x y : D} {P : Pr γ} (ha : PV fa env S x) (hb : PV fb env S y) (hg : GS S X g x y P) : PX (dBin g fa fb) env S X P := fun M hM =>
  bd_p ha hM (bd_p hb hM (hg M hM))
theorem bin_pe [Enc β] [Enc γ] {g : G2} {fa fb : DE} {x : D} {q : Pr β} {R : β → Pr γ} (ha : PV fa env S x) (hb : PX fb env S X q) (hg : ∀ b, GS S X g x (en b) (R b)) : PX (dBin g fa fb) env S X (q.bind R) := fun M hM =>
  bd_p ha hM (bd_e hb hM fun b M1 h1 => hg b M1 h1)
theorem bin_ep [Enc α] [Enc γ] {g : G2} {fa fb : DE} {y : D} {p : Pr α} {R : α → Pr γ} (ha : PX fa env S X p) (hb : PV fb env S y) (hg : ∀ a, GS S X g (en a) y (R a)) : PX (dBin g fa fb) env S X (p.bind R) := fun M hM =>
  bd_e ha hM fun a M1 h1 => bd_p hb h1 (hg a M1 h1)
theorem bin_ee [Enc α] [Enc β] [Enc γ] {g : G2} {fa fb : DE} {p : Pr α} {q : Pr β} {R : α → β → Pr γ} (ha : PX fa env S X p) (hb : PX fb env S X q) (hg : ∀ a b, GS S X g (en a) (en b) (R a b)) : PX (dBin g fa fb) env S X (p.bind fun a => q.bind (R a)) := fun M hM =>
  bd_e ha hM fun a M1 h1 => bd_e hb h1 fun b M2 h2 => hg a b M2 h2
theorem un_v {g : D → Sto → Option (D × Sto)} {fa : DE} {x z : D} (ha : PV fa env S x) (hg : ∀ M, S M → g x M = some (z, M)) : PV (dUn g fa) env S z := fun M hM => by
  unfold dUn
  rw [ha M hM]
  show liftM (g x M) = _
  rw [hg M hM]; rfl
theorem arg_p {f : DE} {fr : DA} {x : D} {c : List D → Sto → Out ε} {P : Pr β} (h : PV f env S x) (hM : S M) (hk : Sat ((fr env M).bind fun xs M2 => c (x :: xs) M2) P rel' X) : Sat ((dConsA f fr env M).bind c) P rel' X := by
  unfold dConsA
  rw [h M hM]
  show Sat ((Out.bind (fr env M) fun xs M2 => Out.ok (x :: xs) M2).bind c) P rel' X
  rw [bind_assoc]
  exact hk
theorem arg_e [Enc α] {f : DE} {fr : DA} {p : Pr α} {k : α → Pr β} {c : List D → Sto → Out ε} (h : PX f env S X p) (hM : S M) (hk : ∀ a M1, S M1 → Sat ((fr env M1).bind fun xs M2 => c (en a :: xs) M2) (k a) rel' X) : Sat ((dConsA f fr env M).bind c) (p.bind k) rel' X := by
  unfold dConsA
  rw [bind_assoc]
  refine (h M hM).bind fun a d M1 ⟨e, s⟩ => ?_
  rw [e]
  show Sat ((Out.bind (fr env M1) fun xs M2 => Out.ok (en a :: xs) M2).bind c) (k a) rel' X
  rw [bind_assoc]
  exact hk a M1 s
theorem arg_nil {c : List D → Sto → Out ε} {P : Pr β} (h : Sat (c [] M) P rel' X) : Sat ((dNilA env M).bind c) P rel' X := h
def AV (fa : DA) (env : En) (S : Sto → Prop) (xs : List D) : Prop := ∀ M, S M → fa env M = .ok xs M
theorem av_nil : AV dNilA env S [] := fun _ _ => rfl
theorem av_cons {f : DE} {fr : DA} {x : D} {xs : List D} (h : PV f env S x) (hr : AV fr env S xs) : AV (dConsA f fr) env S (x :: xs) := fun M hM => by
  unfold dConsA
  rw [h M hM]
  show (fr env M).bind _ = _
  rw [hr M hM]; rfl
/-- tuples and lists written out -/
theorem tup_v {fa : DA} {xs : List D} (h : AV fa env S xs) (hl : xs.length ≤ 16777216 := by exact Nat.le_of_ble_eq_true rfl) : PV (dTup fa) env S (.tup xs) := fun M hM => by
  unfold dTup
  rw [h M hM]
  exact if_pos hl
theorem lst_v {fa : DA} {xs : List D} (h : AV fa env S xs) (hl : xs.length ≤ 16777216 := by exact Nat.le_of_ble_eq_true rfl) : PV (dLst fa) env S (.lst xs) := fun M hM => by
  unfold dLst
  rw [h M hM]
  exact if_pos hl
theorem seq_end [Enc α] {xs : List D} {mk : List D → D} {a : α} (e : mk xs = en a) (hM : S M) (hl : xs.length ≤ 16777216 := by exact Nat.le_of_ble_eq_true rfl) : Sat (if xs.length ≤ 16777216 then Out.ok (mk xs) M else .bad) (Pr.ok a) (relE S) X := by
  rw [if_pos hl]
  exact .ok ⟨e, hM⟩
def FP [Enc α] (F : DF) (ds : List D) (p : Pr α) : Prop := ∀ M, PureS M → Sat (F ds M) p (fun a d M' => d = en a ∧ M' = M) NX
def FB [Enc α] (F : DF) (ds : List D) (p : Pr α) : Prop := ∀ b G, BagOk b → PureS G → Sat (F (.ref 0 :: ds) (.lst b :: G)) p (fun a d M' => d = en a ∧ ∃ b', BagOk b' ∧ M' = .lst b' :: G) NX
variable {N : Nat} {P : Sto → Prop} {cs : List (Nat × Cell)} {G : Sto}
end
end Ip
end
section
set_option Elab.async false
set_option linter.all false
set_option maxRecDepth 100000
set_option maxHeartbeats 1000000
set_option autoImplicit false
namespace Ip
open PySem L2
section
variable {α β γ δ ε σ ρ : Type} {X : Sto → Prop} {env : En} {S : Sto → Prop} {M : Sto}
theorem b_v {f : DE} {b : Bool} (h : PV f env S (.bl b)) : TV (dB f) env S b := fun M hM => by
  rw [ev_b, h M hM]
  rfl
theorem b_x {f : DE} {p : Pr Bool} (h : PX f env S X p) : TX (dB f) env S X p := fun M hM => by
  refine ⟨fun Q E z => ?_⟩
  have := (h M hM).run Q E z
  rw [ev_b]
  cases ho : f env M with
  | bad => rw [ho] at this; exact this
  | exc e v M1 => rw [ho] at this; exact this
  | ok d M1 =>
    rw [ho] at this
    obtain ⟨b, q, e, s⟩ := this
    subst e
    exact ⟨b, q, rfl, s⟩
theorem tru_v {f : DE} {d : D} {b : Bool} (h : PV f env S d) (ht : ∀ M, S M → truD d M = some b) : TV (dTru f) env S b := fun M hM => by
  unfold dTru
  rw [h M hM]
  show (match truD d M with
    | some b => Out.ok b M
    | none => .bad) = _
  rw [ht M hM]
theorem tru_x [Enc α] {f : DE} {p : Pr α} {w : α → Bool} (h : PX f env S X p) (ht : ∀ a M, S M → truD (en a) M = some (w a)) : TX (dTru f) env S X (p.bind fun a => Pr.ok (w a)) := fun M hM =>
  bd_e h hM fun a M1 h1 => by
    show Sat (match truD (en a) M1 with
      | some b => Out.ok b M1
      | none => .bad) _ _ _
    rw [ht a M1 h1]
    exact .ok ⟨rfl, h1⟩
theorem tru_b {f : DE} {p : Pr Bool} (h : PX f env S X p) : TX (dTru f) env S X p := fun M hM => tru_x (w := id) h (fun a M _ => rfl) M hM
theorem not_tv {f : DT} {b : Bool} (h : TV f env S b) : TV (dNot f) env S (!b) := fun M hM => by
  unfold dNot; rw [h M hM]; rfl
theorem not_tx {f : DT} {p : Pr Bool} (h : TX f env S X p) : TX (dNot f) env S X (p.bind fun b => Pr.ok (!b)) := fun M hM => td_e h hM fun b M1 h1 => .ok ⟨rfl, h1⟩
theorem and_tv {f g : DT} {a b : Bool} (h : TV f env S a) (h' : TV g env S b) : TV (dAnd f g) env S (a && b) := fun M hM => by
  unfold dAnd; rw [h M hM]
  cases a
  · rfl
  · exact h' M hM
theorem or_tv {f g : DT} {a b : Bool} (h : TV f env S a) (h' : TV g env S b) : TV (dOr f g) env S (a || b) := fun M hM => by
  unfold dOr; rw [h M hM]
  cases a
  · exact h' M hM
  · rfl
theorem and_tx {f g : DT} {p q : Pr Bool} (h : TX f env S X p) (h' : TX g env S X q) : TX (dAnd f g) env S X (p.bind fun a => if a then q else Pr.ok false) := fun M hM => td_e h hM fun a M1 h1 => by
  cases a
  · exact .ok ⟨rfl, h1⟩
  · exact h' M1 h1
theorem or_tx {f g : DT} {p q : Pr Bool} (h : TX f env S X p) (h' : TX g env S X q) : TX (dOr f g) env S X (p.bind fun a => if a then Pr.ok true else q) := fun M hM => td_e h hM fun a M1 h1 => by
  cases a
  · exact h' M1 h1
  · exact .ok ⟨rfl, h1⟩
theorem or_tpx {f g : DT} {a : Bool} {q : Pr Bool} (h : TV f env S a) (h' : TX g env S X q) : TX (dOr f g) env S X (if a then Pr.ok true else q) := fun M hM => td_p h hM (by
  cases a
  · exact h' M hM
  · exact .ok ⟨rfl, hM⟩)
theorem yes_tv : TV dYes env S true := fun _ _ => rfl
theorem andV_v {f g : DE} {a b : Bool} (h : PV f env S (.bl a)) (h' : PV g env S (.bl b)) : PV (dAndV f g) env S (.bl (a && b)) := fun M hM => by
  unfold dAndV; rw [h M hM]
  cases a
  · rfl
  · exact h' M hM
theorem andV_x {f g : DE} {p q : Pr Bool} (h : PX f env S X p) (h' : PX g env S X q) : PX (dAndV f g) env S X (p.bind fun a => if a then q else Pr.ok false) := fun M hM => bd_e h hM fun a M1 h1 => by
  cases a
  · exact .ok ⟨rfl, h1⟩
  · exact h' M1 h1
theorem ifE_t [Enc α] {ft : DT} {fa fb : DE} {c : Bool} {p q : Pr α} (h : TV ft env S c) (ha : PX fa env S X p) (hb : PX fb env S X q) : PX (dIfE ft fa fb) env S X (if c then p else q) := fun M hM => td_p h hM (by
  cases c
  · exact hb M hM
  · exact ha M hM)
theorem ifE_x [Enc α] {ft : DT} {fa fb : DE} {t : Pr Bool} {p q : Pr α} (h : TX ft env S X t) (ha : PX fa env S X p) (hb : PX fb env S X q) : PX (dIfE ft fa fb) env S X (t.bind fun c => if c then p else q) := fun M hM => td_e h hM fun c M1 h1 => by
  cases c
  · exact hb M1 h1
  · exact ha M1 h1
variable {rel : α → Fl → Sto → Prop}
def NxR (N : σ → En → Sto → Prop) : σ → Fl → Sto → Prop := fun s fl M => ∃ env, fl = .nx env ∧ N s env M
theorem last_of {f : DS} {p : Pr α} (h : Sat (dSeq f dSkip env M) p rel X) : Sat (f env M) p rel X := by
  have e : dSeq f dSkip env M = f env M := by
    unfold dSeq
    cases f env M with
    | ok fl M1 => cases fl <;> rfl
    | exc e v M1 => rfl
    | bad => rfl
  rw [e] at h
  exact h
theorem seq_skip {g : DS} {p : Pr α} (h : Sat (g env M) p rel X) : Sat (dSeq dSkip g env M) p rel X := h
theorem skip_end {a : α} (h : rel a (.nx env) M) : Sat (dSkip env M) (Pr.ok a) rel X := .ok h
theorem seq_nx {f g : DS} {p : Pr σ} {k : σ → Pr α} {I : σ → En → Sto → Prop} (h : Sat (f env M) p (NxR I) X) (hk : ∀ s env1 M1, I s env1 M1 → Sat (g env1 M1) (k s) rel X) : Sat (dSeq f g env M) (p.bind k) rel X :=
  h.bind fun s fl M1 ⟨env1, e, i⟩ => by rw [e]; exact hk s env1 M1 i
theorem seq_setx [Enc β] {i : Nat} {fe : DE} {g : DS} {p : Pr β} {k : β → Pr α} {env1 : β → En} (he : ∀ a, env.set i (some (en a)) = env1 a) (h : PX fe env S X p) (hM : S M) (hk : ∀ a M1, S M1 → Sat (g (env1 a) M1) (k a) rel X) : Sat (dSeq (dSet i fe) g env M) (p.bind k) rel X := by
  unfold dSeq dSet
  rw [bind_assoc]
  refine bd_e h hM fun a M1 h1 => ?_
  have := hk a M1 h1
  rw [← he a] at this
  exact this
theorem seq_asgx [Enc β] {t : DG} {fe : DE} {g : DS} {env1 : β → En} {p : Pr β} {k : β → Pr α} (h : PX fe env S X p) (ht : ∀ a, t (en a) env = some (env1 a)) (hM : S M) (hk : ∀ a M1, S M1 → Sat (g (env1 a) M1) (k a) rel X) : Sat (dSeq (dAsg t fe) g env M) (p.bind k) rel X := by
  unfold dSeq dAsg
  rw [bind_assoc]
  refine bd_e h hM fun a M1 h1 => ?_
  show Sat (Out.bind (match t (en a) env with
    | some env' => Out.ok (Fl.nx env') M1
    | none => .bad) _) _ rel X
  rw [ht a]
  exact hk a M1 h1
/-- two, three names at once -/
def seqK (g : DS) : Fl → Sto → Out Fl := fun fl M1 => match fl with
  | .nx env1 => g env1 M1
  | o => .ok o M1
theorem seq_par {i j : Nat} {fa : DA} {g : DS} {p : Pr α} (h : Sat ((fa env M).bind fun ds M1 => (match ds with
  | [x, y] => Out.ok (Fl.nx ((env.set i (some x)).set j (some y))) M1
  | _ => .bad).bind (seqK g)) p rel X) : Sat (dSeq (dPar i j fa) g env M) p rel X := by
  unfold dSeq dPar
  rw [bind_assoc]
  exact h
theorem par_end {i j : Nat} {g : DS} {x y : D} {p : Pr α} {env1 : En} (he : (env.set i (some x)).set j (some y) = env1) (h : Sat (g env1 M) p rel X) : Sat ((match [x, y] with
  | [x, y] => Out.ok (Fl.nx ((env.set i (some x)).set j (some y))) M
  | _ => .bad).bind (seqK g)) p rel X := by subst he; exact h
theorem seq_if {ft : DT} {fa fb g : DS} {c : Bool} {p q : Pr α} (h : TV ft env S c) (hM : S M) (ha : Sat (dSeq fa g env M) p rel X) (hb : Sat (dSeq fb g env M) q rel X) : Sat (dSeq (dIf ft fa fb) g env M) (if c then p else q) rel X := by
  unfold dSeq dIf
  rw [h M hM]
  cases c
  · exact hb
  · exact ha
theorem seq_ifx {ft : DT} {fa fb g : DS} {t : Pr Bool} {p q : Pr α} (h : TX ft env S X t) (hM : S M) (ha : ∀ M, S M → Sat (dSeq fa g env M) p rel X) (hb : ∀ M, S M → Sat (dSeq fb g env M) q rel X) : Sat (dSeq (dIf ft fa fb) g env M) (t.bind fun c => if c then p else q) rel X := by
  unfold dSeq dIf
  rw [bind_assoc]
  refine td_e h hM fun c M1 h1 => ?_
  cases c
  · exact hb M1 h1
  · exact ha M1 h1
theorem if_nxx {ft : DT} {fa fb : DS} {t : Pr Bool} {p q : Pr α} (h : TX ft env S X t) (hM : S M) (ha : ∀ M, S M → Sat (fa env M) p rel X) (hb : ∀ M, S M → Sat (fb env M) q rel X) : Sat (dIf ft fa fb env M) (t.bind fun c => if c then p else q) rel X := by
  unfold dIf
  refine td_e h hM fun c M1 h1 => ?_
  cases c
  · exact hb M1 h1
  · exact ha M1 h1
theorem seq_ret {fe : DE} {g : DS} {x : D} {a : α} (h : PV fe env S x) (hM : S M) (hr : rel a (.rt x) M) : Sat (dSeq (dRet fe) g env M) (Pr.ok a) rel X := by
  unfold dSeq dRet
  rw [h M hM]
  exact .ok hr
theorem seq_retx [Enc β] {fe : DE} {g : DS} {p : Pr β} {w : β → α} (h : PX fe env S X p) (hM : S M) (hr : ∀ a M1, S M1 → rel (w a) (.rt (en a)) M1) : Sat (dSeq (dRet fe) g env M) (p.bind fun a => Pr.ok (w a)) rel X := by
  unfold dSeq dRet
  rw [bind_assoc]
  exact bd_e h hM fun a M1 h1 => .ok (hr a M1 h1)
theorem seq_retx' [Enc α] {fe : DE} {g : DS} {p : Pr α} (h : PX fe env S X p) (hM : S M) (hr : ∀ a M1, S M1 → rel a (.rt (en a)) M1) : Sat (dSeq (dRet fe) g env M) p rel X := seq_retx (w := id) h hM hr
theorem seq_never {f g : DS} : Sat (dSeq f g env M) (Pr.bad : Pr α) rel X := .bad
inductive FlT (σ ρ : Type) where
  | nx (s : σ) | bk (s : σ) | rt (r : ρ)
/-- a turn of a loop -/
def LpR (I : σ → En → Sto → Prop) : σ → Fl → Sto → Prop := fun s fl M => ∃ env, (fl = .nx env ∨ fl = .ct env) ∧ I s env M
def LfR (I : σ → En → Sto → Prop) (R : ρ → D → Sto → Prop) : FlT σ ρ → Fl → Sto → Prop
  | .nx s, fl, M => ∃ env, (fl = .nx env ∨ fl = .ct env) ∧ I s env M
  | .bk s, fl, M => ∃ env, fl = .bk env ∧ I s env M
  | .rt r, fl, M => ∃ d, fl = .rt d ∧ R r d M
/-- behind a loop -/
def NfR (I : σ → En → Sto → Prop) (R : ρ → D → Sto → Prop) : FlT σ ρ → Fl → Sto → Prop
  | .nx s, fl, M => ∃ env, fl = .nx env ∧ I s env M
  | .bk _, _, _ => False
  | .rt r, fl, M => ∃ d, fl = .rt d ∧ R r d M
def Pr.flow (p : Pr (FlT σ ρ)) (k : σ → Pr α) (w : ρ → α) : Pr α := p.bind fun fl => match fl with
  | .nx s => k s
  | .rt r => Pr.ok (w r)
  | .bk _ => Pr.bad
theorem seq_fl {f g : DS} {p : Pr (FlT σ ρ)} {k : σ → Pr α} {w : ρ → α} {I : σ → En → Sto → Prop} {R : ρ → D → Sto → Prop} (h : Sat (f env M) p (NfR I R) X) (hk : ∀ s env1 M1, I s env1 M1 → Sat (g env1 M1) (k s) rel X) (hr : ∀ r d M1, R r d M1 → rel (w r) (.rt d) M1) :
    Sat (dSeq f g env M) (p.flow k w) rel X :=
  h.bind fun fl d M1 z => by
    cases fl with
    | nx s => obtain ⟨env1, e, i⟩ := z; rw [e]; exact hk s env1 M1 i
    | bk s => exact z.elim
    | rt r => obtain ⟨x, e, i⟩ := z; rw [e]; exact .ok (hr r x M1 i)
def Pr.forM : List α → σ → (α → σ → Pr σ) → Pr σ
  | [], s, _ => Pr.ok s
  | x :: xs, s, b => (b x s).bind fun s' => Pr.forM xs s' b
def Pr.forF : List α → σ → (α → σ → Pr (FlT σ ρ)) → Pr (FlT σ ρ)
  | [], s, _ => Pr.ok (.nx s)
  | x :: xs, s, b => (b x s).bind fun fl => match fl with
    | .nx s' => Pr.forF xs s' b
    | .bk s' => Pr.ok (.nx s')
    | .rt r => Pr.ok (.rt r)
theorem forGo_sat {t : DG} {fb : DS} {body : β → σ → Pr σ} {I : σ → En → Sto → Prop} {enc : β → D} (hb : ∀ x s env M, I s env M → ∃ env1, t (enc x) env = some env1 ∧ Sat (fb env1 M) (body x s) (LpR I) X) :
    ∀ (l : List β) (s : σ) (env : En) (M : Sto), I s env M → Sat (forGo t fb (l.map enc) env M) (Pr.forM l s body) (NxR I) X
  | [], s, env, M, h => .ok ⟨env, rfl, h⟩
  | x :: l, s, env, M, h => by
    obtain ⟨env1, e, hs⟩ := hb x s env M h
    show Sat (match t (enc x) env with
      | none => Out.bad
      | some env1 => (fb env1 M).bind fun fl M1 => match fl with
        | Fl.nx e => forGo t fb (l.map enc) e M1
        | Fl.ct e => forGo t fb (l.map enc) e M1
        | Fl.bk e => Out.ok (Fl.nx e) M1
        | Fl.rt d => Out.ok (Fl.rt d) M1) _ _ X
    rw [e]
    refine hs.bind fun s' fl M1 ⟨env2, z, i⟩ => ?_
    rcases z with z | z
    · rw [z]; exact forGo_sat hb l s' env2 M1 i
    · rw [z]; exact forGo_sat hb l s' env2 M1 i
theorem forGo_fl {t : DG} {fb : DS} {body : β → σ → Pr (FlT σ ρ)} {I : σ → En → Sto → Prop} {R : ρ → D → Sto → Prop} {enc : β → D} (hb : ∀ x s env M, I s env M → ∃ env1, t (enc x) env = some env1 ∧ Sat (fb env1 M) (body x s) (LfR I R) X) :
    ∀ (l : List β) (s : σ) (env : En) (M : Sto), I s env M → Sat (forGo t fb (l.map enc) env M) (Pr.forF l s body) (NfR I R) X
  | [], s, env, M, h => .ok ⟨env, rfl, h⟩
  | x :: l, s, env, M, h => by
    obtain ⟨env1, e, hs⟩ := hb x s env M h
    show Sat (match t (enc x) env with
      | none => Out.bad
      | some env1 => (fb env1 M).bind fun fl M1 => match fl with
        | Fl.nx e => forGo t fb (l.map enc) e M1
        | Fl.ct e => forGo t fb (l.map enc) e M1
        | Fl.bk e => Out.ok (Fl.nx e) M1
        | Fl.rt d => Out.ok (Fl.rt d) M1) _ _ X
    rw [e]
    refine hs.bind fun s' fl M1 z => ?_
    cases s' with
    | nx s2 =>
      obtain ⟨env2, z, i⟩ := z
      rcases z with z | z
      · rw [z]; exact forGo_fl hb l s2 env2 M1 i
      · rw [z]; exact forGo_fl hb l s2 env2 M1 i
    | bk s2 => obtain ⟨env2, z, i⟩ := z; rw [z]; exact .ok ⟨env2, rfl, i⟩
    | rt r => obtain ⟨d, z, i⟩ := z; rw [z]; exact .ok ⟨d, rfl, i⟩
theorem forS_items {t : DG} {fb : DS} (l : List D) : ∀ (f i : Nat) (env : En) (M : Sto), l.length < f + i → i ≤ l.length → forS t fb (.items l) f i env M = forGo t fb (l.drop i) env M
  | 0, i, env, M, h, hi => by omega
  | f + 1, i, env, M, h, hi => by
    by_cases hl : i < l.length
    · rw [List.drop_eq_getElem_cons hl]
      have ih := fun env M => forS_items (t := t) (fb := fb) l f (i + 1) env M (by omega) (by omega)
      unfold forS forGo
      rw [show (Src.items l).at_ i M = some (some l[i]) by show some l[i]? = _; rw [List.getElem?_eq_getElem hl]]
      simp only [ih]
      all_goals rfl
    · have e : i = l.length := by omega
      subst e
      rw [List.drop_length]
      unfold forS forGo
      rw [show (Src.items l).at_ l.length M = some none by show some l[l.length]? = _; simp]
end
end Ip
end
section
set_option Elab.async false
set_option linter.all false
set_option maxRecDepth 100000
set_option maxHeartbeats 1000000
set_option autoImplicit false
namespace Ip
open PySem L2
/-- a small number -/
def sm (n : Int) : Prop := -1000000000 ≤ n ∧ n ≤ 1000000000
theorem in62_sm {n : Int} (h : sm n) : in62 n = true := by
  unfold in62 sm at *
  simp only [Bool.and_eq_true, decide_eq_true_eq]
  omega
theorem in63_sm {n : Int} (h : sm n) : in63 n = true := by
  unfold in63 sm at *
  simp only [Bool.and_eq_true, decide_eq_true_eq]
  omega
def rngI (lo : Int) (n : Nat) : List Int := (List.range n).map fun k => lo + (k : Nat)
theorem rngD_map (lo : Int) (n : Nat) : rngD lo n = (rngI lo n).map D.int := by simp [rngD, rngI]
section
variable {α β γ δ ε σ ρ : Type} {X : Sto → Prop} {env : En} {S : Sto → Prop} {M : Sto}
def IX (fi : DA) (env : En) (S X : Sto → Prop) (p : Pr (List β)) (enc : β → D) : Prop := ∀ M, S M → Sat (fi env M) p (fun l ds M' => ds = l.map enc ∧ S M') X
theorem rng1_v {fe : DE} {n : Int} (h : PV fe env S (.int n)) : IX (dRng1 (dConsA fe dNilA)) env S X (Pr.need (sm n) (Pr.ok (rngI 0 n.toNat))) D.int := fun M hM =>
  .need fun hn => arg_p h hM (arg_nil (by
    show Sat (if in62 n then Out.ok (rngD 0 n.toNat) M else .bad) _ _ _
    rw [in62_sm hn, rngD_map]
    exact .ok ⟨rfl, hM⟩))
theorem rng1_x {fe : DE} {p : Pr Int} (h : PX fe env S X p) : IX (dRng1 (dConsA fe dNilA)) env S X (p.bind fun n => Pr.need (sm n) (Pr.ok (rngI 0 n.toNat))) D.int := fun M hM =>
  arg_e h hM fun n M1 h1 => arg_nil (.need fun hn => by
    show Sat (if in62 n then Out.ok (rngD 0 n.toNat) M1 else .bad) _ _ _
    rw [in62_sm hn, rngD_map]
    exact .ok ⟨rfl, h1⟩)
theorem rng2_v {fe ff : DE} {m n : Int} (h : PV fe env S (.int m)) (h' : PV ff env S (.int n)) : IX (dRng2 (dConsA fe (dConsA ff dNilA))) env S X (Pr.need (sm m ∧ sm n) (Pr.ok (rngI m (n - m).toNat))) D.int := fun M hM =>
  .need fun hn => arg_p h hM (arg_p h' hM (arg_nil (by
    show Sat (if in62 m && in62 n then Out.ok (rngD m (n - m).toNat) M else .bad) _ _ _
    rw [in62_sm hn.1, in62_sm hn.2, rngD_map]
    exact .ok ⟨rfl, hM⟩)))
theorem iter_v {fe : DE} {l : List β} {enc : β → D} (h : PV fe env S (.lst (l.map enc))) : IX (dIter fe) env S X (Pr.ok l) enc := fun M hM => by
  unfold dIter
  rw [h M hM]
  exact .ok ⟨rfl, hM⟩
theorem iter_x [Enc β] {fe : DE} {p : Pr (List β)} (h : PX fe env S X p) : IX (dIter fe) env S X p (en (α := β)) := fun M hM => by
  refine bd_e (k := Pr.ok) h hM (fun l M1 h1 => ?_)
  exact .ok ⟨rfl, h1⟩
theorem for_nx {t : DG} {fi : DA} {fb : DS} {p : Pr (List β)} {enc : β → D} {s : σ} {body : β → σ → Pr σ} {I : σ → En → Sto → Prop} (hi : IX fi env S X p enc) (hM : S M) (h0 : ∀ M, S M → I s env M)
    (hb : ∀ x s env M, I s env M → ∃ env1, t (enc x) env = some env1 ∧ Sat (fb env1 M) (body x s) (LpR I) X) : Sat (dFor t fi fb env M) (p.bind fun l => Pr.forM l s body) (NxR I) X :=
  (hi M hM).bind fun l ds M1 ⟨e, h1⟩ => by rw [e]; exact forGo_sat hb l s env M1 (h0 M1 h1)
theorem for_fl {t : DG} {fi : DA} {fb : DS} {p : Pr (List β)} {enc : β → D} {s : σ} {body : β → σ → Pr (FlT σ ρ)} {I : σ → En → Sto → Prop} {R : ρ → D → Sto → Prop} (hi : IX fi env S X p enc) (hM : S M) (h0 : ∀ M, S M → I s env M)
    (hb : ∀ x s env M, I s env M → ∃ env1, t (enc x) env = some env1 ∧ Sat (fb env1 M) (body x s) (LfR I R) X) : Sat (dFor t fi fb env M) (p.bind fun l => Pr.forF l s body) (NfR I R) X :=
  (hi M hM).bind fun l ds M1 ⟨e, h1⟩ => by rw [e]; exact forGo_fl hb l s env M1 (h0 M1 h1)
/-- lists and enumerate in a for -/
def JX (fi : DI) (env : En) (S X : Sto → Prop) (p : Pr (List β)) (enc : β → D) : Prop := ∀ M, S M → Sat (fi env M) p (fun l src M' => src = .items (l.map enc) ∧ l.length < 20000000 ∧ S M') X
def lim (l : List β) : Pr (List β) := Pr.need (l.length < 20000000) (Pr.ok l)
def enumI (k : Nat) : List β → List (Int × β)
  | [] => []
  | x :: l => ((k : Nat), x) :: enumI (k + 1) l
theorem enumD_map (f : β → D) : ∀ (k : Nat) (l : List β), enumD k (l.map f) = (enumI k l).map fun p => .tup [.int p.1, f p.2]
  | _, [] => rfl
  | k, x :: l => by simp [enumD, enumI, enumD_map f (k + 1) l]
theorem enumI_len : ∀ (k : Nat) (l : List β), (enumI k l).length = l.length
  | _, [] => rfl
  | k, x :: l => by simp [enumI, enumI_len (k + 1) l]
theorem j_enum_x [Enc β] {fe : DE} {p : Pr (List β)} (h : PX fe env S X p) : JX (dEnum2 fe) env S X (p.bind fun l => (lim l).bind fun l => Pr.ok (enumI 0 l)) (en (α := Int × β)) := fun M hM =>
  bd_e h hM fun l M1 h1 => Sat.need (p := Pr.ok (enumI 0 l)) fun hl => by
    show Sat (Out.ok (Src.items (enumD 0 (l.map en))) M1) _ _ _
    rw [enumD_map]
    exact .ok ⟨rfl, by rw [enumI_len]; exact hl, h1⟩
theorem forS_nx {t : DG} {fi : DI} {fb : DS} {p : Pr (List β)} {enc : β → D} {s : σ} {body : β → σ → Pr σ} {I : σ → En → Sto → Prop} (hi : JX fi env S X p enc) (hM : S M) (h0 : ∀ M, S M → I s env M)
    (hb : ∀ x s env M, I s env M → ∃ env1, t (enc x) env = some env1 ∧ Sat (fb env1 M) (body x s) (LpR I) X) : Sat (dForS t fi fb env M) (p.bind fun l => Pr.forM l s body) (NxR I) X :=
  (hi M hM).bind fun l src M1 ⟨e, hl, h1⟩ => by
    rw [e, forS_items _ _ _ _ _ (by simpa using hl) (Nat.zero_le _), List.drop_zero]
    exact forGo_sat hb l s env M1 (h0 M1 h1)
def Pr.lcM : List β → (β → Pr Bool) → (β → Pr γ) → Pr (List γ)
  | [], _, _ => Pr.ok []
  | x :: l, c, g => (c x).bind fun b => if b then (g x).bind fun y => (Pr.lcM l c g).bind fun ys => Pr.ok (y :: ys) else Pr.lcM l c g
theorem lcGo_v {t : DG} {ft : DT} {fe : DE} {enc : β → D} {c : β → Bool} {g : β → D} {env0 : En} (hb : ∀ x, ∃ env1, t (enc x) env0 = some env1 ∧ TV ft env1 S (c x) ∧ PV fe env1 S (g x)) (hM : S M) :
    ∀ (l : List β) (acc : List D), acc.length + l.length ≤ 16777216 → lcGo t ft fe (l.map enc) acc env0 M = .ok (acc ++ (l.filter c).map g) M
  | [], acc, _ => by simp [lcGo]
  | x :: l, acc, h => by
    obtain ⟨env1, e, h1, h2⟩ := hb x
    simp only [List.length_cons] at h
    simp only [List.map_cons, lcGo, e]
    rw [h1 M hM]
    cases hc : c x with
    | false =>
      refine Eq.trans (show _ = lcGo t ft fe (l.map enc) acc env0 M from rfl) ?_
      rw [lcGo_v hb hM l acc (by omega), List.filter_cons_of_neg (by simp [hc])]
    | true =>
      refine Eq.trans (show _ = (noex (fe env1 M)).bind fun y M2 => if acc.length < 16777216 then lcGo t ft fe (l.map enc) (acc ++ [y]) env0 M2 else .bad from rfl) ?_
      rw [h2 M hM]
      show (if acc.length < 16777216 then lcGo t ft fe (l.map enc) (acc ++ [g x]) env0 M else .bad) = _
      rw [if_pos (by omega), lcGo_v hb hM l (acc ++ [g x]) (by simp; omega), List.filter_cons_of_pos (by simp [hc])]
      simp
theorem lc_v {vs : List Nat} {t : DG} {fi : DA} {ft : DT} {fe : DE} {p : Pr (List β)} {enc : β → D} {c : β → Bool} {g : β → γ} [Enc γ] (hi : IX fi env S X p enc) (hb : ∀ x, ∃ env1, t (enc x) (wipeE env vs) = some env1 ∧ TV ft env1 S (c x) ∧ PV fe env1 S (en (g x))) :
    PX (dLc vs t fi ft fe) env S X (p.bind fun l => Pr.need (l.length ≤ 16777216) (Pr.ok ((l.filter c).map g))) := fun M hM =>
  (hi M hM).bind fun l ds M1 ⟨e, h1⟩ => .need fun hl => by
    rw [e, lcGo_v (c := c) (g := fun x => en (g x)) hb h1 l [] (by simpa using hl)]
    exact .ok ⟨by show D.lst _ = D.lst _; simp, h1⟩
theorem lcGo_x [Enc γ] {t : DG} {ft : DT} {fe : DE} {enc : β → D} {c : β → Pr Bool} {g : β → Pr γ} {env0 : En} (hb : ∀ x, ∃ env1, t (enc x) env0 = some env1 ∧ TX ft env1 S NX (c x) ∧ PX fe env1 S NX (g x)) :
    ∀ (l : List β) (acc : List D) (M : Sto), S M → acc.length + l.length ≤ 16777216 → Sat (lcGo t ft fe (l.map enc) acc env0 M) (Pr.lcM l c g) (fun ys ds M' => ds = acc ++ ys.map en ∧ S M') X
  | [], acc, M, hM, _ => .ok ⟨by simp, hM⟩
  | x :: l, acc, M, hM, h => by
    obtain ⟨env1, e, h1, h2⟩ := hb x
    simp only [List.length_cons] at h
    simp only [List.map_cons, lcGo, e]
    refine ((h1 M hM).noex (X := X)).bind fun b d M1 ⟨e1, s1⟩ => ?_
    rw [e1]
    cases b with
    | false => exact lcGo_x hb l acc M1 s1 (by omega)
    | true =>
      refine ((h2 M1 s1).noex (X := X)).bind fun y d M2 ⟨e2, s2⟩ => ?_
      rw [e2]
      show Sat (if acc.length < 16777216 then lcGo t ft fe (l.map enc) (acc ++ [en y]) env0 M2 else .bad) _ _ X
      rw [if_pos (by omega)]
      exact (lcGo_x hb l (acc ++ [en y]) M2 s2 (by simp; omega)).map fun ys ds M3 ⟨e3, s3⟩ => ⟨by rw [e3]; simp, s3⟩
theorem lc_x {vs : List Nat} {t : DG} {fi : DA} {ft : DT} {fe : DE} {p : Pr (List β)} {enc : β → D} {c : β → Pr Bool} {g : β → Pr γ} [Enc γ] (hi : IX fi env S X p enc) (hb : ∀ x, ∃ env1, t (enc x) (wipeE env vs) = some env1 ∧ TX ft env1 S NX (c x) ∧ PX fe env1 S NX (g x)) :
    PX (dLc vs t fi ft fe) env S X (p.bind fun l => Pr.need (l.length ≤ 16777216) (Pr.lcM l c g)) := fun M hM =>
  (hi M hM).bind fun l ds M1 ⟨e, h1⟩ => .need fun hl => by
    rw [e]
    refine Sat.bind (k := Pr.ok) (lcGo_x (X := X) hb l [] M1 h1 (by simpa using hl)) fun ys ds M2 ⟨e2, s2⟩ => ?_
    exact .ok ⟨by rw [e2]; rfl, s2⟩
end
end Ip
end
section
set_option Elab.async false
set_option linter.all false
set_option maxRecDepth 100000
set_option maxHeartbeats 1000000
set_option autoImplicit false
namespace Ip
open PySem L2
class PuS (S : Sto → Prop) : Prop where
  pure : ∀ M, S M → PureS M
class BgS (S : Sto → Prop) : Prop where
  bag : ∀ M, S M → ∃ b K, BagOk b ∧ M = .lst b :: K ∧ PureS K ∧ ∀ b', BagOk b' → S (.lst b' :: K)
def S0 (M0 : Sto) : Sto → Prop := fun M => M = M0 ∧ PureS M0
def SB (G : Sto) : Sto → Prop := fun M => ∃ b, BagOk b ∧ M = .lst b :: G ∧ PureS G
instance (M0 : Sto) : PuS (S0 M0) := ⟨fun M ⟨e, h⟩ => by rw [e]; exact h⟩
theorem pure_bag {b : List D} {G : Sto} (h : BagOk b) (hG : PureS G) : PureS (.lst b :: G) := PureS.app (M := [.lst b]) (.one (bag_closed h)) hG
instance (G : Sto) : PuS (SB G) := ⟨fun M ⟨b, hb, e, h⟩ => by rw [e]; exact pure_bag hb h⟩
instance (G : Sto) : BgS (SB G) := ⟨fun M ⟨b, hb, e, h⟩ => ⟨b, G, hb, e, h, fun b' hb' => ⟨b', hb', rfl, h⟩⟩⟩
instance (N : Nat) (P : Sto → Prop) (cs : List (Nat × Cell)) : PuS (St N P cs) := ⟨fun M h => h.pure⟩
instance (G : Sto) (cs : List (Nat × Cell)) : BgS (St (G.length + 1) (BagP G) cs) := ⟨fun M h => h.bag⟩
section
variable {α β γ δ ε σ ρ : Type} {X : Sto → Prop} {env : En} {S : Sto → Prop} {M : Sto}
theorem callP [PuS S] [Enc α] {F : DF} {ds : List D} {p : Pr α} (h : FP F ds p) (hM : S M) : Sat (Ip.noex (F ds M)) p (relE S) X :=
  ((h M (PuS.pure M hM)).imp fun a d M' ⟨e1, e2⟩ => ⟨e1, by rw [e2]; exact hM⟩).noex
theorem callB [BgS S] [Enc α] {F : DF} {ds : List D} {p : Pr α} (h : FB F ds p) (hM : S M) : Sat (Ip.noex (F (.ref 0 :: ds) M)) p (relE S) X := by
  obtain ⟨b, K, hb, rfl, hK, hs⟩ := BgS.bag (S := S) M hM
  refine ((h b K hb hK).imp fun a d M' ⟨e1, b', hb', e2⟩ => ⟨e1, ?_⟩).noex
  rw [e2]
  exact hs b' hb'
theorem run_p [Enc α] {n m : Nat} {B : DS} {ds : List D} {p : Pr α} {env0 : En} (hl : ds.length = m) (he : ds.map some ++ List.replicate (n - m) none = env0) (h : ∀ M0 M, S0 M0 M → Sat (B env0 M) p (fun a fl M' => fl = .rt (en a) ∧ S0 M0 M') NX) : FP (runF n m B) ds p := fun M hM => by
  unfold runF
  rw [if_pos hl, he]
  refine ⟨fun Q E z => ?_⟩
  refine post_mk_bind (((h M M ⟨rfl, hM⟩).run Q E z).imp (fun fl M1 ⟨a, q, e, s⟩ => ?_) (fun _ _ _ z => z))
  rw [e]
  exact ⟨a, q, rfl, s.1⟩
theorem run_b [Enc α] {n m : Nat} {B : DS} {ds : List D} {p : Pr α} {env0 : En} (hl : ds.length + 1 = m) (he : (D.ref 0 :: ds).map some ++ List.replicate (n - m) none = env0) (h : ∀ G M, SB G M → Sat (B env0 M) p (fun a fl M' => fl = .rt (en a) ∧ SB G M') NX) : FB (runF n m B) ds p := fun b G hb hG => by
  unfold runF
  rw [if_pos (show (D.ref 0 :: ds).length = m from hl), he]
  refine ⟨fun Q E z => ?_⟩
  refine post_mk_bind (((h G _ ⟨b, hb, rfl, hG⟩).run Q E z).imp (fun fl M1 ⟨a, q, e, b', hb', s, _⟩ => ?_) (fun _ _ _ z => z))
  rw [e]
  exact ⟨a, q, rfl, b', hb', s⟩
/-- a def with cells of its own -/
theorem closed_no_ref {d : D} (h : ∀ k, closed k d = true) : ∀ n, d ≠ .ref n := fun n e => by
  have := h 0
  rw [e] at this
  simp [closed] at this
theorem thaw_en [Enc α] (k : Nat) (M : Sto) (a : α) : thaw k M (en a) = some (en a) := by
  have hc : ∀ k, closed k (en a) = true := fun k => Enc.cls a k
  revert hc
  generalize en a = d
  intro hc
  have hn := closed_no_ref hc
  cases d with
  | ref n => exact absurd rfl (hn n)
  | _ => simp only [thaw, hc k, if_true]
variable {rel : α → Fl → Sto → Prop} {N : Nat} {P : Sto → Prop} {cs : List (Nat × Cell)}
end
end Ip
end
section
set_option Elab.async false
set_option linter.all false
set_option maxRecDepth 100000
set_option maxHeartbeats 1000000
set_option autoImplicit false
namespace Ip
open PySem L2
inductive Pc where
  | top (n : Int) | old (a b : Int) | opn (a : Int) | new (a b n : Int)
deriving DecidableEq
def Pc.d : Pc → D
  | .top n => .tup [.str "top", .int n]
  | .old a b => .tup [.str "old", .int a, .int b]
  | .opn a => .tup [.str "old", .int a, .non]
  | .new a b n => .tup [.str "new", .int a, .int b, .int n]
instance : Enc Pc := ⟨Pc.d, fun p k => by cases p <;> simp [Pc.d, closed, closedAll], fun a b h => by
  have w1 : ((Str.ofString "old") = (Str.ofString "new")) = False := by simp only [eq_iff_iff, iff_false]; decide +kernel
  have w2 : ((Str.ofString "new") = (Str.ofString "old")) = False := by simp only [eq_iff_iff, iff_false]; decide +kernel
  cases a <;> cases b <;> simp_all [Pc.d]⟩
instance : NoN Pc := ⟨fun p h => by cases p <;> cases h⟩
namespace Pc
def isTop : Pc → Bool
  | .top _ => true
  | _ => false
def isOld : Pc → Bool
  | .old _ _ => true
  | .opn _ => true
  | _ => false
def isNew : Pc → Bool
  | .new _ _ _ => true
  | _ => false
def f1 : Pc → Int
  | .top n => n
  | .old a _ => a
  | .opn a => a
  | .new a _ _ => a
def f2 : Pc → Pr (Option Int)
  | .top _ => Pr.bad
  | .old _ b => Pr.ok (some b)
  | .opn _ => Pr.ok none
  | .new _ b _ => Pr.ok (some b)
def f3 : Pc → Pr Int
  | .new _ _ n => Pr.ok n
  | _ => Pr.bad
end Pc
theorem w_eq (a b : Str) (M : Sto) : gEq false (.str a) (.str b) M = some (.bl (decide (a = b)), M) := by
  unfold gEq eqD
  simp only [toV, scal, if_true, Option.map_some, V.str.injEq]
  rfl
theorem w_ne (a b : Str) (M : Sto) : gEq true (.str a) (.str b) M = some (.bl (!decide (a = b)), M) := by
  unfold gEq eqD
  simp only [toV, scal, if_true, Option.map_some, V.str.injEq]
theorem geqI (a b : Int) (M : Sto) : gEq false (.int a) (.int b) M = some (.bl (decide (a = b)), M) := by
  unfold gEq eqD
  simp only [toV, scal, if_true, Option.map_some, V.int.injEq]
  rfl
section
variable {α β γ δ ε σ ρ : Type} {X : Sto → Prop} {env : En} {S : Sto → Prop} {M : Sto}
theorem cast_ok [Enc α] [Enc β] {a : α} {b : β} (h : en a = en b) : (cast a : Pr β) = Pr.ok b := by
  funext Q E
  refine propext ⟨fun ⟨c, e, q⟩ => ?_, fun q => ⟨b, h, q⟩⟩
  rw [Enc.inj b c (h.symm.trans e)]; exact q
theorem isNon_some [Enc α] [NoN α] (a : α) : isNon (en a) = false := by
  have := NoN.non a
  revert this
  generalize en a = d
  intro h
  cases d <;> first | rfl | exact absurd rfl h
theorem isNon_opt [Enc α] [NoN α] (o : Option α) : isNon (en o) = o.isNone := by
  cases o with
  | none => rfl
  | some a => exact isNon_some a
theorem is_v [Enc α] [NoN α] {f g : DE} {o : Option α} (h : PV f env S (en o)) (h' : PV g env S .non) : PV (dBin (gIs false) f g) env S (.bl o.isNone) := bin_v h h' fun M _ => by
  show some (D.bl (if false = true then !isNon (en o) else isNon (en o)), M) = _
  rw [isNon_opt]; rfl
theorem ws_tt : decide ((Str.ofString "top") = Str.ofString "top") = true := by decide +kernel
theorem ws_to : decide ((Str.ofString "top") = Str.ofString "old") = false := by decide +kernel
theorem ws_tn : decide ((Str.ofString "top") = Str.ofString "new") = false := by decide +kernel
theorem ws_ot : decide ((Str.ofString "old") = Str.ofString "top") = false := by decide +kernel
theorem ws_oo : decide ((Str.ofString "old") = Str.ofString "old") = true := by decide +kernel
theorem ws_on : decide ((Str.ofString "old") = Str.ofString "new") = false := by decide +kernel
theorem ws_nt : decide ((Str.ofString "new") = Str.ofString "top") = false := by decide +kernel
theorem ws_no : decide ((Str.ofString "new") = Str.ofString "old") = false := by decide +kernel
theorem ws_nn : decide ((Str.ofString "new") = Str.ofString "new") = true := by decide +kernel
theorem ix0 (p : Pc) (M : Sto) : ∃ w : Str, gIx p.d (.int 0) M = some (.str w, M) ∧ decide (w = "top") = p.isTop ∧ decide (w = "old") = p.isOld ∧ decide (w = "new") = p.isNew := by
  cases p with
  | top n => exact ⟨"top", rfl, ws_tt, ws_to, ws_tn⟩
  | old a b => exact ⟨"old", rfl, ws_ot, ws_oo, ws_on⟩
  | opn a => exact ⟨"old", rfl, ws_ot, ws_oo, ws_on⟩
  | new a b n => exact ⟨"new", rfl, ws_nt, ws_no, ws_nn⟩
theorem word_v {f : DE} {p : Pc} (h : PV f env S p.d) : PV (dBin (gEq false) (dBin gIx f (dC (.int 0))) (dC (.str "top"))) env S (.bl p.isTop) ∧ PV (dBin (gEq false) (dBin gIx f (dC (.int 0))) (dC (.str "old"))) env S (.bl p.isOld) ∧ PV (dBin (gEq false) (dBin gIx f (dC (.int 0))) (dC (.str "new"))) env S (.bl p.isNew) := by
  refine ⟨fun M hM => ?_, fun M hM => ?_, fun M hM => ?_⟩
  all_goals
    obtain ⟨w, e, h1, h2, h3⟩ := ix0 p M
    unfold dBin
    rw [h M hM]
    show ((liftM (gIx p.d (.int 0) M)).bind fun x M1 => liftM (gEq false x (.str _) M1)) = _
    rw [e]
    show liftM (gEq false (.str w) (.str _) M) = _
    rw [w_eq]
  · rw [h1]; rfl
  · rw [h2]; rfl
  · rw [h3]; rfl
theorem f1_v {f : DE} {p : Pc} (h : PV f env S p.d) : PV (dBin gIx f (dC (.int 1))) env S (.int p.f1) := bin_v h pv_c fun M _ => by cases p <;> rfl
theorem f2_x {f : DE} {p : Pc} (h : PV f env S p.d) : PX (dBin gIx f (dC (.int 2))) env S X p.f2 := bin_pp h pv_c fun M hM => by
  cases p with
  | top n => exact .bad
  | _ => exact .ok ⟨rfl, hM⟩
theorem f3_x {f : DE} {p : Pc} (h : PV f env S p.d) : PX (dBin gIx f (dC (.int 3))) env S X p.f3 := bin_pp h pv_c fun M hM => by
  cases p with
  | new _ _ n => exact .ok ⟨rfl, hM⟩
  | _ => exact .bad
def LV (f : DE) (env : En) (S : Sto → Prop) (l : List D) : Prop := ∀ M, S M → ∃ x, f env M = .ok x M ∧ asL x M = some l
theorem lv_v {f : DE} {l : List D} (h : PV f env S (.lst l)) : LV f env S l := fun M hM => ⟨_, h M hM, rfl⟩
def idx (l : List α) (i : Int) : Pr α := fun Q _ => ∃ a, atI l i = some a ∧ Q a
theorem atI_map (f : α → β) (l : List α) (i : Int) : atI (l.map f) i = (atI l i).map f := by
  unfold atI
  rw [List.length_map]
  cases ixN l.length i with
  | none => rfl
  | some j => simp
theorem gIx_as {x : D} {l : List D} {i : Int} (h : asL x M = some l) : gIx x (.int i) M = (atI l i).map (·, M) := by
  unfold gIx
  cases x <;> first | (simp only [asL] at h; done) | skip
  all_goals simp only [h]
  all_goals first | (simp only [asL] at h; cases h; done) | (cases hh : atI l i <;> rfl)
theorem ix_l [Enc α] {fa fb : DE} {l : List α} {i : Int} (h : LV fa env S (l.map en)) (h' : PV fb env S (.int i)) : PX (dBin gIx fa fb) env S X (idx l i) := fun M hM => by
  refine ⟨fun Q E ⟨a, ha, q⟩ => ?_⟩
  obtain ⟨x, e, hx⟩ := h M hM
  have e2 : dBin gIx fa fb env M = .ok (en a) M := by
    unfold dBin
    rw [e]
    show (fb env M).bind _ = _
    rw [h' M hM]
    show liftM (gIx x (.int i) M) = _
    rw [gIx_as hx, atI_map, ha]; rfl
  rw [e2]
  exact ⟨a, q, rfl, hM⟩
theorem gLen_as {x : D} {l : List D} (h : asL x M = some l) : gLen [x] M = some (.int (l.length : Nat), M) := by
  unfold gLen
  cases x <;> first | (simp only [asL] at h; cases h; done) | simp only [h]
theorem len_l {fa : DE} {l : List D} (h : LV fa env S l) : PV (dCallB gLen (dConsA fa dNilA)) env S (.int (l.length : Nat)) := fun M hM => by
  obtain ⟨x, e, hx⟩ := h M hM
  unfold dCallB dConsA
  rw [e]
  show liftM (gLen [x] M) = _
  rw [gLen_as hx]; rfl
def OV (f : DO) (env : En) (S : Sto → Prop) (o : Option Int) : Prop := ∀ M, S M → f env M = .ok o M
theorem ov_n : OV dNoPart env S none := fun _ _ => rfl
theorem ov_s {f : DE} {i : Int} (h : PV f env S (.int i)) : OV (dPart f) env S (some i) := fun M hM => by
  unfold dPart; rw [h M hM]; rfl
def cat (a b : List α) : Pr (List α) := Pr.need (a.length + b.length ≤ 16777216) (Pr.ok (a ++ b))
theorem gAdd_as {x y : D} {a b : List D} (h : asL x M = some a) (h' : asL y M = some b) (hl : a.length + b.length ≤ 16777216) : gAdd x y M = some (.lst (a ++ b), M) := by
  have hc : gCat x y M = some (.lst (a ++ b), M) := by
    unfold gCat
    rw [h, h']
    exact if_pos hl
  unfold gAdd
  cases x <;> simp only [asL] at h <;> first | (cases h; done) | skip
  all_goals (cases y <;> simp only [asL] at h' <;> first | (cases h'; done) | skip)
  all_goals simp only [orG, gStr, hc]
theorem gs_cat [Enc α] {a b : List α} : GS S X gAdd (en a) (en b) (cat a b) := fun M hM => .need fun hl => by
  rw [gAdd_as (x := en a) (y := en b) (a := a.map en) (b := b.map en) rfl rfl (by simpa using hl)]
  exact .ok ⟨by show D.lst _ = D.lst _; simp, hM⟩
def rep (l : List α) (k : Int) : Pr (List α) := Pr.need (sm k ∧ l.length * k.toNat ≤ 16777216) (Pr.ok (List.replicate k.toNat l).flatten)
theorem gs_rep [Enc α] {l : List α} {k : Int} : GS S X gMul (en l) (.int k) (rep l k) := fun M hM => .need fun ⟨h1, h2⟩ => by
  have e : gMul (en l) (.int k) M = some (.lst (List.replicate k.toNat (l.map en)).flatten, M) := by
    show gMul (.lst (l.map en)) (.int k) M = _
    unfold gMul orG gIntC gRep
    simp only [asL, in63_sm h1, List.length_map, h2, decide_true, Bool.and_true, if_true]
  rw [e]
  refine .ok ⟨?_, hM⟩
  show D.lst _ = D.lst _
  congr 1
  generalize k.toNat = n
  induction n with
  | zero => rfl
  | succ n ih => rw [List.replicate_succ, List.replicate_succ, List.flatten_cons, List.flatten_cons, List.map_append, ih]
theorem callB_v {g : GC} {fa : DA} {xs : List D} {z : D} (h : AV fa env S xs) (hg : ∀ M, S M → g xs M = some (z, M)) : PV (dCallB g fa) env S z := fun M hM => by
  unfold dCallB
  rw [h M hM]
  show liftM (g xs M) = _
  rw [hg M hM]; rfl
theorem callB_end [Enc γ] {g : GC} {xs : List D} {c : γ} (hM : S M) (hg : ∀ M, S M → g xs M = some (en c, M)) : Sat (liftM (g xs M)) (Pr.ok c) (relE S) X := by
  rw [hg M hM]
  exact .ok ⟨rfl, hM⟩
theorem fld_v {c f : Str} {fe : DE} {ks : List Str} {ds : List D} {z : D} (h : PV fe env S (.obj c ks ds)) (hl : (ks.zip ds).lookup f = some z) : PV (dFld c f fe) env S z := fun M hM => by
  unfold dFld
  rw [h M hM]
  show (match objOf c (.obj c ks ds) M with
    | some (ks, ds) => match (ks.zip ds).lookup f with
      | some d => Out.ok d M
      | none => .bad
    | none => .bad) = _
  rw [show objOf c (.obj c ks ds) M = some (ks, ds) from if_pos rfl]
  simp only [hl]
end
end Ip
namespace Ip
open PySem L2
section
variable {α β γ δ ε σ ρ : Type} {X : Sto → Prop} {env : En} {S : Sto → Prop} {M : Sto}
theorem pv_eq {f : DE} {x y : D} (e : x = y) (h : PV f env S x) : PV f env S y := e ▸ h
theorem len_L [Enc α] {fa : DE} {l : List α} (h : LV fa env S (l.map en)) : PV (dCallB gLen (dConsA fa dNilA)) env S (en ((l.length : Nat) : Int)) := pv_eq (by show D.int _ = D.int _; simp) (len_l h)
class PyT (α : Type) [Enc α] where
  py : α → PyData
  top : ∀ a : α, toPy (en a) = some (py a)
  lay : ∀ a, PyData.canLay0 (py a) = true
  dp : Nat
  dep : ∀ a, PyData.depth (py a) ≤ dp
  eqv : ∀ a b, PyData.eqv (py a) (py b) = true ↔ a = b
  sc : ∀ (a b : α) (v w : V), toV (en a) = some v → toV (en b) = some w → scal v w = true
instance : PyT Int := ⟨.int, fun _ => rfl, fun _ => rfl, 0, fun _ => Nat.le_refl _, fun a b => by simp [PyData.eqv], fun a b v w h1 h2 => by cases h1; cases h2; rfl⟩
instance : PyT Bool := ⟨.bool, fun _ => rfl, fun _ => rfl, 0, fun _ => Nat.le_refl _, fun a b => by simp [PyData.eqv], fun a b v w h1 h2 => by cases h1; cases h2; rfl⟩
theorem toV_non {d : D} {w : V} (h : toV d = some w) : scal .non w = true ∧ scal w .non = true := by
  cases d <;> cases h <;> exact ⟨rfl, rfl⟩
theorem toPys_map [Enc α] [PyT α] : ∀ l : List α, toPys (l.map en) = some (l.map PyT.py)
  | [] => rfl
  | x :: l => by simp [toPys, PyT.top, toPys_map l]
theorem layAll_map [Enc α] [PyT α] : ∀ l : List α, PyData.canLayAll0 (l.map PyT.py) = true
  | [] => rfl
  | x :: l => by simp [PyData.canLayAll0, PyT.lay, layAll_map l]
theorem depAll_map [Enc α] [PyT α] : ∀ l : List α, PyData.depthAll (l.map PyT.py) ≤ PyT.dp α
  | [] => Nat.zero_le _
  | x :: l => by simp only [List.map_cons, PyData.depthAll]; exact Nat.max_le.mpr ⟨PyT.dep x, depAll_map l⟩
theorem eqvAll_map [Enc α] [PyT α] : ∀ l m : List α, PyData.eqvAll (l.map PyT.py) (m.map PyT.py) = true ↔ l = m
  | [], [] => by simp [PyData.eqvAll]
  | [], _ :: _ => by simp [PyData.eqvAll]
  | _ :: _, [] => by simp [PyData.eqvAll]
  | x :: l, y :: m => by simp [PyData.eqvAll, PyT.eqv, eqvAll_map l m]
instance [Enc α] [PyT α] : PyT (List α) := ⟨fun l => .list (l.map PyT.py), fun l => by show (toPys (l.map en)).map _ = _; rw [toPys_map]; rfl, fun l => layAll_map l, PyT.dp α + 1, fun l => Nat.succ_le_succ (depAll_map l), fun a b => eqvAll_map a b, fun a b v w h1 h2 => by cases h1⟩
instance [Enc α] [PyT α] [Enc β] [PyT β] : PyT (α × β) := ⟨fun p => .tuple [PyT.py p.1, PyT.py p.2], fun p => by show (toPys [en p.1, en p.2]).map _ = _; simp [toPys, PyT.top], fun p => by simp [PyData.canLay0, PyData.canLayAll0, PyT.lay], max (PyT.dp α) (PyT.dp β) + 1, fun p => by
    have h1 := PyT.dep p.1
    have h2 := PyT.dep p.2
    simp only [PyData.depth, PyData.depthAll]
    omega, fun a b => by simp [PyData.eqv, PyData.eqvAll, PyT.eqv, Prod.ext_iff], fun a b v w h1 h2 => by cases h1⟩
/-- never equal to None -/
class NoE (α : Type) [Enc α] [PyT α] : Prop where
  l : ∀ a : α, PyData.eqv (PyT.py a) .none = false
  r : ∀ a : α, PyData.eqv .none (PyT.py a) = false
instance : NoE Int := ⟨fun _ => rfl, fun _ => rfl⟩
instance : NoE Bool := ⟨fun _ => rfl, fun _ => rfl⟩
instance [Enc α] [PyT α] : NoE (List α) := ⟨fun _ => rfl, fun _ => rfl⟩
instance [Enc α] [PyT α] [Enc β] [PyT β] : NoE (α × β) := ⟨fun _ => rfl, fun _ => rfl⟩
instance [Enc α] [PyT α] [NoN α] [NoE α] : PyT (Option α) := ⟨fun o => match o with | none => .none | some a => PyT.py a, fun o => by cases o with | none => rfl | some a => exact PyT.top a, fun o => by cases o with | none => rfl | some a => exact PyT.lay a, PyT.dp α, fun o => by cases o with | none => exact Nat.zero_le _ | some a => exact PyT.dep a, fun a b => by
    cases a with
    | none => cases b with
      | none => simp [PyData.eqv]
      | some b => simp [NoE.r]
    | some a => cases b with
      | none => simp [NoE.l]
      | some b => simp [PyT.eqv], fun a b v w h1 h2 => by
    cases a with
    | none => cases h1; exact (toV_non h2).1
    | some a => cases b with
      | none => cases h2; exact (toV_non h1).2
      | some b => exact PyT.sc a b v w h1 h2⟩
/-- of data kinds whose trees lie no deeper than 64 -/
theorem toV_inj {x y : D} {v : V} (h : toV x = some v) (h' : toV y = some v) : x = y := by
  cases x <;> cases h <;> cases y <;> cases h' <;> rfl
theorem eqD_T [Enc α] [PyT α] [DecidableEq α] (a b : α) (M : Sto) (hd : PyT.dp α ≤ 64) : eqD (en a) (en b) M = some (decide (a = b)) := by
  have hp : ∀ c : α, pyM (en c) M = some (PyT.py c) := fun c => by
    have h1 := PyT.top c
    have hn := closed_no_ref (d := en c) fun k => Enc.cls c k
    revert h1 hn
    generalize en c = d
    intro h1 hn
    cases d with
    | ref n => exact absurd rfl (hn n)
    | _ => exact h1
  have hs : ∀ c : α, SeqAt.shaped (PyT.py c) = true := fun c => by
    unfold SeqAt.shaped
    rw [PyT.lay c, Bool.true_and, decide_eq_true_eq]
    exact Nat.le_trans (PyT.dep c) hd
  have he : PyData.eqv (PyT.py a) (PyT.py b) = decide (a = b) := by
    have := PyT.eqv a b
    by_cases h : a = b
    · rw [this.mpr h]; simp [h]
    · cases hh : PyData.eqv (PyT.py a) (PyT.py b) with
      | true => exact absurd (this.mp hh) h
      | false => simp [h]
  unfold eqD
  cases h1 : toV (en a) with
  | none =>
    simp only [hp, hs, Bool.and_self, if_true, he]
  | some v =>
    cases h2 : toV (en b) with
    | none => simp only [hp, hs, Bool.and_self, if_true, he]
    | some w =>
      simp only [PyT.sc a b v w h1 h2, if_true, Option.some.injEq]
      by_cases h : a = b
      · subst h
        rw [h1] at h2
        cases h2
        simp
      · have : v ≠ w := fun e => by subst e; exact h (Enc.inj _ _ (toV_inj h1 h2))
        simp [h, this]
theorem geqT [Enc α] [PyT α] [DecidableEq α] (a b : α) (M : Sto) (hd : PyT.dp α ≤ 64 := by exact Nat.le_of_ble_eq_true rfl) : gEq false (en a) (en b) M = some (en (decide (a = b)), M) := by
  unfold gEq
  rw [eqD_T a b M hd]; rfl
theorem gneT [Enc α] [PyT α] [DecidableEq α] (a b : α) (M : Sto) (hd : PyT.dp α ≤ 64 := by exact Nat.le_of_ble_eq_true rfl) : gEq true (en a) (en b) M = some (en (!decide (a = b)), M) := by
  unfold gEq
  rw [eqD_T a b M hd]; rfl
structure Sq (α : Type) where
  t : Bool
  l : List α
def Sq.cut {α : Type} (q : Sq α) (lo hi : Option Int) : Sq α := ⟨q.t, cutD q.l lo hi⟩
def Sq.d {α : Type} [Enc α] (q : Sq α) : D := match q.t with
  | true => .tup (q.l.map en)
  | false => .lst (q.l.map en)
instance [Enc α] : Enc (Sq α) := ⟨Sq.d, fun q k => by
    obtain ⟨t, l⟩ := q
    cases t <;> exact closedAll_map k l, fun a b h => by
    obtain ⟨t, l⟩ := a
    obtain ⟨t', l'⟩ := b
    cases t <;> cases t' <;> first | (cases h; done) | skip
    · rw [map_inj l l' (D.lst.inj h)]
    · rw [map_inj l l' (D.tup.inj h)]⟩
instance [Enc α] : NoN (Sq α) := ⟨fun q h => by obtain ⟨t, l⟩ := q; cases t <;> cases h⟩
variable {rel : α → Fl → Sto → Prop} {N : Nat} {P : Sto → Prop} {cs : List (Nat × Cell)}
/-- a def of one list, which may be a cell of the caller's -/
def FPL [Enc α] [Enc β] (F : DF) (l : List α) (p : Pr β) : Prop := ∀ M x, PureS M → asL x M = some (l.map en) → Sat (F [x] M) p (fun a d M' => d = en a ∧ M' = M) NX
theorem FPL.fp [Enc α] [Enc β] {F : DF} {l : List α} {p : Pr β} (h : FPL F l p) : FP F [en l] p := fun M hM => h M (en l) hM rfl
end
end Ip
end
section
set_option Elab.async false
set_option linter.all false
set_option maxRecDepth 100000
set_option maxHeartbeats 1000000
set_option autoImplicit false
namespace Ip
open PySem L2
structure Lay where
  parts : List Pc
  starts : List Int
abbrev lks : List Str := ["parts", "starts"]
instance : Enc Lay := ⟨fun l => .obj "Layout" lks [en l.parts, en l.starts], fun l k => by
    show closedAll k [en l.parts, en l.starts] = true
    simp [closedAll, Enc.cls], fun a b h => by
    have h' := (D.obj.inj h).2.2
    simp only [List.cons.injEq, and_true] at h'
    cases a; cases b
    simp only [Lay.mk.injEq]
    exact ⟨Enc.inj _ _ h'.1, Enc.inj _ _ h'.2⟩⟩
instance : NoN Lay := ⟨fun _ h => by cases h⟩
theorem lay_ob {a : Lay} {M : Sto} : objOf "Layout" (en a) M = some (lks, [en a.parts, en a.starts]) := by
  show objOf "Layout" (.obj "Layout" lks [en a.parts, en a.starts]) M = _
  unfold objOf
  exact if_pos rfl
theorem lk_parts (a b : D) : (lks.zip [a, b]).lookup (Str.ofString "parts") = some a := by
  show List.lookup (Str.ofString "parts") [(Str.ofString "parts", a), (Str.ofString "starts", b)] = some a
  have h : (Str.ofString "parts" == Str.ofString "parts") = true := by decide +kernel
  simp [List.lookup, h]
theorem lk_no {m : Str} (h1 : (m == Str.ofString "parts") = false) (h2 : (m == Str.ofString "starts") = false) (a b : D) : (lks.zip [a, b]).lookup m = none := by
  show List.lookup m [(Str.ofString "parts", a), (Str.ofString "starts", b)] = none
  simp [List.lookup, h1, h2]
section
variable {α β γ δ ε σ ρ : Type} {X : Sto → Prop} {env : En} {S : Sto → Prop} {M : Sto}
theorem lay_parts {f : DE} {l : Lay} (h : PV f env S (en l)) : PV (dFld "Layout" "parts" f) env S (en l.parts) := fld_v h (lk_parts _ _)
theorem meth_p {c m : Str} {F : DF} {fo : DE} {fa : DA} {x : D} {ks : List Str} {ds : List D} {P : Pr β} {rel' : β → D → Sto → Prop} (ho : ∀ {M}, objOf c x M = some (ks, ds)) (hl : (ks.zip ds).lookup m = none) (h : PV fo env S x) (hM : S M)
    (hk : Sat ((fa env M).bind fun as M2 => noex (F (x :: as) M2)) P rel' X) : Sat (dMeth c m F fo fa env M) P rel' X := by
  unfold dMeth
  refine bd_p h hM ?_
  show Sat (match objOf c x M with
    | some (ks, ds) => match (ks.zip ds).lookup m with
      | none => (fa env M).bind fun as M2 => noex (F (x :: as) M2)
      | some _ => .bad
    | none => .bad) _ _ _
  rw [ho]
  simp only [hl]
  exact hk
/-- a new object -/
def FM [Enc α] (c : Str) (F : DF) (ds : List D) (p : Pr α) : Prop := ∀ M, PureS M → Sat (kMake c F ds M) p (fun a d M' => d = en a ∧ M' = M) NX
theorem Sat.nx {rel : α → δ → Sto → Prop} {o : Out δ} {p : Pr α} (h : Sat o p rel NX) : Sat o p rel X := ⟨fun Q E z => (h.run Q E z).imp (fun _ _ z => z) (fun _ _ _ z => z.2.elim)⟩
theorem makeP [PuS S] [Enc α] {c : Str} {F : DF} {ds : List D} {p : Pr α} (h : FM c F ds p) (hM : S M) : Sat (kMake c F ds M) p (relE S) X :=
  ((h M (PuS.pure M hM)).imp fun a d M' ⟨e1, e2⟩ => ⟨e1, by rw [e2]; exact hM⟩).nx
mutual
def lkD : Nat → D → Bool
  | 0, _ => false
  | _ + 1, .non => true
  | _ + 1, .bl _ => true
  | _ + 1, .int _ => true
  | _ + 1, .str _ => true
  | k + 1, .tup l => decide (l.length ≤ 1000) && lkDs k l
  | k + 1, .lst l => decide (l.length ≤ 1000) && lkDs k l
  | _ + 1, _ => false
def lkDs : Nat → List D → Bool
  | _, [] => true
  | k, d :: l => lkD k d && lkDs k l
end
def lk [Enc α] [Enc β] (k : Nat) (a : α) (b : β) : Pr Bool := fun Q _ => en a = en b ∧ lkD k (en a) = true ∧ Q true
variable {rel : α → Fl → Sto → Prop}
theorem seq_bag {ns : List Int} {Fb : DF} {g : DS} {i : Nat} {env1 : En} {p : Pr α} (h : ∃ l, Fb [.scr ns] [] = .ok (.ref 0) [.lst l] ∧ BagOk l) (h0 : env[0]? = some (some (.scr ns))) (he : env.set i (some (.ref 0)) = env1) (hk : ∀ M, SB [] M → Sat (g env1 M) p rel X) : Sat (dSeq (dSet i (dCall Fb (dConsA (dVar 0) dNilA))) g env []) p rel X := by
  obtain ⟨l, e, hb⟩ := h
  have e2 : dCall Fb (dConsA (dVar 0) dNilA) env [] = .ok (.ref 0) [.lst l] := by
    unfold dCall dConsA dVar dNilA
    rw [h0]
    show noex (Fb [.scr ns] []) = _
    rw [e]; rfl
  unfold dSeq dSet
  rw [e2]
  subst he
  exact hk _ ⟨l, hb, rfl, PureS.nil⟩
theorem run_law {n : Nat} {B : DS} {ns : List Int} {p : Pr Bool} {env0 : En} {R : Sto → Prop} (he : [some (D.scr ns)] ++ List.replicate (n - 1) none = env0) (h : Sat (B env0 []) p (fun a fl M' => fl = .rt (en a) ∧ R M') NX) (ht : p (fun b => b = true) (fun _ => False)) : ∃ M, runF n 1 B [.scr ns] [] = .ok (.bl true) M := by
  have := h.run _ _ ht
  have e : runF n 1 B [.scr ns] [] = (B env0 []).bind fun fl M1 => match fl with
    | .nx _ => .ok .non M1
    | .rt d => .ok d M1
    | _ => .bad := by
    unfold runF
    rw [if_pos (show [D.scr ns].length = 1 from rfl), ← he]
    rfl
  rw [e]
  cases ho : B env0 [] with
  | bad => rw [ho] at this; exact this.elim
  | exc e v M => rw [ho] at this; exact this.1.elim
  | ok fl M =>
    rw [ho] at this
    obtain ⟨a, ha, h1, _⟩ := this
    subst ha
    rw [h1]
    exact ⟨M, rfl⟩
end
end Ip
namespace Ip
open PySem L2
abbrev Rw := Option (Int × Int)
def pr : Rw → Rw → Prop
  | none, _ => True
  | some _, none => False
  | some x, some y => x.1 ≤ y.1 ∧ x.2 ≤ y.2 ∧ (x.1 = x.2 → y.1 = y.2 → x.1 < y.1)
def okR : Rw → Prop
  | none => True
  | some x => 0 ≤ x.1 ∧ x.1 ≤ x.2
theorem pr_trans {x y z : Rw} (hy : okR y) (h1 : pr x y) (h2 : pr y z) : pr x z := by
  cases x with
  | none => trivial
  | some x =>
    cases y with
    | none => exact h1.elim
    | some y =>
      cases z with
      | none => exact h2.elim
      | some z =>
        obtain ⟨a, b⟩ := x; obtain ⟨c, d⟩ := y; obtain ⟨e, f⟩ := z
        simp only [pr, okR] at *
        omega
theorem idx_nat {α : Type} {l : List α} {i : Nat} (h : i < l.length) : idx l (i : Int) = Pr.ok l[i] := by
  funext Q E
  have e : atI l (i : Int) = some l[i] := by
    unfold atI ixN
    simp [h]
  refine propext ⟨fun ⟨a, ha, q⟩ => ?_, fun q => ⟨l[i], e, q⟩⟩
  rw [e] at ha
  cases ha
  exact q
end Ip
namespace Ip
open PySem L2
end Ip
namespace Ip
open PySem L2
end Ip
namespace Ip
open PySem L2
end Ip
end
section
set_option Elab.async false
set_option linter.all false
set_option maxRecDepth 100000
set_option maxHeartbeats 1000000
set_option autoImplicit false
namespace Ip
open PySem L2
section
variable {α β γ δ ε σ ρ : Type} {X : Sto → Prop} {rel : α → Fl → Sto → Prop} {env : En} {S : Sto → Prop} {M : Sto}
theorem eqO_end [PuS S] {n : Bool} {F : DF} {a b : Lay} {p : Pr Bool} (h : FP F [en a, en b] p) (hM : S M) : Sat (match objOf "Layout" (en a) M, hasTy "Layout" (en b) M with
    | some _, true => (noex (F [en a, en b] M)).bind fun d M3 => match d with
      | .bl b => .ok (.bl (if n then !b else b)) M3
      | _ => .bad
    | _, _ => .bad) (p.bind fun c => Pr.ok (if n then !c else c)) (relE (α := Bool) S) X := by
  have h2 : hasTy "Layout" (en b) M = true := by unfold hasTy; rw [lay_ob]; rfl
  rw [lay_ob, h2]
  refine (callP h hM).bind fun c d M1 ⟨e, s⟩ => ?_
  rw [e]
  exact .ok ⟨rfl, s⟩
theorem eqO_pe [PuS S] {n : Bool} {F : DF} {fa fb : DE} {q : Pr Lay} {a : Lay} {p : Lay → Pr Bool} (h : ∀ b : Lay, FP F [en a, en b] (p b)) (ha : PV fa env S (en a)) (hb : PX fb env S X q) : PX (dEqO "Layout" n F fa fb) env S X (q.bind fun b => (p b).bind fun c => Pr.ok (if n then !c else c)) := fun M hM => by
  unfold dEqO
  exact bd_p ha hM (bd_e hb hM fun b M1 h1 => eqO_end (h b) h1)
theorem eqO_ee [PuS S] {n : Bool} {F : DF} {fa fb : DE} {q r : Pr Lay} {p : Lay → Lay → Pr Bool} (h : ∀ a b : Lay, FP F [en a, en b] (p a b)) (ha : PX fa env S X q) (hb : PX fb env S X r) : PX (dEqO "Layout" n F fa fb) env S X (q.bind fun a => r.bind fun b => (p a b).bind fun c => Pr.ok (if n then !c else c)) := fun M hM => by
  unfold dEqO
  exact bd_e ha hM fun a M1 h1 => bd_e hb h1 fun b M2 h2 => eqO_end (h a b) h2
theorem gs_is [Enc β] [NoN β] {o : Option β} : GS S X (gIs false) (en o) (en ()) (Pr.ok o.isNone) := gs_ok fun M _ => by
  show some (D.bl (if false = true then !isNon (en o) else isNon (en o)), M) = _
  rw [isNon_opt]; rfl
theorem isiL_v {fa : DE} {a : Lay} (h : PV fa env S (en a)) : PV (dUn (gIsiO "Layout") fa) env S (.bl true) := un_v h fun M _ => by
  unfold gIsiO
  rw [lay_ob]
end
def Pc.py : Pc → PyData
  | .top n => .tuple [.str "top", .int n]
  | .old a b => .tuple [.str "old", .int a, .int b]
  | .opn a => .tuple [.str "old", .int a, .none]
  | .new a b n => .tuple [.str "new", .int a, .int b, .int n]
theorem sOkT : PyData.strOk (Str.ofString "top") = true := by decide +kernel
theorem sOkO : PyData.strOk (Str.ofString "old") = true := by decide +kernel
theorem sOkN : PyData.strOk (Str.ofString "new") = true := by decide +kernel
theorem sTO : (Str.ofString "top" == Str.ofString "old") = false := by decide +kernel
theorem sTN : (Str.ofString "top" == Str.ofString "new") = false := by decide +kernel
theorem sOT : (Str.ofString "old" == Str.ofString "top") = false := by decide +kernel
theorem sON : (Str.ofString "old" == Str.ofString "new") = false := by decide +kernel
theorem sNT : (Str.ofString "new" == Str.ofString "top") = false := by decide +kernel
theorem sNO : (Str.ofString "new" == Str.ofString "old") = false := by decide +kernel
instance : PyT Pc := ⟨Pc.py, fun p => by cases p <;> rfl, fun p => by cases p <;> simp [Pc.py, PyData.canLay0, PyData.canLayAll0, sOkT, sOkO, sOkN], 1, fun p => by cases p <;> simp [Pc.py, PyData.depth, PyData.depthAll],
  fun a b => by cases a <;> cases b <;> simp [Pc.py, PyData.eqv, PyData.eqvAll, sTO, sTN, sOT, sON, sNT, sNO], fun a b v w h1 h2 => by cases a <;> cases h1⟩
instance : NoE Pc := ⟨fun p => by cases p <;> rfl, fun p => by cases p <;> rfl⟩
end Ip
end
section
set_option Elab.async false
set_option linter.all false
set_option maxRecDepth 100000
set_option maxHeartbeats 1000000
set_option autoImplicit false
namespace Ip
open PySem L2
section
variable {α β γ δ ε σ ρ : Type} {X S : Sto → Prop} {env : En} {M : Sto} {rel : α → Fl → Sto → Prop}
/-- a def that may raise and leaves the store as it is -/
def FPx [Enc α] (F : DF) (ds : List D) (p : Pr α) : Prop := ∀ M, PureS M → Sat (F ds M) p (fun a d M' => d = en a ∧ M' = M) (fun M' => M' = M)
end
end Ip
end
section
set_option Elab.async false
set_option linter.all false
set_option maxRecDepth 100000
set_option maxHeartbeats 4000000
namespace Ip
open PySem L2
end Ip
end
section
set_option Elab.async false
set_option linter.all false
set_option maxRecDepth 100000
set_option maxHeartbeats 4000000
namespace Ip
open PySem L2
theorem pyM_T {α : Type} [Enc α] [PyT α] (c : α) (M : Sto) : pyM (en c) M = some (PyT.py c) := by
  have h1 := PyT.top c
  have hn := closed_no_ref (d := en c) fun k => Enc.cls c k
  revert h1 hn
  generalize en c = d
  intro h1 hn
  cases d with
  | ref n => exact absurd rfl (hn n)
  | _ => exact h1
theorem shaped_T {α : Type} [Enc α] [PyT α] (c : α) (hd : PyT.dp α ≤ 64) : SeqAt.shaped (PyT.py c) = true := by
  unfold SeqAt.shaped
  rw [PyT.lay c, Bool.true_and, decide_eq_true_eq]
  exact Nat.le_trans (PyT.dep c) hd
theorem eqv_T {α : Type} [Enc α] [PyT α] [DecidableEq α] (a b : α) : PyData.eqv (PyT.py a) (PyT.py b) = decide (a = b) := by
  have := PyT.eqv a b
  by_cases h : a = b
  · rw [this.mpr h]; simp [h]
  · cases hh : PyData.eqv (PyT.py a) (PyT.py b) with
    | true => exact absurd (this.mp hh) h
    | false => simp [h]
def inT {α : Type} [DecidableEq α] (x : α) (l : List α) : Bool := decide (x ∈ l)
theorem any_T {α : Type} [Enc α] [PyT α] [DecidableEq α] (x : α) : ∀ l : List α, anyD (l.map PyT.py) (PyT.py x) = inT x l
  | [] => rfl
  | y :: l => by
    have ih := any_T x l
    unfold anyD inT at ih ⊢
    simp only [List.map_cons, List.any_cons, ih, eqv_T, List.mem_cons]
    by_cases e : y = x
    · simp [e]
    · simp [e, Ne.symm e]
section
variable {α β γ δ ε σ ρ : Type} {X S : Sto → Prop} {env : En} {M : Sto} {N : Nat} {P : Sto → Prop} {cs : List (Nat × Cell)} {rel : α → Fl → Sto → Prop}
theorem inD_of {x y : D} {p : PyData} {qs : List PyData} (hx : pyM x M = some p) (hy : pyM y M = some (.list qs)) (h1 : SeqAt.shaped p = true) (h2 : SeqAt.shaped (.list qs) = true) : inD x y M = some (anyD qs p) := by
  unfold inD
  simp only [hx, hy, h1, h2, Bool.and_self, if_true]
theorem in_vT [Enc β] [PyT β] [DecidableEq β] (b : Bool) {l : List β} {x : β} {fa fb : DE} (hx : PV fa env S (en x)) (hy : PV fb env S (en l)) (hd : PyT.dp β + 1 ≤ 64 := by exact Nat.le_of_ble_eq_true rfl) :
    PV (dBin (gIn b) fa fb) env S (.bl (if b then !inT x l else inT x l)) := bin_v hx hy fun M hM => by
  have e : inD (en x) (en l) M = some (inT x l) := by
    rw [← any_T x l]
    exact inD_of (pyM_T x M) (pyM_T l M) (shaped_T x (by omega)) (shaped_T (α := List β) l (by show PyT.dp β + 1 ≤ 64; omega))
  show (inD (en x) (en l) M).map _ = _
  rw [e]
  rfl
structure Dic (β : Type) where
  l : List (II × β)
theorem pK_inj {a b : II} (h : pK a = pK b) : a = b := by
  unfold pK at h
  simp only [List.cons.injEq, Sum.inl.injEq, and_true] at h
  exact Prod.ext h.1 h.2
def dks (l : List (II × β)) : List (List Key) := l.map fun p => pK p.1
def dvs [Enc β] (l : List (II × β)) : List D := l.map fun p => en p.2
theorem dks_inj [Enc β] : ∀ a b : List (II × β), dks a = dks b → dvs a = dvs b → a = b
  | [], [], _, _ => rfl
  | [], _ :: _, h, _ => by cases h
  | _ :: _, [], h, _ => by cases h
  | x :: a, y :: b, h, h' => by
    simp only [dks, List.map_cons, List.cons.injEq] at h
    simp only [dvs, List.map_cons, List.cons.injEq] at h'
    rw [Prod.ext (pK_inj h.1) (Enc.inj _ _ h'.1), dks_inj a b h.2 h'.2]
theorem closed_dvs [Enc β] (k : Nat) : ∀ l : List (II × β), closedAll k (dvs l) = true
  | [] => rfl
  | x :: l => by
    have ih := closed_dvs k l
    unfold dvs at ih ⊢
    simp [closedAll, Enc.cls x.2 k, ih]
instance [Enc β] : Enc (Dic β) := ⟨fun d => .dT (dks d.l) (dvs d.l), fun d k => by simp only [closed]; exact closed_dvs k d.l, fun a b h => by
  obtain ⟨la⟩ := a
  obtain ⟨lb⟩ := b
  exact congrArg Dic.mk (dks_inj la lb (D.dT.inj h).1 (D.dT.inj h).2)⟩
instance [Enc β] : NoN (Dic β) := ⟨fun _ h => by cases h⟩
end
end Ip
end
section
set_option Elab.async false
set_option linter.all false
set_option maxRecDepth 100000
set_option maxHeartbeats 4000000
namespace Ip
open PySem L2
end Ip
end
section
set_option Elab.async false
set_option linter.all false
set_option maxRecDepth 100000
set_option maxHeartbeats 1000000
namespace Ip
open PySem L2
end Ip
end
section
set_option Elab.async false
set_option linter.all false
set_option maxRecDepth 100000
set_option maxHeartbeats 4000000
namespace Ip
open PySem L2
section
variable {α β γ δ ε σ ρ : Type} {X S : Sto → Prop} {env : En} {M : Sto} {N : Nat} {P : Sto → Prop} {cs : List (Nat × Cell)} {rel : α → Fl → Sto → Prop}
def optP (o : Option α) : Pr α := match o with
  | some a => Pr.ok a
  | none => Pr.bad
end
end Ip
end
section
set_option Elab.async false
set_option linter.all false
set_option maxRecDepth 100000
set_option maxHeartbeats 4000000
namespace Ip
open PySem L2
end Ip
end
section
set_option Elab.async false
set_option linter.all false
set_option maxRecDepth 100000
set_option maxHeartbeats 1000000
set_option autoImplicit false
namespace Ip
open PySem L2
structure Gr where
  rows : Lay
  cols : Lay
abbrev gks : List Str := ["row_layout", "column_layout"]
instance : Enc Gr := ⟨fun l => .obj "Grid" gks [en l.rows, en l.cols], fun l k => by
    show closedAll k [en l.rows, en l.cols] = true
    simp [closedAll, Enc.cls], fun a b h => by
    have h' := (D.obj.inj h).2.2
    simp only [List.cons.injEq, and_true] at h'
    cases a; cases b
    simp only [Gr.mk.injEq]
    exact ⟨Enc.inj _ _ h'.1, Enc.inj _ _ h'.2⟩⟩
instance : NoN Gr := ⟨fun _ h => by cases h⟩
def partC (a b : Str) : Prop := (b.length == 0) = false ∧ a.length ≤ 16777216
section
variable {α β γ δ ε σ ρ : Type} {X : Sto → Prop} {env : En} {S : Sto → Prop} {M : Sto}
theorem part_x {fo fe : DE} {a b : Str} (ho : PV fo env S (.str a)) (he : PV fe env S (.str b)) : PX (dM1 gPart fo fe) env S X (Pr.need (partC a b) (Pr.ok (⟨(Txt.partition a b).1, (Txt.partition a b).2.1, (Txt.partition a b).2.2⟩ : T3 Str Str Str))) := fun M hM => .need fun hc => by
  have e : dM1 gPart fo fe env M = .ok (.tup [.str (Txt.partition a b).1, .str (Txt.partition a b).2.1, .str (Txt.partition a b).2.2]) M := by
    unfold dM1
    rw [ho M hM]
    show Out.bind (fe env M) _ = _
    rw [he M hM]
    show (match gPart a b with | some d => Out.ok d M | none => .bad) = _
    unfold gPart
    rw [if_pos (show (b.length == 0) = false ∧ a.length ≤ 16777216 from hc)]
  rw [e]
  exact .ok ⟨rfl, hM⟩
end
end Ip
end
section
set_option Elab.async false
set_option linter.all false
set_option maxRecDepth 100000
set_option maxHeartbeats 1000000
set_option autoImplicit false
namespace Ip
open PySem L2
end Ip
end
section
set_option Elab.async false
set_option linter.all false
set_option maxRecDepth 100000
set_option maxHeartbeats 1000000
set_option autoImplicit false
namespace Ip
open PySem L2
section
variable {α β γ δ ε σ ρ : Type} {X : Sto → Prop} {env : En} {S : Sto → Prop} {M : Sto}
def seqM (x : D) (M : Sto) : Option (List D) := match x with
  | .tup l => some l
  | x => asL x M
theorem celL_some {c : Option Cell} {l : List D} (h : celL c = some l) : c = some (.lst l) := by
  cases c with
  | none => cases h
  | some c => cases c <;> first | (cases h; rfl) | cases h
theorem seqM_cases {x : D} {l : List D} (h : seqM x M = some l) : x = .lst l ∨ x = .tup l ∨ ∃ n, x = .ref n ∧ M[n]? = some (.lst l) := by
  cases x <;> first | (cases h; done) | skip
  · cases h; exact .inr (.inl rfl)
  · cases h; exact .inl rfl
  · rename_i n
    exact .inr (.inr ⟨n, rfl, celL_some h⟩)
theorem at_lst (l : List β) (enc : β → D) (i : Nat) : (Src.items (l.map enc)).at_ i M = some ((l[i]?).map enc) := by
  show some ((l.map enc)[i]?) = _
  rw [List.getElem?_map]
/-- what a walk over such a value walks -/
theorem iter_H {k : Nat} {x : D} {l : List β} {enc : β → D} {c : Src → Sto → Out ε} (hk : env[k]? = some (some x)) (hx : seqM x M = some (l.map enc)) :
    ∃ src, (dIter2 (dVar k) env M).bind c = c src M ∧ ∀ M' : Sto, seqM x M' = some (l.map enc) → ∀ i : Nat, src.at_ i M' = some ((l[i]?).map enc) := by
  have ev : dVar k env M = .ok x M := by unfold dVar; rw [hk]
  unfold dIter2
  rw [ev]
  rcases seqM_cases hx with rfl | rfl | ⟨n, rfl, hn⟩
  · exact ⟨.items (l.map enc), rfl, fun M' _ i => at_lst l enc i⟩
  · exact ⟨.items (l.map enc), rfl, fun M' _ i => at_lst l enc i⟩
  · refine ⟨.cell n, ?_, fun M' h i => ?_⟩
    · show Out.bind (match (celL M[n]?).map (fun _ => Src.cell n) with
        | some s => Out.ok s M
        | none => .bad) c = _
      rw [hn]
      rfl
    · show (celL M'[n]?).map (fun k => k[i]?) = _
      rw [celL_some (show celL M'[n]? = some (l.map enc) from h)]
      show some ((l.map enc)[i]?) = _
      rw [List.getElem?_map]
/-- a def of such a value -/
def SH (x : D) (l : List D) (M0 : Sto) : Sto → Prop := fun M => M = M0 ∧ PureS M0 ∧ seqM x M0 = some l
instance (x : D) (l : List D) (M0 : Sto) : PuS (SH x l M0) := ⟨fun M h => by rw [h.1]; exact h.2.1⟩
theorem SH.sq {x : D} {l : List D} {M0 : Sto} (h : SH x l M0 M) : seqM x M = some l := by rw [h.1]; exact h.2.2
def FH [Enc β] [Enc α] (F : DF) (ds : D → List D) (l : List β) (p : Pr α) : Prop := ∀ x M, PureS M → seqM x M = some (l.map en) → Sat (F (ds x) M) p (fun a d M' => d = en a ∧ M' = M) NX
def FHx [Enc β] [Enc α] (F : DF) (ds : D → List D) (l : List β) (p : Pr α) : Prop := ∀ x M, PureS M → seqM x M = some (l.map en) → Sat (F (ds x) M) p (fun a d M' => d = en a ∧ M' = M) (fun M' => M' = M)
theorem FH.fp [Enc β] [Enc α] {F : DF} {ds : D → List D} {l : List β} {p : Pr α} (h : FH F ds l p) : FP F (ds (en l)) p := fun M hM => h (en l) M hM rfl
theorem FHx.fp [Enc β] [Enc α] {F : DF} {ds : D → List D} {l : List β} {p : Pr α} (h : FHx F ds l p) : FPx F (ds (en l)) p := fun M hM => h (en l) M hM rfl
theorem run_h [Enc β] [Enc α] {n m : Nat} {B : DS} {ds : D → List D} {l : List β} {p : Pr α} {env0 : D → En} (hl : ∀ x, (ds x).length = m) (he : ∀ x, (ds x).map some ++ List.replicate (n - m) none = env0 x)
    (h : ∀ x M0 M, SH x (l.map en) M0 M → Sat (B (env0 x) M) p (fun a fl M' => fl = .rt (en a) ∧ SH x (l.map en) M0 M') NX) : FH (runF n m B) ds l p := fun x M hM hx => by
  unfold runF
  rw [if_pos (hl x), he]
  refine ⟨fun Q E z => ?_⟩
  refine post_mk_bind (((h x M M ⟨rfl, hM, hx⟩).run Q E z).imp (fun fl M1 ⟨a, q, e, s⟩ => ?_) (fun _ _ _ z => z))
  rw [e]
  exact ⟨a, q, rfl, s.1⟩
end
end Ip
end
section
set_option Elab.async false
set_option linter.all false
set_option maxRecDepth 100000
set_option maxHeartbeats 1000000
set_option autoImplicit false
namespace Ip
open PySem L2
section
variable {α β γ δ ε σ ρ : Type} {X : Sto → Prop} {env : En} {S : Sto → Prop} {M : Sto} {N : Nat} {P : Sto → Prop} {cs : List (Nat × Cell)} {G : Sto}
def tup1 {α : Type} [Enc α] (a : α) : Da := ⟨.tup [en a], fun k => by simp [closed, closedAll, Enc.cls]⟩
end
end Ip
end
section
set_option Elab.async false
set_option linter.all false
set_option maxRecDepth 100000
set_option maxHeartbeats 4000000
set_option autoImplicit false
namespace Ip
open PySem L2
end Ip
end
section
set_option Elab.async false
set_option linter.all false
namespace Ip
open PySem L2
end Ip
end
section
set_option Elab.async false
set_option linter.all false
set_option maxRecDepth 100000
set_option maxHeartbeats 4000000
namespace Ip
open PySem L2
end Ip
end
section
set_option Elab.async false
set_option linter.all false
set_option maxRecDepth 100000
set_option maxHeartbeats 4000000
namespace Ip
open PySem L2
end Ip
end
section
set_option Elab.async false
set_option linter.all false
set_option maxRecDepth 100000
set_option maxHeartbeats 4000000
namespace Ip
open PySem L2
theorem slS_x {S X : Sto → Prop} {env : En} {fe : DE} {fl fh : DO} {a : Str} {lo hi : Option Int} (h : PV fe env S (en a)) (h1 : OV fl env S lo) (h2 : OV fh env S hi) : PX (dSlS fe fl fh) env S X (Pr.need (a.length ≤ 16777216) (Pr.ok (cutS a lo hi))) := fun M hM => by
  refine ⟨fun Q E ⟨hl, q⟩ => ?_⟩
  have e : dSlS fe fl fh env M = .ok (.str (cutS a lo hi)) M := by
    unfold dSlS
    rw [h M hM]
    show ((fl env M).bind fun lo M2 => (fh env M2).bind fun hi M3 => liftM (gSlS (.str a) lo hi M3)) = _
    rw [h1 M hM]
    show ((fh env M).bind fun hi M3 => liftM (gSlS (.str a) lo hi M3)) = _
    rw [h2 M hM]
    show liftM (gSlS (.str a) lo hi M) = _
    unfold gSlS
    simp only [hl, if_true]
    rfl
  rw [e]
  exact ⟨_, q, rfl, hM⟩
end Ip
end
section
set_option Elab.async false
set_option linter.all false
set_option maxRecDepth 100000
set_option maxHeartbeats 4000000
namespace Ip
open PySem L2
def strI (i : Int) : Str := Str.ofString (toString i)
theorem gStrI_v {i : Int} (h : i.natAbs.log2 < 1920) (M : Sto) : gStrI [en i] M = some (en (strI i), M) := if_pos h
section
variable {α β γ δ ε σ ρ : Type} {X : Sto → Prop} {env : En} {S : Sto → Prop} {M : Sto}
theorem jx_nil {acc : Str} : PX (dJs [] acc) env S X (Pr.ok acc) := fun M hM => .ok ⟨rfl, hM⟩
theorem jx_c {fc : DE} {fs : List DE} {acc s : Str} {q : Pr Str} (hc : PV fc env S (en s)) (h : PX (dJs fs (acc ++ s)) env S X q) : PX (dJs (fc :: fs) acc) env S X (Pr.need ((acc ++ s).length ≤ 16777216) q) := fun M hM => .need fun hl => by
  unfold dJs
  refine bd_p hc hM ?_
  show Sat (if (acc ++ s).length ≤ 16777216 then dJs fs (acc ++ s) env M else .bad) _ _ _
  rw [if_pos hl]
  exact h M hM
theorem jx_i {fa : DE} {fs : List DE} {acc : Str} {p : Pr Int} {q : Int → Pr Str} (ha : PX fa env S X p) (h : ∀ i, PX (dJs fs (acc ++ strI i)) env S X (q i)) : PX (dJs (dFmt fa :: fs) acc) env S X (p.bind fun i => Pr.need (i.natAbs.log2 < 1920 ∧ (acc ++ strI i).length ≤ 16777216) (q i)) := fun M hM => by
  unfold dJs dFmt
  refine ⟨fun Q E z => ?_⟩
  refine post_mk_bind (post_mk_bind (((ha M hM).run _ E z).imp (fun d M1 ⟨i, ⟨⟨h1, h2⟩, q⟩, e, s⟩ => ?_) fun _ _ _ z => z))
  rw [e]
  show Out.post (if i.natAbs.log2 < 1920 then Out.ok (D.str (strI i)) M1 else Out.bad) _ _
  rw [if_pos h1]
  show Out.post (if (acc ++ strI i).length ≤ 16777216 then dJs fs (acc ++ strI i) env M1 else .bad) _ _
  rw [if_pos h2]
  exact (h i M1 s).run Q E q
/-- repr() of an own object -/
theorem reprO_xx [PuS S] [Enc β] {c : Str} {F : DF} {fe : DE} {r : Pr β} {q : β → List Str × List D} {p : β → Pr Str} (ho : ∀ (a : β) {M}, objOf c (en a) M = some (q a)) (h : ∀ a, FP F [en a] (p a)) (he : PX fe env S X r) : PX (dReprO c F fe) env S X (r.bind fun a => p a) := fun M hM => by
  unfold dReprO
  refine bd_e he hM fun a M1 h1 => ?_
  show Sat (match objOf c (en a) M1 with
    | some _ => (noex (F [en a] M1)).bind fun (d : D) M2 => (match d with
      | D.str n => Out.ok (D.str n) M2
      | _ => .bad : Out D)
    | none => .bad) _ _ _
  rw [ho a]
  refine ⟨fun Q E z => ?_⟩
  refine post_mk_bind (((callP (h a) h1).run Q _ z).imp (fun d M2 ⟨n, q, e, s⟩ => ?_) fun _ _ _ z => z)
  rw [e]
  exact ⟨n, q, rfl, s⟩
end
end Ip
namespace Ip
open PySem L2
end Ip
end
section
set_option Elab.async false
set_option linter.all false
set_option maxRecDepth 100000
set_option maxHeartbeats 4000000
namespace Ip
open PySem L2
end Ip
end
section
set_option Elab.async false
set_option linter.all false
set_option maxRecDepth 100000
set_option maxHeartbeats 4000000
namespace Ip
open PySem L2
end Ip
end
section
set_option Elab.async false
set_option linter.all false
set_option maxRecDepth 100000
set_option maxHeartbeats 4000000
namespace Ip
open PySem L2
section
variable {α β γ δ ε σ ρ : Type} {X S : Sto → Prop} {env : En} {M : Sto} {N : Nat} {P : Sto → Prop} {cs : List (Nat × Cell)} {rel : α → Fl → Sto → Prop}
theorem lcS_x [Enc γ] {t : DG} {ft : DT} {fe : DE} {src : Src} {l : List β} {enc : β → D} {c : β → Pr Bool} {g : β → Pr γ} {env0 : En} (hI : ∀ M, S M → ∀ i : Nat, src.at_ i M = some ((l[i]?).map enc))
    (hb : ∀ x, ∃ env1, t (enc x) env0 = some env1 ∧ TX ft env1 S NX (c x) ∧ PX fe env1 S NX (g x)) :
    ∀ (f i : Nat) (acc : List D) (M : Sto), S M → i ≤ l.length → l.length - i < f → acc.length + (l.length - i) ≤ 16777216 → Sat (lcS t ft fe src f i acc env0 M) (Pr.lcM (l.drop i) c g) (fun ys ds M' => ds = acc ++ ys.map en ∧ S M') X
  | 0, i, acc, M, _, _, h, _ => by omega
  | f + 1, i, acc, M, hM, hi, hf, hl => by
    unfold lcS
    rw [hI M hM i]
    by_cases hlt : i < l.length
    · obtain ⟨env1, e, h1, h2⟩ := hb l[i]
      rw [List.getElem?_eq_getElem hlt, List.drop_eq_getElem_cons hlt]
      show Sat (match t (enc l[i]) env0 with
        | none => .bad
        | some env1 => (noex (ft env1 M)).bind fun b M1 => if b then (noex (fe env1 M1)).bind fun y M2 => if acc.length < 16777216 then lcS t ft fe src f (i + 1) (acc ++ [y]) env0 M2 else .bad
          else lcS t ft fe src f (i + 1) acc env0 M1) _ _ X
      rw [e]
      refine ((h1 M hM).noex (X := X)).bind fun b d M1 ⟨e1, s1⟩ => ?_
      rw [e1]
      cases b with
      | false => exact lcS_x hI hb f (i + 1) acc M1 s1 (by omega) (by omega) (by omega)
      | true =>
        refine ((h2 M1 s1).noex (X := X)).bind fun y d M2 ⟨e2, s2⟩ => ?_
        rw [e2]
        show Sat (if acc.length < 16777216 then lcS t ft fe src f (i + 1) (acc ++ [en y]) env0 M2 else .bad) _ _ X
        rw [if_pos (by omega)]
        exact (lcS_x hI hb f (i + 1) (acc ++ [en y]) M2 s2 (by omega) (by omega) (by simp; omega)).map fun ys ds M3 ⟨e3, s3⟩ => ⟨by rw [e3]; simp, s3⟩
    · have : i = l.length := by omega
      subst this
      rw [List.getElem?_eq_none (Nat.le_refl _), List.drop_length]
      exact .ok ⟨by simp, hM⟩
theorem lcH_x [Enc γ] {vs : List Nat} {t : DG} {k : Nat} {x : D} {ft : DT} {fe : DE} {l : List β} {enc : β → D} {c : β → Pr Bool} {g : β → Pr γ} (hk : env[k]? = some (some x)) (hI : ∀ M, S M → seqM x M = some (l.map enc))
    (hb : ∀ x, ∃ env1, t (enc x) (wipeE env vs) = some env1 ∧ TX ft env1 S NX (c x) ∧ PX fe env1 S NX (g x)) :
    PX (dLc2 vs t (dIter2 (dVar k)) ft fe) env S X (Pr.need (l.length ≤ 16777216) (Pr.lcM l c g)) := fun M hM => .need fun hl => by
  unfold dLc2
  obtain ⟨src, e, hat⟩ := iter_H (c := fun src M1 => (lcS t ft fe src 20000000 0 [] (wipeE env vs) M1).bind fun l M2 => .ok (D.lst l) M2) hk (hI M hM)
  rw [e]
  refine Sat.bind (k := Pr.ok) (lcS_x (X := X) (l := l) (fun M h => hat M (hI M h)) hb 20000000 0 [] M hM (Nat.zero_le _) (by omega) (by simp; omega)) fun ys ds M2 ⟨e2, s2⟩ => ?_
  exact .ok ⟨by rw [e2]; rfl, s2⟩
end
end Ip
end
section
set_option Elab.async false
set_option linter.all false
set_option maxRecDepth 100000
set_option maxHeartbeats 1000000
set_option autoImplicit false
namespace Ip
open PySem L2
end Ip
end
section
set_option Elab.async false
set_option linter.all false
set_option maxRecDepth 100000
set_option maxHeartbeats 1000000
set_option autoImplicit false
namespace Ip
open PySem L2
end Ip
end
section
set_option Elab.async false
set_option linter.all false
set_option maxRecDepth 100000
set_option maxHeartbeats 1000000
set_option autoImplicit false
namespace Ip
open PySem L2
def Pr.pullB (n : Int) : Pr Int := fun Q _ => 0 < n ∧ n < 1000000000000000000 ∧ ∀ v, 0 ≤ v → v < n → Q v
section
variable {S X : Sto → Prop} {env : En} {α : Type} [Enc α]
theorem isdig_v {fe : DE} {a : Str} (h : PV fe env S (en a)) : PV (dM0 (fun a => .bl (Txt.isdigit a)) fe) env S (en (α := Bool) (Txt.isdigit a)) := fun M hM => by
  unfold dM0
  rw [h M hM]
  rfl
def splOk (a b : Str) : Prop := (b.length == 0) = false ∧ a.length + 2 ≤ 16777216
theorem gSplit_ok {a b : Str} (h : splOk a b) : gSplit a b = some (en (Txt.split a b)) := by
  unfold gSplit
  unfold splOk at h
  rw [if_pos h]
  rfl
theorem split_v {fo fe : DE} {a b : Str} (ho : PV fo env S (en a)) (he : PV fe env S (en b)) : PX (dM1 gSplit fo fe) env S X (Pr.need (splOk a b) (Pr.ok (Txt.split a b))) := fun M hM => .need fun hc => by
  have e : dM1 gSplit fo fe env M = .ok (en (Txt.split a b)) M := by
    unfold dM1
    rw [ho M hM]
    show ((fe env M).bind fun y M2 => _) = _
    rw [he M hM]
    show (match gSplit a b with
      | some d => Out.ok d M
      | none => .bad) = _
    rw [gSplit_ok hc]
  rw [e]
  exact .ok ⟨rfl, hM⟩
theorem strsD_map : ∀ l : List Str, strsD (l.map en) = some l
  | [] => rfl
  | s :: l => by
    show (strsD (l.map en)).map (s :: ·) = _
    rw [strsD_map l]
    rfl
def joiOk (a : Str) (l : List Str) : Prop := (l.map (·.length)).sum + l.length * a.length ≤ 16777216
theorem join_x {fo fe : DE} {a : Str} {p : Pr (List Str)} (ho : PV fo env S (en a)) (he : PX fe env S X p) : PX (dJoin fo fe) env S X (p.bind fun l => Pr.need (joiOk a l) (Pr.ok (Txt.join a l))) := fun M hM => by
  unfold dJoin
  rw [ho M hM]
  show Sat ((fe env M).bind fun y M2 => _) _ _ _
  refine bd_e he hM fun l M1 h1 => .need fun hc => ?_
  show Sat (match strsD (l.map en) with
    | some ys => if (ys.map (·.length)).sum + ys.length * a.length ≤ 16777216 then Out.ok (D.str (Txt.join a ys)) M1 else .bad
    | none => .bad) _ _ _
  rw [strsD_map]
  show Sat (if (l.map (·.length)).sum + l.length * a.length ≤ 16777216 then Out.ok (D.str (Txt.join a l)) M1 else .bad) _ _ _
  unfold joiOk at hc
  rw [if_pos hc]
  exact .ok ⟨rfl, h1⟩
theorem gLenS_v {z : Str} (h : z.length ≤ 16777216) (M : Sto) : gLenS [en z] M = some (en ((z.length : Nat) : Int), M) := by
  show (if z.length ≤ 16777216 then some (D.int (z.length : Nat), M) else none) = _
  rw [if_pos h]
  rfl
theorem gIntT_v {z : Str} {n : Int} (h : z.length ≤ 640) (e : PySem.intText? z = some n) (M : Sto) : gIntT [en z] M = some (en n, M) := by
  show (if z.length ≤ 640 then (PySem.intText? z).map fun n => (D.int n, M) else none) = _
  rw [if_pos h, e]
  rfl
theorem intT_end {z : Str} {M : Sto} (hM : S M) : Sat (liftM (gIntT [en z] M)) (Pr.need (z.length ≤ 640) (optP (PySem.intText? z))) (relE S) X := .need fun hl => by
  refine ⟨fun Q E h => ?_⟩
  cases e : PySem.intText? z with
  | none => rw [e] at h; exact h.elim
  | some n =>
    rw [e] at h
    rw [gIntT_v hl e]
    exact ⟨n, h, rfl, hM⟩
end
end Ip
end
section
set_option Elab.async false
set_option linter.all false
set_option maxRecDepth 100000
set_option maxHeartbeats 1000000
set_option autoImplicit false
namespace Ip
open PySem L2
section
variable {α β γ δ ε σ ρ : Type} {X : Sto → Prop} {rel : α → Fl → Sto → Prop} {env : En} {S : Sto → Prop} {M : Sto}
/-- a, *rest of a list -/
def uncons (l : List β) : Pr (β × List β) := match l with
  | x :: xs => Pr.ok (x, xs)
  | [] => Pr.bad
theorem seq_star [Enc β] {i j : Nat} {fe : DE} {g : DS} {env1 : β × List β → En} {p : Pr (List β)} {k : β × List β → Pr α} (h : PX fe env S X p) (ht : ∀ a : β × List β, (env.set i (some (en a.1))).set j (some (en a.2)) = env1 a) (hM : S M) (hk : ∀ a M1, S M1 → Sat (g (env1 a) M1) (k a) rel X) : Sat (dSeq (dStar i j fe) g env M) ((p.bind uncons).bind k) rel X := by
  unfold dSeq dStar
  rw [bind_assoc, Pr.bind_bind]
  refine bd_e h hM fun l M1 h1 => ?_
  match l with
  | x :: xs =>
    show Sat (g ((env.set i (some (en x))).set j (some (.lst (xs.map en)))) M1) _ rel X
    have := ht (x, xs)
    rw [show (D.lst (xs.map en)) = en xs from rfl, this]
    exact hk (x, xs) M1 h1
  | [] => exact .bad
theorem Sat.noexS {f : DS} {p : Pr α} (h : Sat (f env M) p rel NX) : Sat (noexS f env M) p rel X := ⟨fun Q E z => by
  have h1 := h.run Q E z
  unfold Ip.noexS
  cases e : f env M with
  | ok d M1 => rw [e] at h1; exact h1
  | exc a b c => rw [e] at h1; exact h1.2.elim
  | bad => rw [e] at h1; exact h1⟩
theorem seq_setN [Enc β] {i : Nat} {fe : DE} {g : DS} {p : Pr β} {k : β → Pr α} {env1 : β → En} (he : ∀ a, env.set i (some (en a)) = env1 a) (h : PX fe env S NX p) (hM : S M) (hk : ∀ a M1, S M1 → Sat (g (env1 a) M1) (k a) rel X) : Sat (dSeq (noexS (dSet i fe)) g env M) (p.bind k) rel X := by
  have h1 : Sat (dSet i fe env M) p (fun a fl M1 => fl = .nx (env1 a) ∧ S M1) NX := by
    have h2 := Sat.bind (c := fun d M1 => Out.ok (Fl.nx (env.set i (some d))) M1) (k := fun a => Pr.ok a) (rel' := fun a fl M1 => fl = .nx (env1 a) ∧ S M1) (h M hM) fun a d M1 ⟨e, s⟩ => Sat.ok ⟨by rw [e, he], s⟩
    rw [show p.bind (fun a => Pr.ok a) = p from rfl] at h2
    exact h2
  exact (Sat.noexS h1).bind fun a fl M1 ⟨e, s⟩ => by rw [e]; exact hk a M1 s
theorem makeV_x [Enc β] {i : Nat} {c : Str} {F : DF} {fa : DA} {p : Pr β} (h : PX (dMake c F fa) env S X p) (e : env[i]? = some (some (.cls c)) := by rfl) : PX (dMakeV i c F fa) env S X p := fun M hM => by
  unfold dMakeV
  rw [e]
  show Sat (if c = c then dMake c F fa env M else .bad) _ _ _
  rw [if_pos rfl]
  exact h M hM
theorem setC_eq {i : Nat} {fa : DA} {M : Sto} : dSet i (dLstC fa) env M = (dLst fa env M).bind fun d M1 => match d with
    | .lst xs => .ok (.nx (env.set i (some (.ref M1.length)))) (M1 ++ [Cell.lst xs])
    | _ => .bad := by
  unfold dSet dLstC dLst
  cases fa env M with
  | ok ds M1 =>
    show Out.bind (if ds.length ≤ 16777216 then _ else _) _ = Out.bind (if ds.length ≤ 16777216 then _ else _) _
    split <;> rfl
  | exc a b c => rfl
  | bad => rfl
theorem seq_lstApp [PuS S] [Enc β] {i : Nat} {fa : DA} {fe : DE} {g : DS} {p : Pr (List β)} {x : β} {k : List β → Pr α} {env1 : En → List β → En} (hS : ∀ M M1, S M → S M1 → M1.length = M.length) (h0 : ∀ M, S M → 0 < M.length) (hil : i < env.length)
    (h : PX (dLst fa) env S X p) (hf : ∀ (env' : En) (M : Sto), fe env' M = .ok (en x) M) (hM : S M)
    (he : ∀ (l : List β) (n : Nat) (M2 : Sto), 0 < n → (∀ (l : List Int), thaw n M2 (en l) = some (en l)) → (∀ (l : Int), thaw n M2 (en l) = some (en l)) → thaw n M2 (.ref n) = some (en l) → thawE n M2 (env.set i (some (.ref n))) = env1 (thawE n M2 env) l)
    (hk : ∀ us l M1, S M1 → Sat (g (env1 us l) M1) (k l) rel X) :
    Sat (dThaw2 (dSet i (dLstC fa)) (dDrop (dLm gApp (dVar i) (dConsA fe dNilA))) g env M) (p.bind fun l => Pr.need (l.length < 16777216) (k (l ++ [x]))) rel X := by
  unfold dThaw2
  rw [setC_eq, bind_assoc]
  refine bd_e h hM fun l M1 h1 => .need fun hl => ?_
  have hlen : M1.length = M.length := hS M M1 hM h1
  show Sat (Out.bind (dDrop (dLm gApp (dVar i) (dConsA fe dNilA)) (env.set i (some (.ref M1.length))) (M1 ++ [Cell.lst (l.map en)])) _) _ _ _
  have hget : (M1 ++ [Cell.lst (l.map (en (α := β)))])[M1.length]? = some (.lst (l.map en)) := by simp
  have e3 : dDrop (dLm gApp (dVar i) (dConsA fe dNilA)) (env.set i (some (.ref M1.length))) (M1 ++ [Cell.lst (l.map en)]) = .ok (.nx (env.set i (some (.ref M1.length)))) (M1 ++ [Cell.lst ((l ++ [x]).map en)]) := by
    have e4 : dLm gApp (dVar i) (dConsA fe dNilA) (env.set i (some (.ref M1.length))) (M1 ++ [Cell.lst (l.map en)]) = .ok .non (M1 ++ [Cell.lst ((l ++ [x]).map en)]) := by
      unfold dLm dVar
      rw [List.getElem?_set_self hil]
      show (match asL (.ref M1.length) (M1 ++ [Cell.lst (l.map en)]) with
        | some _ => (dConsA fe dNilA (env.set i (some (.ref M1.length))) (M1 ++ [Cell.lst (l.map en)])).bind fun as M2 => liftM (gApp (.ref M1.length) as M2)
        | none => Out.bad) = _
      simp only [asL, hget]
      unfold dConsA
      rw [hf]
      show liftM (gApp (.ref M1.length) [en x] (M1 ++ [Cell.lst (l.map en)])) = _
      unfold gApp
      show liftM ((setL (.ref M1.length) _ fun l => if l.length < 16777216 then some (l ++ [en x]) else none).map (D.non, ·)) = _
      unfold setL
      simp only [hget]
      rw [List.length_map, if_pos hl]
      show Out.ok _ ((M1 ++ _).set M1.length _) = _
      rw [List.set_append_right _ _ (Nat.le_refl _), Nat.sub_self, List.map_append]
      rfl
    unfold dDrop
    rw [e4]
    rfl
  rw [e3]
  have hp : PureS M1 := PuS.pure M1 h1
  show Sat (if ((M1 ++ [Cell.lst ((l ++ [x]).map (en (α := β)))]).take M.length).all (cellClosed M.length) then g (thawE M.length (M1 ++ [Cell.lst ((l ++ [x]).map en)]) (env.set i (some (.ref M1.length)))) ((M1 ++ [Cell.lst ((l ++ [x]).map en)]).take M.length) else Out.bad) _ _ _
  rw [← hlen, List.take_left, if_pos (hp M1.length)]
  rw [he (l ++ [x]) M1.length _ (h0 M1 h1) (fun s => thaw_en (α := List Int) _ _ s) (fun s => thaw_en (α := Int) _ _ s) (by
    unfold thaw
    simp only [Nat.lt_irrefl, if_false]
    have : (M1 ++ [Cell.lst ((l ++ [x]).map (en (α := β)))])[M1.length]? = some (.lst ((l ++ [x]).map en)) := by simp
    rw [this]
    simp only [closedAll_map, if_true]
    rfl)]
  exact hk _ _ M1 h1
theorem seq_lstAppK [PuS S] [Enc β] {i : Nat} {fa : DA} {fe : DE} {g : DS} {p : Pr (List β)} {x : β} {k : List β → Pr α} {env1 : En → List β → En} (hS : ∀ M M1, S M → S M1 → M1.length = M.length) (h0 : ∀ M, S M → 0 < M.length) (hil : i < env.length)
    (h : PX (dLst fa) env S X p) (hf : ∀ (env' : En) (M : Sto), fe env' M = .ok (en x) M) (hM : S M)
    (he : ∀ (l : List β) (n : Nat) (M2 : Sto), 0 < n → (∀ (l : List Int), thaw n M2 (en l) = some (en l)) → (∀ (l : Int), thaw n M2 (en l) = some (en l)) → thaw n M2 (.ref n) = some (en l) → thawE n M2 (env.set i (some (.ref n))) = env1 (thawE n M2 env) l)
    (hk : ∀ us l M1, S M1 → Sat (g (env1 us l) M1) (k l) rel X) :
    Sat (dThaw2 (dSet i (dLstC fa)) (dDrop (dLm gApp (dVar i) (dConsA fe dNilA))) g env M) ((p.bind fun l => Pr.need (l.length < 16777216) (Pr.ok (l ++ [x]))).bind k) rel X :=
  seq_lstApp hS h0 hil h hf hM he hk
theorem sb_len {G : Sto} : ∀ M M1, SB G M → SB G M1 → M1.length = M.length := fun M M1 ⟨b, _, e, _⟩ ⟨b', _, e', _⟩ => by rw [e, e']; rfl
theorem sb_pos {G : Sto} : ∀ M, SB G M → 0 < M.length := fun M ⟨b, _, e, _⟩ => by rw [e]; exact Nat.succ_pos _
end
end Ip
end
section
set_option Elab.async false
set_option linter.all false
set_option maxRecDepth 100000
set_option maxHeartbeats 4000000
namespace T
open PySem PyProof.Rows L2 Ip
def top (i : Nat) : Stmt := PySem.Challenge.pw_spanrows_k56_whole_layouts_and_their_tex.main.body.getD i (.Pass ⟨0, 0, 0, 0⟩)
abbrev s__law_bag : Stmt := top 38
abbrev s__law_pull : Stmt := top 39
abbrev s__law_of : Stmt := top 40
abbrev s__law_any_rows : Stmt := top 43
abbrev s__law_rolled : Stmt := top 42
abbrev s__law_piece_text : Stmt := top 36
abbrev s__law_layout_text : Stmt := top 37
abbrev s_read_number : Stmt := top 26
abbrev s_read_top : Stmt := top 27
abbrev s_read_old : Stmt := top 28
abbrev s_read_new : Stmt := top 29
abbrev s_read_piece : Stmt := top 30
abbrev s_is_number : Stmt := top 10
abbrev s_are_numbers : Stmt := top 11
abbrev s_is_range : Stmt := top 12
abbrev s_is_piece : Stmt := top 13
abbrev s_is_open : Stmt := top 14
abbrev s_row_count : Stmt := top 19
abbrev s_label_in : Stmt := top 22
abbrev s_first_label : Stmt := top 23
abbrev s_may_follow : Stmt := top 15
abbrev s_first_wrong : Stmt := top 16
abbrev s_joined : Stmt := top 17
abbrev s_normal_form : Stmt := top 18
abbrev s_starts_of : Stmt := top 20
abbrev s_Layout___init__ : Stmt := inClass (top 32) 1
abbrev s_Layout_pieces : Stmt := inClass (top 32) 7
abbrev s_Layout_read : Stmt := inClass (top 32) 3
abbrev s_piece_text : Stmt := top 25
abbrev s_Layout___str__ : Stmt := inClass (top 32) 13
abbrev s_layout_text : Stmt := top 34
abbrev s__law_like : Stmt := top 41
abbrev s_Layout___eq__ : Stmt := inClass (top 32) 10
abbrev s_Layout_plain : Stmt := inClass (top 32) 2
abbrev s_law : Stmt := top 44
set_option genInjectivity false in
set_option genSizeOf false in
structure Txt (K : PySem.W.Frag) (mg : Str → Option Value) where
  b_all : mg "all" = none
  b_bool : mg "bool" = none
  b_enumerate : mg "enumerate" = none
  b_int : mg "int" = none
  b_isinstance : mg "isinstance" = none
  b_len : mg "len" = none
  b_list : mg "list" = none
  b_max : mg "max" = none
  b_range : mg "range" = none
  b_str : mg "str" = none
  b_tuple : mg "tuple" = none
  t_MOST_DIGITS : Tok
  c_MOST_DIGITS : mg "MOST_DIGITS" = some (.int 18 t_MOST_DIGITS)
  p_PLAIN : Addr
  c_PLAIN : mg "PLAIN" = some (.ref p_PLAIN)
  w_PLAIN : ∀ cl H ρ, RV ⟨K, cl⟩ H ρ (.tup [.tup [.str "old", .int 0, .non]]) (.ref p_PLAIN)
  a_Layout : Addr
  mc_Layout : Value
  g_Layout : mg "Layout" = some (.ref a_Layout)
  k_Layout : Cls K a_Layout
  r_Layout : ClX.CRead K a_Layout mc_Layout
  na_Layout_parts : NoAttr K a_Layout "parts"
  na_Layout_starts : NoAttr K a_Layout "starts"
  u_Layout_LIMIT : Value
  v_Layout_LIMIT : ClX.CVal K a_Layout mc_Layout "LIMIT" (.int 60) u_Layout_LIMIT
  a__law_bag : Addr
  d__law_bag : FuncData
  g__law_bag : mg "_law_bag" = some (.ref a__law_bag)
  p__law_bag : PySem.W.keepIn K (.ref a__law_bag) = true
  f__law_bag : Fun K "_law_bag" "_law_bag" s__law_bag a__law_bag d__law_bag
  n__law_bag : Binds K d__law_bag ["_law_script"] []
  a__law_pull : Addr
  d__law_pull : FuncData
  g__law_pull : mg "_law_pull" = some (.ref a__law_pull)
  p__law_pull : PySem.W.keepIn K (.ref a__law_pull) = true
  f__law_pull : Fun K "_law_pull" "_law_pull" s__law_pull a__law_pull d__law_pull
  n__law_pull : Binds K d__law_pull ["_law_bag_here", "_law_size"] []
  a__law_of : Addr
  d__law_of : FuncData
  g__law_of : mg "_law_of" = some (.ref a__law_of)
  p__law_of : PySem.W.keepIn K (.ref a__law_of) = true
  f__law_of : Fun K "_law_of" "_law_of" s__law_of a__law_of d__law_of
  n__law_of : Binds K d__law_of ["_law_bag_here", "_law_some"] []
  a__law_any_rows : Addr
  d__law_any_rows : FuncData
  g__law_any_rows : mg "_law_any_rows" = some (.ref a__law_any_rows)
  p__law_any_rows : PySem.W.keepIn K (.ref a__law_any_rows) = true
  f__law_any_rows : Fun K "_law_any_rows" "_law_any_rows" s__law_any_rows a__law_any_rows d__law_any_rows
  n__law_any_rows : Binds K d__law_any_rows ["_law_bag_here", "_law_most"] []
  a__law_rolled : Addr
  d__law_rolled : FuncData
  g__law_rolled : mg "_law_rolled" = some (.ref a__law_rolled)
  p__law_rolled : PySem.W.keepIn K (.ref a__law_rolled) = true
  f__law_rolled : Fun K "_law_rolled" "_law_rolled" s__law_rolled a__law_rolled d__law_rolled
  n__law_rolled : Binds K d__law_rolled ["_law_rows"] []
  a__law_piece_text : Addr
  d__law_piece_text : FuncData
  g__law_piece_text : mg "_law_piece_text" = some (.ref a__law_piece_text)
  p__law_piece_text : PySem.W.keepIn K (.ref a__law_piece_text) = true
  f__law_piece_text : Fun K "_law_piece_text" "_law_piece_text" s__law_piece_text a__law_piece_text d__law_piece_text
  n__law_piece_text : Binds K d__law_piece_text ["_law_piece"] []
  a__law_layout_text : Addr
  d__law_layout_text : FuncData
  g__law_layout_text : mg "_law_layout_text" = some (.ref a__law_layout_text)
  p__law_layout_text : PySem.W.keepIn K (.ref a__law_layout_text) = true
  f__law_layout_text : Fun K "_law_layout_text" "_law_layout_text" s__law_layout_text a__law_layout_text d__law_layout_text
  n__law_layout_text : Binds K d__law_layout_text ["_law_pieces"] []
  a_read_number : Addr
  d_read_number : FuncData
  g_read_number : mg "read_number" = some (.ref a_read_number)
  p_read_number : PySem.W.keepIn K (.ref a_read_number) = true
  f_read_number : Fun K "read_number" "read_number" s_read_number a_read_number d_read_number
  n_read_number : Binds K d_read_number ["text"] []
  a_read_top : Addr
  d_read_top : FuncData
  g_read_top : mg "read_top" = some (.ref a_read_top)
  p_read_top : PySem.W.keepIn K (.ref a_read_top) = true
  f_read_top : Fun K "read_top" "read_top" s_read_top a_read_top d_read_top
  n_read_top : Binds K d_read_top ["text"] []
  a_read_old : Addr
  d_read_old : FuncData
  g_read_old : mg "read_old" = some (.ref a_read_old)
  p_read_old : PySem.W.keepIn K (.ref a_read_old) = true
  f_read_old : Fun K "read_old" "read_old" s_read_old a_read_old d_read_old
  n_read_old : Binds K d_read_old ["text"] []
  a_read_new : Addr
  d_read_new : FuncData
  g_read_new : mg "read_new" = some (.ref a_read_new)
  p_read_new : PySem.W.keepIn K (.ref a_read_new) = true
  f_read_new : Fun K "read_new" "read_new" s_read_new a_read_new d_read_new
  n_read_new : Binds K d_read_new ["label", "times"] []
  a_read_piece : Addr
  d_read_piece : FuncData
  g_read_piece : mg "read_piece" = some (.ref a_read_piece)
  p_read_piece : PySem.W.keepIn K (.ref a_read_piece) = true
  f_read_piece : Fun K "read_piece" "read_piece" s_read_piece a_read_piece d_read_piece
  n_read_piece : Binds K d_read_piece ["text"] []
  a_is_number : Addr
  d_is_number : FuncData
  g_is_number : mg "is_number" = some (.ref a_is_number)
  p_is_number : PySem.W.keepIn K (.ref a_is_number) = true
  f_is_number : Fun K "is_number" "is_number" s_is_number a_is_number d_is_number
  n_is_number : Binds K d_is_number ["value"] []
  a_are_numbers : Addr
  d_are_numbers : FuncData
  g_are_numbers : mg "are_numbers" = some (.ref a_are_numbers)
  p_are_numbers : PySem.W.keepIn K (.ref a_are_numbers) = true
  f_are_numbers : Fun K "are_numbers" "are_numbers" s_are_numbers a_are_numbers d_are_numbers
  n_are_numbers : Binds K d_are_numbers ["values", "many"] []
  a_is_range : Addr
  d_is_range : FuncData
  g_is_range : mg "is_range" = some (.ref a_is_range)
  p_is_range : PySem.W.keepIn K (.ref a_is_range) = true
  f_is_range : Fun K "is_range" "is_range" s_is_range a_is_range d_is_range
  n_is_range : Binds K d_is_range ["pair"] []
  a_is_piece : Addr
  d_is_piece : FuncData
  g_is_piece : mg "is_piece" = some (.ref a_is_piece)
  p_is_piece : PySem.W.keepIn K (.ref a_is_piece) = true
  f_is_piece : Fun K "is_piece" "is_piece" s_is_piece a_is_piece d_is_piece
  n_is_piece : Binds K d_is_piece ["piece"] []
  a_is_open : Addr
  d_is_open : FuncData
  g_is_open : mg "is_open" = some (.ref a_is_open)
  p_is_open : PySem.W.keepIn K (.ref a_is_open) = true
  f_is_open : Fun K "is_open" "is_open" s_is_open a_is_open d_is_open
  n_is_open : Binds K d_is_open ["piece"] []
  a_row_count : Addr
  d_row_count : FuncData
  g_row_count : mg "row_count" = some (.ref a_row_count)
  p_row_count : PySem.W.keepIn K (.ref a_row_count) = true
  f_row_count : Fun K "row_count" "row_count" s_row_count a_row_count d_row_count
  n_row_count : Binds K d_row_count ["piece"] []
  a_label_in : Addr
  d_label_in : FuncData
  g_label_in : mg "label_in" = some (.ref a_label_in)
  p_label_in : PySem.W.keepIn K (.ref a_label_in) = true
  f_label_in : Fun K "label_in" "label_in" s_label_in a_label_in d_label_in
  n_label_in : Binds K d_label_in ["piece", "offset"] []
  a_first_label : Addr
  d_first_label : FuncData
  g_first_label : mg "first_label" = some (.ref a_first_label)
  p_first_label : PySem.W.keepIn K (.ref a_first_label) = true
  f_first_label : Fun K "first_label" "first_label" s_first_label a_first_label d_first_label
  n_first_label : Binds K d_first_label ["piece"] []
  a_may_follow : Addr
  d_may_follow : FuncData
  g_may_follow : mg "may_follow" = some (.ref a_may_follow)
  p_may_follow : PySem.W.keepIn K (.ref a_may_follow) = true
  f_may_follow : Fun K "may_follow" "may_follow" s_may_follow a_may_follow d_may_follow
  n_may_follow : Binds K d_may_follow ["before", "piece"] []
  a_first_wrong : Addr
  d_first_wrong : FuncData
  g_first_wrong : mg "first_wrong" = some (.ref a_first_wrong)
  p_first_wrong : PySem.W.keepIn K (.ref a_first_wrong) = true
  f_first_wrong : Fun K "first_wrong" "first_wrong" s_first_wrong a_first_wrong d_first_wrong
  n_first_wrong : Binds K d_first_wrong ["pieces"] []
  a_joined : Addr
  d_joined : FuncData
  g_joined : mg "joined" = some (.ref a_joined)
  p_joined : PySem.W.keepIn K (.ref a_joined) = true
  f_joined : Fun K "joined" "joined" s_joined a_joined d_joined
  n_joined : Binds K d_joined ["one", "other"] []
  a_normal_form : Addr
  d_normal_form : FuncData
  g_normal_form : mg "normal_form" = some (.ref a_normal_form)
  p_normal_form : PySem.W.keepIn K (.ref a_normal_form) = true
  f_normal_form : Fun K "normal_form" "normal_form" s_normal_form a_normal_form d_normal_form
  n_normal_form : Binds K d_normal_form ["pieces"] []
  a_starts_of : Addr
  d_starts_of : FuncData
  g_starts_of : mg "starts_of" = some (.ref a_starts_of)
  p_starts_of : PySem.W.keepIn K (.ref a_starts_of) = true
  f_starts_of : Fun K "starts_of" "starts_of" s_starts_of a_starts_of d_starts_of
  n_starts_of : Binds K d_starts_of ["pieces"] []
  a_Layout___init__ : Addr
  d_Layout___init__ : FuncData
  mk_Layout : Mk K a_Layout a_Layout___init__
  p_Layout___init__ : PySem.W.keepIn K (.ref a_Layout___init__) = true
  f_Layout___init__ : Fun K "__init__" "Layout.__init__" s_Layout___init__ a_Layout___init__ d_Layout___init__
  n_Layout___init__ : Binds K d_Layout___init__ ["self", "pieces"] []
  a_Layout_pieces : Addr
  d_Layout_pieces : FuncData
  m_Layout_pieces : Meth K a_Layout "pieces" a_Layout_pieces
  p_Layout_pieces : PySem.W.keepIn K (.ref a_Layout_pieces) = true
  f_Layout_pieces : Fun K "pieces" "Layout.pieces" s_Layout_pieces a_Layout_pieces d_Layout_pieces
  n_Layout_pieces : Binds K d_Layout_pieces ["self"] []
  a_Layout_read : Addr
  d_Layout_read : FuncData
  q_Layout_read : Addr
  cm_Layout_read : ClX.CMet K a_Layout mc_Layout "read" q_Layout_read a_Layout_read
  p_Layout_read : PySem.W.keepIn K (.ref a_Layout_read) = true
  f_Layout_read : Fun K "read" "Layout.read" s_Layout_read a_Layout_read d_Layout_read
  n_Layout_read : Binds K d_Layout_read ["cls", "text"] []
  a_piece_text : Addr
  d_piece_text : FuncData
  g_piece_text : mg "piece_text" = some (.ref a_piece_text)
  p_piece_text : PySem.W.keepIn K (.ref a_piece_text) = true
  f_piece_text : Fun K "piece_text" "piece_text" s_piece_text a_piece_text d_piece_text
  n_piece_text : Binds K d_piece_text ["piece"] []
  a_Layout___str__ : Addr
  d_Layout___str__ : FuncData
  m_Layout___str__ : Meth K a_Layout "__str__" a_Layout___str__
  p_Layout___str__ : PySem.W.keepIn K (.ref a_Layout___str__) = true
  f_Layout___str__ : Fun K "__str__" "Layout.__str__" s_Layout___str__ a_Layout___str__ d_Layout___str__
  n_Layout___str__ : Binds K d_Layout___str__ ["self"] []
  a_layout_text : Addr
  d_layout_text : FuncData
  g_layout_text : mg "layout_text" = some (.ref a_layout_text)
  p_layout_text : PySem.W.keepIn K (.ref a_layout_text) = true
  f_layout_text : Fun K "layout_text" "layout_text" s_layout_text a_layout_text d_layout_text
  n_layout_text : Binds K d_layout_text ["layout"] []
  a__law_like : Addr
  d__law_like : FuncData
  g__law_like : mg "_law_like" = some (.ref a__law_like)
  p__law_like : PySem.W.keepIn K (.ref a__law_like) = true
  f__law_like : Fun K "_law_like" "_law_like" s__law_like a__law_like d__law_like
  n__law_like : Binds K d__law_like ["_law_found", "_law_due"] []
  a_Layout___eq__ : Addr
  d_Layout___eq__ : FuncData
  m_Layout___eq__ : Meth K a_Layout "__eq__" a_Layout___eq__
  p_Layout___eq__ : PySem.W.keepIn K (.ref a_Layout___eq__) = true
  f_Layout___eq__ : Fun K "__eq__" "Layout.__eq__" s_Layout___eq__ a_Layout___eq__ d_Layout___eq__
  n_Layout___eq__ : Binds K d_Layout___eq__ ["self", "other"] []
  a_Layout_plain : Addr
  d_Layout_plain : FuncData
  q_Layout_plain : Addr
  cm_Layout_plain : ClX.CMet K a_Layout mc_Layout "plain" q_Layout_plain a_Layout_plain
  p_Layout_plain : PySem.W.keepIn K (.ref a_Layout_plain) = true
  f_Layout_plain : Fun K "plain" "Layout.plain" s_Layout_plain a_Layout_plain d_Layout_plain
  n_Layout_plain : Binds K d_Layout_plain ["cls"] []
  a_law : Addr
  d_law : FuncData
  g_law : mg "law" = some (.ref a_law)
  p_law : PySem.W.keepIn K (.ref a_law) = true
  f_law : Fun K "law" "law" s_law a_law d_law
  n_law : Binds K d_law ["_law_script"] []
  eo_Layout : EqOwn K a_Layout a_Layout___eq__
  ty_Layout : PySem.W.typeIn K (.ref a_Layout) = some (.type "type")
section
variable {P : Program} {w : World} {K : PySem.W.Frag} {mg : Str → Option Value} {base : Heap}
def Txt.cl (T : Txt K mg) : Str → Option Addr := fun x => if x = "Layout" then some T.a_Layout else none
theorem Txt.cl_Layout (T : Txt K mg) : T.cl "Layout" = some T.a_Layout := rfl
def Txt.lams (T : Txt K mg) : List (Addr × Str) := []
theorem Txt.lam (T : Txt K mg) : ∀ q P, lamQ q = true → T.cl q = some P → (P, q) ∈ T.lams := by
  intro q P h e
  unfold Txt.cl at e
  split at e
  · rename_i z; subst z; exact absurd h (by decide +kernel)
  cases e
theorem sc__law_bag : FnScope ["_law_script", "_law_mix", "_law_figure"] ["_law_script"] (defScope s__law_bag) := ⟨rfl, rfl, rfl, by decide +kernel, rfl, by decide +kernel, by decide +kernel⟩
def B__law_bag : DS := (dSeq (dSet 1 (dC (.int 3804)))
      (dSeq (dForS (tgName 2) (dIter2 (dSl (dVar 0) dNoPart (dPart (dC (.int 63))))) (dSet 1 (dBin gMod (dBin gAdd (dBin gAdd (dBin gMul (dVar 1) (dC (.int 39373))) (dBin gMod (dVar 2) (dC (.int 2147483563)))) (dC (.int 29))) (dC (.int 2147483563)))))
      (dRet (dLstC (dConsA (dCallB gList (dConsA (dSl (dVar 0) dNoPart (dPart (dC (.int 63)))) dNilA)) (dConsA (dC (.int 0)) (dConsA (dC (.int 0)) (dConsA (dVar 1) (dConsA (dC (.int 0)) dNilA)))))))))
def F__law_bag : DF := (runF 3 1 B__law_bag)
theorem ok__law_bag (T : Txt K mg) : FnOk P w K mg base CX0 1 T.a__law_bag T.d__law_bag ["_law_script"] (spD ⟨K, T.cl⟩ F__law_bag) :=
  fnok T.f__law_bag sc__law_bag fun cdv A outer s H E hr =>
    (ss_cons (ss_let 1 sc__law_bag.nd se_int)
      (ss_cons (ss_forS PassesOwn.never rfl (si2_iter (se_slice (se_v 0) so_none (so_some se_int))) (sg_v 2 sc__law_bag.nd) (ss_one (ss_let 1 sc__law_bag.nd (se_mod (se_add (se_add (se_mul (se_v 1) se_int) (se_mod (se_v 2) se_int)) se_int) se_int))))
      (ss_one (ss_ret (se_lstC (sa_cons (se_callTy call_list_of cs_list rfl T.b_list (by decide +kernel) (sa_cons (se_slice (se_v 0) so_none (so_some se_int)) sa_nil)) (sa_cons se_int (sa_cons se_int (sa_cons (se_v 1) (sa_cons se_int sa_nil))))))))))
theorem sc__law_pull : FnScope ["_law_bag_here", "_law_size", "_law_mix", "_law_figure", "_law_found"] ["_law_bag_here", "_law_size"] (defScope s__law_pull) := ⟨rfl, rfl, rfl, by decide +kernel, rfl, by decide +kernel, by decide +kernel⟩
def B__law_pull : DS := (dSeq (dSetIx (dVar 0) (dC (.int 4)) (dBin gAdd (dBin gIx (dVar 0) (dC (.int 4))) (dC (.int 1))))
      (dSeq (dIf (dAnd (dB (dBin (gEq false) (dBin gIx (dVar 0) (dC (.int 2))) (dC (.int 0)))) (dB (dBin gLt (dBin gIx (dVar 0) (dC (.int 1))) (dCallB gLen (dConsA (dBin gIx (dVar 0) (dC (.int 0))) dNilA))))) (dSeq (dSet 3 (dBin gIx (dBin gIx (dVar 0) (dC (.int 0))) (dBin gIx (dVar 0) (dC (.int 1)))))
      (dSeq (dSetIx (dVar 0) (dC (.int 1)) (dBin gAdd (dBin gIx (dVar 0) (dC (.int 1))) (dC (.int 1))))
      (dIf (dB (dBin gGe (dVar 3) (dBin gPow (dC (.int 10)) (dC (.int 18))))) (dSetIx (dVar 0) (dC (.int 2)) (dVar 3)) (dSeq (dSet 2 (dBin gAdd (dBin gMul (dBin gIx (dVar 0) (dC (.int 3))) (dC (.int 48271))) (dBin gMul (dBin gMod (dVar 3) (dC (.int 2147483563))) (dC (.int 69621)))))
      (dSetIx (dVar 0) (dC (.int 3)) (dBin gMod (dBin gAdd (dVar 2) (dC (.int 11))) (dC (.int 2147483563)))))))) dSkip)
      (dSeq (dIf (dB (dBin gGt (dBin gIx (dVar 0) (dC (.int 2))) (dC (.int 0)))) (dSeq (dSet 4 (dBin gMod (dBin gIx (dVar 0) (dC (.int 2))) (dVar 1)))
      (dSeq (dSetIx (dVar 0) (dC (.int 2)) (dBin gDivW (dBin gIx (dVar 0) (dC (.int 2))) (dVar 1)))
      (dRet (dVar 4)))) dSkip)
      (dSeq (dSet 2 (dBin gAdd (dBin gMul (dBin gMul (dBin gIx (dVar 0) (dC (.int 3))) (dBin gIx (dVar 0) (dC (.int 3)))) (dC (.int 5))) (dBin gMul (dBin gIx (dVar 0) (dC (.int 3))) (dC (.int 39373)))))
      (dSeq (dSetIx (dVar 0) (dC (.int 3)) (dBin gMod (dBin gAdd (dVar 2) (dBin gMul (dC (.int 1013904223)) (dBin gIx (dVar 0) (dC (.int 4))))) (dC (.int 2147483563))))
      (dRet (dBin gMod (dBin gDivW (dBin gIx (dVar 0) (dC (.int 3))) (dC (.int 37))) (dVar 1))))))))
def F__law_pull : DF := (runF 5 2 B__law_pull)
theorem ok__law_pull (T : Txt K mg) : FnOk P w K mg base CX0 1 T.a__law_pull T.d__law_pull ["_law_bag_here", "_law_size"] (spD ⟨K, T.cl⟩ F__law_pull) :=
  fnok T.f__law_pull sc__law_pull fun cdv A outer s H E hr =>
    (ss_cons (ss_setIx (se_v 0) se_int (se_add (se_at (se_v 0) se_int) se_int) (pg_sub (se_v 0) se_int set_list))
      (ss_cons (ss_if (SW.st (sw_and (st_eq hr (se_at (se_v 0) se_int) se_int) (sw_and1 (st_lt (se_at (se_v 0) se_int) (se_callB call_len_seq cs_len rfl T.b_len (by decide +kernel) (sa_cons (se_at (se_v 0) se_int) sa_nil)))))) (ss_cons (ss_let 3 sc__law_pull.nd (se_at (se_at (se_v 0) se_int) (se_at (se_v 0) se_int)))
      (ss_cons (ss_setIx (se_v 0) se_int (se_add (se_at (se_v 0) se_int) se_int) (pg_sub (se_v 0) se_int set_list))
      (ss_one (ss_if (st_ge (se_v 3) (se_pow se_int se_int)) (ss_one (ss_setIx (se_v 0) se_int (se_v 3) (pg_sub (se_v 0) se_int set_list))) (ss_cons (ss_let 2 sc__law_pull.nd (se_add (se_mul (se_at (se_v 0) se_int) se_int) (se_mul (se_mod (se_v 3) se_int) se_int)))
      (ss_one (ss_setIx (se_v 0) se_int (se_mod (se_add (se_v 2) se_int) se_int) (pg_sub (se_v 0) se_int set_list)))))))) ss_nil)
      (ss_cons (ss_if (st_gt (se_at (se_v 0) se_int) se_int) (ss_cons (ss_let 4 sc__law_pull.nd (se_mod (se_at (se_v 0) se_int) (se_v 1)))
      (ss_cons (ss_setIx (se_v 0) se_int (se_divW (se_at (se_v 0) se_int) (se_v 1)) (pg_sub (se_v 0) se_int set_list))
      (ss_one (ss_ret (se_v 4))))) ss_nil)
      (ss_cons (ss_let 2 sc__law_pull.nd (se_add (se_mul (se_mul (se_at (se_v 0) se_int) (se_at (se_v 0) se_int)) se_int) (se_mul (se_at (se_v 0) se_int) se_int)))
      (ss_cons (ss_setIx (se_v 0) se_int (se_mod (se_add (se_v 2) (se_mul se_int (se_at (se_v 0) se_int))) se_int) (pg_sub (se_v 0) se_int set_list))
      (ss_one (ss_ret (se_mod (se_divW (se_at (se_v 0) se_int) se_int) (se_v 1)))))))))
theorem sc__law_of : FnScope ["_law_bag_here", "_law_some"] ["_law_bag_here", "_law_some"] (defScope s__law_of) := ⟨rfl, rfl, rfl, by decide +kernel, rfl, by decide +kernel, by decide +kernel⟩
def B__law_of : DS := (dRet (dBin gIx (dVar 1) (dCall F__law_pull (dConsA (dVar 0) (dConsA (dCallB gLen (dConsA (dVar 1) dNilA)) dNilA)))))
def F__law_of : DF := (runF 2 2 B__law_of)
theorem ok__law_of (T : Txt K mg) : FnOk P w K mg base CX0 2 T.a__law_of T.d__law_of ["_law_bag_here", "_law_some"] (spD ⟨K, T.cl⟩ F__law_of) :=
  fnok T.f__law_of sc__law_of fun cdv A outer s H E hr =>
    (ss_one (ss_ret (se_at (se_v 1) (se_call (ok__law_pull T) (hr.mono (by decide)) rfl T.g__law_pull T.p__law_pull T.n__law_pull (sa_cons (se_v 0) (sa_cons (se_callB call_len_seq cs_len rfl T.b_len (by decide +kernel) (sa_cons (se_v 1) sa_nil)) sa_nil))))))
theorem sc__law_any_rows : FnScope ["_law_bag_here", "_law_most", "_law_k", "_law_first", "_law_rows", "_law_low", "_law_high", "_law_last", "_law_row"] ["_law_bag_here", "_law_most"] (defScope s__law_any_rows) := ⟨rfl, rfl, rfl, by decide +kernel, rfl, by decide +kernel, by decide +kernel⟩
def B__law_any_rows : DS := (dSeq (dAsg (tgTup [4, 5, 6, 7]) (dTup (dConsA (dBin gMul (dLst (dConsA (dC .non) dNilA)) (dCall F__law_of (dConsA (dVar 0) (dConsA (dLst (dConsA (dC (.int 0)) (dConsA (dC (.int 0)) (dConsA (dC (.int 1)) (dConsA (dC (.int 3)) dNilA))))) dNilA)))) (dConsA (dC (.int 0)) (dConsA (dC (.int 0)) (dConsA (dUn gNeg (dC (.int 1))) dNilA))))))
      (dSeq (dFor (tgName 2) (dRng1 (dConsA (dCall F__law_pull (dConsA (dVar 0) (dConsA (dBin gAdd (dVar 1) (dC (.int 1))) dNilA))) dNilA)) (dIf (dB (dBin (gEq false) (dCall F__law_pull (dConsA (dVar 0) (dConsA (dC (.int 3)) dNilA))) (dC (.int 0)))) (dSeq (dSet 3 (dBin gAdd (dCallB gMax3 (dConsA (dVar 5) (dConsA (dVar 6) (dConsA (dBin gAdd (dVar 7) (dC (.int 1))) dNilA)))) (dCall F__law_of (dConsA (dVar 0) (dConsA (dLst (dConsA (dC (.int 0)) (dConsA (dC (.int 0)) (dConsA (dC (.int 1)) (dConsA (dC (.int 2)) dNilA))))) dNilA)))))
      (dSeq (dSet 7 (dBin gAdd (dVar 3) (dCall F__law_of (dConsA (dVar 0) (dConsA (dLst (dConsA (dC (.int 0)) (dConsA (dC (.int 0)) (dConsA (dC (.int 1)) (dConsA (dC (.int 2)) dNilA))))) dNilA)))))
      (dSeq (dSet 4 (dBin gAdd (dVar 4) (dLc [8] (tgName 8) (dRng2 (dConsA (dVar 3) (dConsA (dBin gAdd (dVar 7) (dC (.int 1))) dNilA))) dYes (dTup (dConsA (dVar 8) (dConsA (dVar 8) dNilA))))))
      (dPar 5 6 (dConsA (dVar 7) (dConsA (dVar 7) dNilA)))))) (dSeq (dSet 5 (dBin gAdd (dVar 5) (dCall F__law_of (dConsA (dVar 0) (dConsA (dLst (dConsA (dC (.int 0)) (dConsA (dC (.int 0)) (dConsA (dC (.int 1)) (dConsA (dC (.int 2)) dNilA))))) dNilA)))))
      (dSeq (dSet 6 (dBin gAdd (dCallB gMax2 (dConsA (dVar 6) (dConsA (dBin gAdd (dVar 5) (dC (.int 1))) dNilA))) (dCall F__law_of (dConsA (dVar 0) (dConsA (dLst (dConsA (dC (.int 0)) (dConsA (dC (.int 0)) (dConsA (dC (.int 1)) (dConsA (dC (.int 3)) dNilA))))) dNilA)))))
      (dSet 4 (dBin gAdd (dVar 4) (dBin gMul (dLst (dConsA (dTup (dConsA (dVar 5) (dConsA (dVar 6) dNilA))) dNilA)) (dCall F__law_of (dConsA (dVar 0) (dConsA (dLst (dConsA (dC (.int 1)) (dConsA (dC (.int 1)) (dConsA (dC (.int 2)) (dConsA (dC (.int 3)) dNilA))))) dNilA))))))))))
      (dSeq (dSet 3 (dBin gAdd (dCallB gMax3 (dConsA (dVar 5) (dConsA (dVar 6) (dConsA (dBin gAdd (dVar 7) (dC (.int 1))) dNilA)))) (dCall F__law_of (dConsA (dVar 0) (dConsA (dLst (dConsA (dC (.int 0)) (dConsA (dC (.int 0)) (dConsA (dC (.int 1)) (dConsA (dC (.int 2)) dNilA))))) dNilA)))))
      (dRet (dBin gAdd (dVar 4) (dLc [8] (tgName 8) (dRng2 (dConsA (dVar 3) (dConsA (dBin gAdd (dVar 3) (dC (.int 9))) dNilA))) dYes (dTup (dConsA (dVar 8) (dConsA (dVar 8) dNilA)))))))))
def F__law_any_rows : DF := (runF 9 2 B__law_any_rows)
theorem ok__law_any_rows (T : Txt K mg) : FnOk P w K mg base CX0 3 T.a__law_any_rows T.d__law_any_rows ["_law_bag_here", "_law_most"] (spD ⟨K, T.cl⟩ F__law_any_rows) :=
  fnok T.f__law_any_rows sc__law_any_rows fun cdv A outer s H E hr =>
    (ss_cons (ss_asg (se_tup (sa_cons (se_mul (se_lst (sa_cons se_non sa_nil)) (se_call (ok__law_of T) (hr.mono (by decide)) rfl T.g__law_of T.p__law_of T.n__law_of (sa_cons (se_v 0) (sa_cons (se_lst (sa_cons se_int (sa_cons se_int (sa_cons se_int (sa_cons se_int sa_nil))))) sa_nil)))) (sa_cons se_int (sa_cons se_int (sa_cons (se_neg se_int) sa_nil))))) (sg_tup (is := [4, 5, 6, 7]) rfl (pgs_cons (pg_name (i := 4) sc__law_any_rows.nd rfl (by first | exact Or.inl rfl | exact Or.inr rfl)) (pgs_cons (pg_name (i := 5) sc__law_any_rows.nd rfl (by first | exact Or.inl rfl | exact Or.inr rfl)) (pgs_cons (pg_name (i := 6) sc__law_any_rows.nd rfl (by first | exact Or.inl rfl | exact Or.inr rfl)) (pgs_cons (pg_name (i := 7) sc__law_any_rows.nd rfl (by first | exact Or.inl rfl | exact Or.inr rfl)) pgs_nil)))) rfl))
      (ss_cons (ss_for PassesOwn.never rfl (si_range1 rfl T.b_range (sa_cons (se_call (ok__law_pull T) (hr.mono (by decide)) rfl T.g__law_pull T.p__law_pull T.n__law_pull (sa_cons (se_v 0) (sa_cons (se_add (se_v 1) se_int) sa_nil))) sa_nil)) (sg_v 2 sc__law_any_rows.nd) (ss_one (ss_if (st_eq hr (se_call (ok__law_pull T) (hr.mono (by decide)) rfl T.g__law_pull T.p__law_pull T.n__law_pull (sa_cons (se_v 0) (sa_cons se_int sa_nil))) se_int) (ss_cons (ss_let 3 sc__law_any_rows.nd (se_add (se_callB (call_max3Nu rfl) cs_max3 rfl T.b_max (by decide +kernel) (sa_cons (se_v 5) (sa_cons (se_v 6) (sa_cons (se_add (se_v 7) se_int) sa_nil)))) (se_call (ok__law_of T) (hr.mono (by decide)) rfl T.g__law_of T.p__law_of T.n__law_of (sa_cons (se_v 0) (sa_cons (se_lst (sa_cons se_int (sa_cons se_int (sa_cons se_int (sa_cons se_int sa_nil))))) sa_nil)))))
      (ss_cons (ss_let 7 sc__law_any_rows.nd (se_add (se_v 3) (se_call (ok__law_of T) (hr.mono (by decide)) rfl T.g__law_of T.p__law_of T.n__law_of (sa_cons (se_v 0) (sa_cons (se_lst (sa_cons se_int (sa_cons se_int (sa_cons se_int (sa_cons se_int sa_nil))))) sa_nil)))))
      (ss_cons (ss_let 4 sc__law_any_rows.nd (se_add (se_v 4) (se_lc (own := [("_law_row", 8)]) rfl sc__law_any_rows.nd (si_range2 rfl T.b_range (sa_cons (se_v 3) (sa_cons (se_add (se_v 7) se_int) sa_nil))) (blkOk_by (N := ["_law_bag_here", "_law_most", "_law_k", "_law_first", "_law_rows", "_law_low", "_law_high", "_law_last", "_law_row"]) (sc := defScope s__law_any_rows) (by decide +kernel)) (fun _ _ _ _ _ => pg_name (i := 8) sc__law_any_rows.nd rfl (Or.inl rfl)) (tgok_name (by decide)) (fun _ _ _ _ _ => pts_yes) (fun _ _ _ _ _ => (se_tup (sa_cons (se_v 8) (sa_cons (se_v 8) sa_nil)))))))
      (ss_one (ss_par (i := 5) (j := 6) rfl sc__law_any_rows.nd rfl rfl (by decide) rfl rfl (sa_cons (se_v 7) (sa_cons (se_v 7) sa_nil)) (by rfl)))))) (ss_cons (ss_let 5 sc__law_any_rows.nd (se_add (se_v 5) (se_call (ok__law_of T) (hr.mono (by decide)) rfl T.g__law_of T.p__law_of T.n__law_of (sa_cons (se_v 0) (sa_cons (se_lst (sa_cons se_int (sa_cons se_int (sa_cons se_int (sa_cons se_int sa_nil))))) sa_nil)))))
      (ss_cons (ss_let 6 sc__law_any_rows.nd (se_add (se_callB (call_max2 rfl) cs_max2 rfl T.b_max (by decide +kernel) (sa_cons (se_v 6) (sa_cons (se_add (se_v 5) se_int) sa_nil))) (se_call (ok__law_of T) (hr.mono (by decide)) rfl T.g__law_of T.p__law_of T.n__law_of (sa_cons (se_v 0) (sa_cons (se_lst (sa_cons se_int (sa_cons se_int (sa_cons se_int (sa_cons se_int sa_nil))))) sa_nil)))))
      (ss_one (ss_let 4 sc__law_any_rows.nd (se_add (se_v 4) (se_mul (se_lst (sa_cons (se_tup (sa_cons (se_v 5) (sa_cons (se_v 6) sa_nil))) sa_nil)) (se_call (ok__law_of T) (hr.mono (by decide)) rfl T.g__law_of T.p__law_of T.n__law_of (sa_cons (se_v 0) (sa_cons (se_lst (sa_cons se_int (sa_cons se_int (sa_cons se_int (sa_cons se_int sa_nil))))) sa_nil))))))))))))
      (ss_cons (ss_let 3 sc__law_any_rows.nd (se_add (se_callB (call_max3Nu rfl) cs_max3 rfl T.b_max (by decide +kernel) (sa_cons (se_v 5) (sa_cons (se_v 6) (sa_cons (se_add (se_v 7) se_int) sa_nil)))) (se_call (ok__law_of T) (hr.mono (by decide)) rfl T.g__law_of T.p__law_of T.n__law_of (sa_cons (se_v 0) (sa_cons (se_lst (sa_cons se_int (sa_cons se_int (sa_cons se_int (sa_cons se_int sa_nil))))) sa_nil)))))
      (ss_one (ss_ret (se_add (se_v 4) (se_lc (own := [("_law_row", 8)]) rfl sc__law_any_rows.nd (si_range2 rfl T.b_range (sa_cons (se_v 3) (sa_cons (se_add (se_v 3) se_int) sa_nil))) (blkOk_by (N := ["_law_bag_here", "_law_most", "_law_k", "_law_first", "_law_rows", "_law_low", "_law_high", "_law_last", "_law_row"]) (sc := defScope s__law_any_rows) (by decide +kernel)) (fun _ _ _ _ _ => pg_name (i := 8) sc__law_any_rows.nd rfl (Or.inl rfl)) (tgok_name (by decide)) (fun _ _ _ _ _ => pts_yes) (fun _ _ _ _ _ => (se_tup (sa_cons (se_v 8) (sa_cons (se_v 8) sa_nil)))))))))))
theorem sc__law_rolled : FnScope ["_law_rows", "_law_found", "_law_label", "_law_last", "_law_same", "_law_piece", "_law_both"] ["_law_rows"] (defScope s__law_rolled) := ⟨rfl, rfl, rfl, by decide +kernel, rfl, by decide +kernel, by decide +kernel⟩
def B__law_rolled : DS := (dSeq (dSet 1 (dLst dNilA))
      (dSeq (dForS (tgName 2) (dIter2 (dVar 0)) (dSeq (dSet 3 (dIfE (dB (dBin (gEq true) (dVar 1) (dLst dNilA))) (dBin gIx (dVar 1) (dUn gNeg (dC (.int 1)))) (dTup (dConsA (dC (.str "")) (dConsA (dC (.int 0)) (dConsA (dC (.int 0)) (dConsA (dC (.int 0)) dNilA)))))))
      (dSeq (dIf (dB (dBin (gIs false) (dVar 2) (dC .non))) (dSeq (dPar 5 6 (dConsA (dTup (dConsA (dC (.str "top")) (dConsA (dC (.int 1)) dNilA))) (dConsA (dTup (dConsA (dC (.str "top")) (dConsA (dBin gAdd (dBin gIx (dVar 3) (dC (.int 1))) (dC (.int 1))) dNilA))) dNilA)))
      (dSet 4 (dBin (gEq false) (dBin gIx (dVar 3) (dC (.int 0))) (dC (.str "top"))))) (dIf (dB (dBin (gEq false) (dBin gIx (dVar 2) (dC (.int 0))) (dBin gIx (dVar 2) (dC (.int 1))))) (dSeq (dPar 5 6 (dConsA (dTup (dConsA (dC (.str "old")) (dConsA (dBin gIx (dVar 2) (dC (.int 0))) (dConsA (dBin gIx (dVar 2) (dC (.int 0))) dNilA)))) (dConsA (dTup (dConsA (dC (.str "old")) (dConsA (dBin gIx (dVar 3) (dC (.int 1))) (dConsA (dBin gIx (dVar 2) (dC (.int 0))) dNilA)))) dNilA)))
      (dSet 4 (dAndV (dBin (gEq false) (dBin gIx (dVar 3) (dC (.int 0))) (dC (.str "old"))) (dBin (gEq false) (dBin gAdd (dBin gIx (dVar 3) (dC (.int 2))) (dC (.int 1))) (dBin gIx (dVar 2) (dC (.int 0))))))) (dSeq (dPar 5 6 (dConsA (dTup (dConsA (dC (.str "new")) (dConsA (dBin gIx (dVar 2) (dC (.int 0))) (dConsA (dBin gIx (dVar 2) (dC (.int 1))) (dConsA (dC (.int 1)) dNilA))))) (dConsA (dTup (dConsA (dC (.str "new")) (dConsA (dBin gIx (dVar 2) (dC (.int 0))) (dConsA (dBin gIx (dVar 2) (dC (.int 1))) (dConsA (dBin gAdd (dBin gIx (dVar 3) (dUn gNeg (dC (.int 1)))) (dC (.int 1))) dNilA))))) dNilA)))
      (dSet 4 (dBin (gEq false) (dSl (dVar 3) dNoPart (dPart (dC (.int 3)))) (dSl (dVar 5) dNoPart (dPart (dC (.int 3)))))))))
      (dSet 1 (dIfE (dTru (dVar 4)) (dBin gAdd (dSl (dVar 1) dNoPart (dPart (dUn gNeg (dC (.int 1))))) (dLst (dConsA (dVar 6) dNilA))) (dBin gAdd (dVar 1) (dLst (dConsA (dVar 5) dNilA))))))))
      (dRet (dBin gAdd (dSl (dVar 1) dNoPart (dPart (dUn gNeg (dC (.int 1))))) (dLst (dConsA (dTup (dConsA (dC (.str "old")) (dConsA (dBin gIx (dBin gIx (dVar 1) (dUn gNeg (dC (.int 1)))) (dC (.int 1))) (dConsA (dC .non) dNilA)))) dNilA))))))
def F__law_rolled : DF := (runF 7 1 B__law_rolled)
theorem ok__law_rolled (T : Txt K mg) : FnOk P w K mg base CX0 1 T.a__law_rolled T.d__law_rolled ["_law_rows"] (spD ⟨K, T.cl⟩ F__law_rolled) :=
  fnok T.f__law_rolled sc__law_rolled fun cdv A outer s H E hr =>
    (ss_cons (ss_let 1 sc__law_rolled.nd (se_lst sa_nil))
      (ss_cons (ss_forS PassesOwn.never rfl (si2_iter (se_v 0)) (sg_v 2 sc__law_rolled.nd) (ss_cons (ss_let 3 sc__law_rolled.nd (se_if (st_ne hr (se_v 1) (se_lst sa_nil)) (se_at (se_v 1) (se_neg se_int)) (se_tup (sa_cons se_str (sa_cons se_int (sa_cons se_int (sa_cons se_int sa_nil)))))))
      (ss_cons (ss_if (st_is (se_v 2) se_non) (ss_cons (ss_par (i := 5) (j := 6) rfl sc__law_rolled.nd rfl rfl (by decide) rfl rfl (sa_cons (se_tup (sa_cons se_str (sa_cons se_int sa_nil))) (sa_cons (se_tup (sa_cons se_str (sa_cons (se_add (se_at (se_v 3) se_int) se_int) sa_nil))) sa_nil)) (by rfl))
      (ss_one (ss_let 4 sc__law_rolled.nd (se_eq hr (se_at (se_v 3) se_int) se_str)))) (ss_one (ss_if (st_eq hr (se_at (se_v 2) se_int) (se_at (se_v 2) se_int)) (ss_cons (ss_par (i := 5) (j := 6) rfl sc__law_rolled.nd rfl rfl (by decide) rfl rfl (sa_cons (se_tup (sa_cons se_str (sa_cons (se_at (se_v 2) se_int) (sa_cons (se_at (se_v 2) se_int) sa_nil)))) (sa_cons (se_tup (sa_cons se_str (sa_cons (se_at (se_v 3) se_int) (sa_cons (se_at (se_v 2) se_int) sa_nil)))) sa_nil)) (by rfl))
      (ss_one (ss_let 4 sc__law_rolled.nd (se_and (se_eq hr (se_at (se_v 3) se_int) se_str) (se_one (se_eq hr (se_add (se_at (se_v 3) se_int) se_int) (se_at (se_v 2) se_int))))))) (ss_cons (ss_par (i := 5) (j := 6) rfl sc__law_rolled.nd rfl rfl (by decide) rfl rfl (sa_cons (se_tup (sa_cons se_str (sa_cons (se_at (se_v 2) se_int) (sa_cons (se_at (se_v 2) se_int) (sa_cons se_int sa_nil))))) (sa_cons (se_tup (sa_cons se_str (sa_cons (se_at (se_v 2) se_int) (sa_cons (se_at (se_v 2) se_int) (sa_cons (se_add (se_at (se_v 3) (se_neg se_int)) se_int) sa_nil))))) sa_nil)) (by rfl))
      (ss_one (ss_let 4 sc__law_rolled.nd (se_eq hr (se_slice (se_v 3) so_none (so_some se_int)) (se_slice (se_v 5) so_none (so_some se_int)))))))))
      (ss_one (ss_let 1 sc__law_rolled.nd (se_if (st_val (se_v 4)) (se_add (se_slice (se_v 1) so_none (so_some (se_neg se_int))) (se_lst (sa_cons (se_v 6) sa_nil))) (se_add (se_v 1) (se_lst (sa_cons (se_v 5) sa_nil)))))))))
      (ss_one (ss_ret (se_add (se_slice (se_v 1) so_none (so_some (se_neg se_int))) (se_lst (sa_cons (se_tup (sa_cons se_str (sa_cons (se_at (se_at (se_v 1) (se_neg se_int)) se_int) (sa_cons se_non sa_nil)))) sa_nil)))))))
theorem sc__law_piece_text : FnScope ["_law_piece"] ["_law_piece"] (defScope s__law_piece_text) := ⟨rfl, rfl, rfl, by decide +kernel, rfl, by decide +kernel, by decide +kernel⟩
def B__law_piece_text : DS := (dSeq (dIf (dB (dBin (gEq false) (dBin gIx (dVar 0) (dC (.int 0))) (dC (.str "top")))) (dRet (dBin gAdd (dC (.str "top ")) (dCallB gStrI (dConsA (dBin gIx (dVar 0) (dC (.int 1))) dNilA)))) dSkip)
      (dSeq (dIf (dB (dBin (gEq false) (dBin gIx (dVar 0) (dC (.int 0))) (dC (.str "new")))) (dRet (dBin gAdd (dBin gAdd (dBin gAdd (dBin gAdd (dBin gAdd (dC (.str "new ")) (dCallB gStrI (dConsA (dBin gIx (dVar 0) (dC (.int 1))) dNilA))) (dC (.str "-"))) (dCallB gStrI (dConsA (dBin gIx (dVar 0) (dC (.int 2))) dNilA))) (dC (.str " x"))) (dCallB gStrI (dConsA (dBin gIx (dVar 0) (dC (.int 3))) dNilA)))) dSkip)
      (dSeq (dIf (dB (dBin (gIs false) (dBin gIx (dVar 0) (dC (.int 2))) (dC .non))) (dRet (dBin gAdd (dBin gAdd (dC (.str "old ")) (dCallB gStrI (dConsA (dBin gIx (dVar 0) (dC (.int 1))) dNilA))) (dC (.str "-")))) dSkip)
      (dRet (dBin gAdd (dBin gAdd (dC (.str "old ")) (dCallB gStrI (dConsA (dBin gIx (dVar 0) (dC (.int 1))) dNilA))) (dIfE (dB (dBin (gEq false) (dBin gIx (dVar 0) (dC (.int 1))) (dBin gIx (dVar 0) (dC (.int 2))))) (dC (.str "")) (dBin gAdd (dC (.str "-")) (dCallB gStrI (dConsA (dBin gIx (dVar 0) (dC (.int 2))) dNilA)))))))))
def F__law_piece_text : DF := (runF 1 1 B__law_piece_text)
theorem ok__law_piece_text (T : Txt K mg) : FnOk P w K mg base CX0 1 T.a__law_piece_text T.d__law_piece_text ["_law_piece"] (spD ⟨K, T.cl⟩ F__law_piece_text) :=
  fnok T.f__law_piece_text sc__law_piece_text fun cdv A outer s H E hr =>
    (ss_cons (ss_if (st_eq hr (se_at (se_v 0) se_int) se_str) (ss_one (ss_ret (se_add se_str (se_callTy call_str_int cs_str rfl T.b_str (by decide +kernel) (sa_cons (se_at (se_v 0) se_int) sa_nil))))) ss_nil)
      (ss_cons (ss_if (st_eq hr (se_at (se_v 0) se_int) se_str) (ss_one (ss_ret (se_add (se_add (se_add (se_add (se_add se_str (se_callTy call_str_int cs_str rfl T.b_str (by decide +kernel) (sa_cons (se_at (se_v 0) se_int) sa_nil))) se_str) (se_callTy call_str_int cs_str rfl T.b_str (by decide +kernel) (sa_cons (se_at (se_v 0) se_int) sa_nil))) se_str) (se_callTy call_str_int cs_str rfl T.b_str (by decide +kernel) (sa_cons (se_at (se_v 0) se_int) sa_nil))))) ss_nil)
      (ss_cons (ss_if (st_is (se_at (se_v 0) se_int) se_non) (ss_one (ss_ret (se_add (se_add se_str (se_callTy call_str_int cs_str rfl T.b_str (by decide +kernel) (sa_cons (se_at (se_v 0) se_int) sa_nil))) se_str))) ss_nil)
      (ss_one (ss_ret (se_add (se_add se_str (se_callTy call_str_int cs_str rfl T.b_str (by decide +kernel) (sa_cons (se_at (se_v 0) se_int) sa_nil))) (se_if (st_eq hr (se_at (se_v 0) se_int) (se_at (se_v 0) se_int)) se_str (se_add se_str (se_callTy call_str_int cs_str rfl T.b_str (by decide +kernel) (sa_cons (se_at (se_v 0) se_int) sa_nil))))))))))
theorem sc__law_layout_text : FnScope ["_law_pieces", "_law_piece"] ["_law_pieces"] (defScope s__law_layout_text) := ⟨rfl, rfl, rfl, by decide +kernel, rfl, by decide +kernel, by decide +kernel⟩
def B__law_layout_text : DS := (dRet (dJoin (dC (.str "; ")) (dLc2 [1] (tgName 1) (dIter2 (dVar 0)) dYes (dCall F__law_piece_text (dConsA (dVar 1) dNilA)))))
def F__law_layout_text : DF := (runF 2 1 B__law_layout_text)
theorem ok__law_layout_text (T : Txt K mg) : FnOk P w K mg base CX0 2 T.a__law_layout_text T.d__law_layout_text ["_law_pieces"] (spD ⟨K, T.cl⟩ F__law_layout_text) :=
  fnok T.f__law_layout_text sc__law_layout_text fun cdv A outer s H E hr =>
    (ss_one (ss_ret (se_join se_str (se_lc2 (own := [("_law_piece", 1)]) rfl sc__law_layout_text.nd (si2_iter (se_v 0)) (blkOk_by (N := ["_law_pieces", "_law_piece"]) (sc := defScope s__law_layout_text) (by decide +kernel)) (fun _ _ _ _ _ => pg_name (i := 1) sc__law_layout_text.nd rfl (Or.inl rfl)) (tgok_name (by decide)) (fun _ _ _ _ _ => pts_yes) (fun _ _ _ _ _ => (se_call (ok__law_piece_text T) (hr.mono (by decide)) rfl T.g__law_piece_text T.p__law_piece_text T.n__law_piece_text (sa_cons (se_v 1) sa_nil)))))))
theorem sc_read_number : FnScope ["text"] ["text"] (defScope s_read_number) := ⟨rfl, rfl, rfl, by decide +kernel, rfl, by decide +kernel, by decide +kernel⟩
def B_read_number : DS := (dSeq (dIf (dOr (dNot (dTru (dM0 (fun a => .bl (Txt.isdigit a)) (dVar 0)))) (dB (dBin gGt (dCallB gLenS (dConsA (dVar 0) dNilA)) (dC (.int 18))))) (dRet (dC .non)) dSkip)
      (dSeq (dIf (dAnd (dB (dBin (gEq false) (dBin gIxS (dVar 0) (dC (.int 0))) (dC (.str "0")))) (dB (dBin (gEq true) (dVar 0) (dC (.str "0"))))) (dRet (dC .non)) dSkip)
      (dRet (dCallB gIntT (dConsA (dVar 0) dNilA)))))
def F_read_number : DF := (runF 1 1 B_read_number)
theorem ok_read_number (T : Txt K mg) : FnOk P w K mg base CX0 1 T.a_read_number T.d_read_number ["text"] (spD ⟨K, T.cl⟩ F_read_number) :=
  fnok T.f_read_number sc_read_number fun cdv A outer s H E hr =>
    (ss_cons (ss_if (SW.st (sw_or (st_not (st_val (se_isdigit (se_v 0)))) (sw_or1 (st_gt (se_callB call_len_str cs_lenS rfl T.b_len (by decide +kernel) (sa_cons (se_v 0) sa_nil)) (se_const (pe_glob (v := .int 18) rfl T.c_MOST_DIGITS ⟨_, rfl⟩) (fun _ _ => .int 18)))))) (ss_one (ss_ret se_non)) ss_nil)
      (ss_cons (ss_if (SW.st (sw_and (st_eq hr (se_atS (se_v 0) se_int) se_str) (sw_and1 (st_ne hr (se_v 0) se_str)))) (ss_one (ss_ret se_non)) ss_nil)
      (ss_one (ss_ret (se_callTy call_int_str cs_intT rfl T.b_int (by decide +kernel) (sa_cons (se_v 0) sa_nil))))))
theorem sc_read_top : FnScope ["text", "count"] ["text"] (defScope s_read_top) := ⟨rfl, rfl, rfl, by decide +kernel, rfl, by decide +kernel, by decide +kernel⟩
def B_read_top : DS := (dSeq (dSet 1 (dCall F_read_number (dConsA (dVar 0) dNilA)))
      (dRet (dIfE (dB (dBin (gIs false) (dVar 1) (dC .non))) (dC .non) (dTup (dConsA (dC (.str "top")) (dConsA (dVar 1) dNilA))))))
def F_read_top : DF := (runF 2 1 B_read_top)
theorem ok_read_top (T : Txt K mg) : FnOk P w K mg base CX0 2 T.a_read_top T.d_read_top ["text"] (spD ⟨K, T.cl⟩ F_read_top) :=
  fnok T.f_read_top sc_read_top fun cdv A outer s H E hr =>
    (ss_cons (ss_let 1 sc_read_top.nd (se_call (ok_read_number T) (hr.mono (by decide)) rfl T.g_read_number T.p_read_number T.n_read_number (sa_cons (se_v 0) sa_nil)))
      (ss_one (ss_ret (se_if (st_is (se_v 1) se_non) se_non (se_tup (sa_cons se_str (sa_cons (se_v 1) sa_nil)))))))
theorem sc_read_old : FnScope ["text", "first", "last", "begin", "dash", "end"] ["text"] (defScope s_read_old) := ⟨rfl, rfl, rfl, by decide +kernel, rfl, by decide +kernel, by decide +kernel⟩
def B_read_old : DS := (dSeq (dAsg (tgTup [3, 4, 5]) (dM1 gPart (dVar 0) (dC (.str "-"))))
      (dSeq (dSet 1 (dCall F_read_number (dConsA (dVar 3) dNilA)))
      (dSeq (dIf (dB (dBin (gIs false) (dVar 1) (dC .non))) (dRet (dC .non)) dSkip)
      (dSeq (dIf (dB (dBin (gEq false) (dVar 4) (dC (.str "")))) (dRet (dTup (dConsA (dC (.str "old")) (dConsA (dVar 1) (dConsA (dVar 1) dNilA))))) dSkip)
      (dSeq (dIf (dB (dBin (gEq false) (dVar 5) (dC (.str "")))) (dRet (dTup (dConsA (dC (.str "old")) (dConsA (dVar 1) (dConsA (dC .non) dNilA))))) dSkip)
      (dSeq (dSet 2 (dCall F_read_number (dConsA (dVar 5) dNilA)))
      (dSeq (dIf (dOr (dB (dBin (gIs false) (dVar 2) (dC .non))) (dB (dBin (gEq false) (dVar 2) (dVar 1)))) (dRet (dC .non)) dSkip)
      (dRet (dTup (dConsA (dC (.str "old")) (dConsA (dVar 1) (dConsA (dVar 2) dNilA))))))))))))
def F_read_old : DF := (runF 6 1 B_read_old)
theorem ok_read_old (T : Txt K mg) : FnOk P w K mg base CX0 2 T.a_read_old T.d_read_old ["text"] (spD ⟨K, T.cl⟩ F_read_old) :=
  fnok T.f_read_old sc_read_old fun cdv A outer s H E hr =>
    (ss_cons (ss_asg (se_partition (se_v 0) se_str) (sg_tup (is := [3, 4, 5]) rfl (pgs_cons (pg_name (i := 3) sc_read_old.nd rfl (by first | exact Or.inl rfl | exact Or.inr rfl)) (pgs_cons (pg_name (i := 4) sc_read_old.nd rfl (by first | exact Or.inl rfl | exact Or.inr rfl)) (pgs_cons (pg_name (i := 5) sc_read_old.nd rfl (by first | exact Or.inl rfl | exact Or.inr rfl)) pgs_nil))) rfl))
      (ss_cons (ss_let 1 sc_read_old.nd (se_call (ok_read_number T) (hr.mono (by decide)) rfl T.g_read_number T.p_read_number T.n_read_number (sa_cons (se_v 3) sa_nil)))
      (ss_cons (ss_if (st_is (se_v 1) se_non) (ss_one (ss_ret se_non)) ss_nil)
      (ss_cons (ss_if (st_eq hr (se_v 4) se_str) (ss_one (ss_ret (se_tup (sa_cons se_str (sa_cons (se_v 1) (sa_cons (se_v 1) sa_nil)))))) ss_nil)
      (ss_cons (ss_if (st_eq hr (se_v 5) se_str) (ss_one (ss_ret (se_tup (sa_cons se_str (sa_cons (se_v 1) (sa_cons se_non sa_nil)))))) ss_nil)
      (ss_cons (ss_let 2 sc_read_old.nd (se_call (ok_read_number T) (hr.mono (by decide)) rfl T.g_read_number T.p_read_number T.n_read_number (sa_cons (se_v 5) sa_nil)))
      (ss_cons (ss_if (SW.st (sw_or (st_is (se_v 2) se_non) (sw_or1 (st_eq hr (se_v 2) (se_v 1))))) (ss_one (ss_ret se_non)) ss_nil)
      (ss_one (ss_ret (se_tup (sa_cons se_str (sa_cons (se_v 1) (sa_cons (se_v 2) sa_nil)))))))))))))
theorem sc_read_new : FnScope ["label", "times", "numbers", "low", "dash", "high"] ["label", "times"] (defScope s_read_new) := ⟨rfl, rfl, rfl, by decide +kernel, rfl, by decide +kernel, by decide +kernel⟩
def B_read_new : DS := (dSeq (dAsg (tgTup [3, 4, 5]) (dM1 gPart (dVar 0) (dC (.str "-"))))
      (dSeq (dSet 2 (dTup (dConsA (dCall F_read_number (dConsA (dVar 3) dNilA)) (dConsA (dCall F_read_number (dConsA (dVar 5) dNilA)) (dConsA (dCall F_read_number (dConsA (dSlS (dVar 1) (dPart (dC (.int 1))) dNoPart) dNilA)) dNilA)))))
      (dSeq (dIf (dOr (dB (dBin (gEq true) (dSlS (dVar 1) dNoPart (dPart (dC (.int 1)))) (dC (.str "x")))) (dB (dBin (gIn false) (dC .non) (dVar 2)))) (dRet (dC .non)) dSkip)
      (dRet (dBin gAdd (dTup (dConsA (dC (.str "new")) dNilA)) (dVar 2))))))
def F_read_new : DF := (runF 6 2 B_read_new)
theorem ok_read_new (T : Txt K mg) : FnOk P w K mg base CX0 2 T.a_read_new T.d_read_new ["label", "times"] (spD ⟨K, T.cl⟩ F_read_new) :=
  fnok T.f_read_new sc_read_new fun cdv A outer s H E hr =>
    (ss_cons (ss_asg (se_partition (se_v 0) se_str) (sg_tup (is := [3, 4, 5]) rfl (pgs_cons (pg_name (i := 3) sc_read_new.nd rfl (by first | exact Or.inl rfl | exact Or.inr rfl)) (pgs_cons (pg_name (i := 4) sc_read_new.nd rfl (by first | exact Or.inl rfl | exact Or.inr rfl)) (pgs_cons (pg_name (i := 5) sc_read_new.nd rfl (by first | exact Or.inl rfl | exact Or.inr rfl)) pgs_nil))) rfl))
      (ss_cons (ss_let 2 sc_read_new.nd (se_tup (sa_cons (se_call (ok_read_number T) (hr.mono (by decide)) rfl T.g_read_number T.p_read_number T.n_read_number (sa_cons (se_v 3) sa_nil)) (sa_cons (se_call (ok_read_number T) (hr.mono (by decide)) rfl T.g_read_number T.p_read_number T.n_read_number (sa_cons (se_v 5) sa_nil)) (sa_cons (se_call (ok_read_number T) (hr.mono (by decide)) rfl T.g_read_number T.p_read_number T.n_read_number (sa_cons (se_sliceS (se_v 1) (so_some se_int) so_none) sa_nil)) sa_nil)))))
      (ss_cons (ss_if (SW.st (sw_or (st_ne hr (se_sliceS (se_v 1) so_none (so_some se_int)) se_str) (sw_or1 (st_in hr se_non (se_v 2))))) (ss_one (ss_ret se_non)) ss_nil)
      (ss_one (ss_ret (se_add (se_tup (sa_cons se_str sa_nil)) (se_v 2)))))))
theorem sc_read_piece : FnScope ["text", "word", "rest"] ["text"] (defScope s_read_piece) := ⟨rfl, rfl, rfl, by decide +kernel, rfl, by decide +kernel, by decide +kernel⟩
def B_read_piece : DS := (dSeq (dStar 1 2 (dM1 gSplit (dVar 0) (dC (.str " "))))
      (dSeq (dIf (dAnd (dB (dBin (gEq false) (dVar 1) (dC (.str "top")))) (dB (dBin (gEq false) (dCallB gLen (dConsA (dVar 2) dNilA)) (dC (.int 1))))) (dRet (dCall F_read_top (dConsA (dBin gIx (dVar 2) (dC (.int 0))) dNilA))) dSkip)
      (dSeq (dIf (dAnd (dB (dBin (gEq false) (dVar 1) (dC (.str "old")))) (dB (dBin (gEq false) (dCallB gLen (dConsA (dVar 2) dNilA)) (dC (.int 1))))) (dRet (dCall F_read_old (dConsA (dBin gIx (dVar 2) (dC (.int 0))) dNilA))) dSkip)
      (dSeq (dIf (dAnd (dB (dBin (gEq false) (dVar 1) (dC (.str "new")))) (dB (dBin (gEq false) (dCallB gLen (dConsA (dVar 2) dNilA)) (dC (.int 2))))) (dRet (dCall F_read_new (dConsA (dBin gIx (dVar 2) (dC (.int 0))) (dConsA (dBin gIx (dVar 2) (dC (.int 1))) dNilA)))) dSkip)
      (dRet (dC .non))))))
def F_read_piece : DF := (runF 3 1 B_read_piece)
theorem ok_read_piece (T : Txt K mg) : FnOk P w K mg base CX0 3 T.a_read_piece T.d_read_piece ["text"] (spD ⟨K, T.cl⟩ F_read_piece) :=
  fnok T.f_read_piece sc_read_piece fun cdv A outer s H E hr =>
    (ss_cons (ss_star (i := 1) (j := 2) rfl (se_split (se_v 0) se_str) (pgs_cons (pg_name (i := 1) sc_read_piece.nd rfl (by first | exact Or.inl rfl | exact Or.inr rfl)) (pgs_cons (pg_name (i := 2) sc_read_piece.nd rfl (by first | exact Or.inl rfl | exact Or.inr rfl)) pgs_nil)))
      (ss_cons (ss_if (SW.st (sw_and (st_eq hr (se_v 1) se_str) (sw_and1 (st_eq hr (se_callB call_len_seq cs_len rfl T.b_len (by decide +kernel) (sa_cons (se_v 2) sa_nil)) se_int)))) (ss_one (ss_ret (se_call (ok_read_top T) (hr.mono (by decide)) rfl T.g_read_top T.p_read_top T.n_read_top (sa_cons (se_at (se_v 2) se_int) sa_nil)))) ss_nil)
      (ss_cons (ss_if (SW.st (sw_and (st_eq hr (se_v 1) se_str) (sw_and1 (st_eq hr (se_callB call_len_seq cs_len rfl T.b_len (by decide +kernel) (sa_cons (se_v 2) sa_nil)) se_int)))) (ss_one (ss_ret (se_call (ok_read_old T) (hr.mono (by decide)) rfl T.g_read_old T.p_read_old T.n_read_old (sa_cons (se_at (se_v 2) se_int) sa_nil)))) ss_nil)
      (ss_cons (ss_if (SW.st (sw_and (st_eq hr (se_v 1) se_str) (sw_and1 (st_eq hr (se_callB call_len_seq cs_len rfl T.b_len (by decide +kernel) (sa_cons (se_v 2) sa_nil)) se_int)))) (ss_one (ss_ret (se_call (ok_read_new T) (hr.mono (by decide)) rfl T.g_read_new T.p_read_new T.n_read_new (sa_cons (se_at (se_v 2) se_int) (sa_cons (se_at (se_v 2) se_int) sa_nil))))) ss_nil)
      (ss_one (ss_ret se_non))))))
theorem sc_is_number : FnScope ["value"] ["value"] (defScope s_is_number) := ⟨rfl, rfl, rfl, by decide +kernel, rfl, by decide +kernel, by decide +kernel⟩
def B_is_number : DS := (dRet (dAndV (dUn (gIsi "int") (dVar 0)) (dNotV (dUn (gIsi "bool") (dVar 0)))))
def F_is_number : DF := (runF 1 1 B_is_number)
theorem ok_is_number (T : Txt K mg) : FnOk P w K mg base CX0 1 T.a_is_number T.d_is_number ["value"] (spD ⟨K, T.cl⟩ F_is_number) :=
  fnok T.f_is_number sc_is_number fun cdv A outer s H E hr =>
    (ss_one (ss_ret (se_and (se_isi (T := "int") rfl T.b_isinstance rfl T.b_int (by decide +kernel) (se_v 0)) (se_one (se_not (se_isi (T := "bool") rfl T.b_isinstance rfl T.b_bool (by decide +kernel) (se_v 0)))))))
theorem sc_are_numbers : FnScope ["values", "many", "value"] ["values", "many"] (defScope s_are_numbers) := ⟨rfl, rfl, rfl, by decide +kernel, rfl, by decide +kernel, by decide +kernel⟩
def B_are_numbers : DS := (dRet (dAndV (dBin (gEq false) (dCallB gLen (dConsA (dVar 0) dNilA)) (dVar 1)) (dCallB gAll (dConsA (dLc [2] (tgName 2) (dIter (dVar 0)) dYes (dCall F_is_number (dConsA (dVar 2) dNilA))) dNilA))))
def F_are_numbers : DF := (runF 3 2 B_are_numbers)
theorem ok_are_numbers (T : Txt K mg) : FnOk P w K mg base CX0 2 T.a_are_numbers T.d_are_numbers ["values", "many"] (spD ⟨K, T.cl⟩ F_are_numbers) :=
  fnok T.f_are_numbers sc_are_numbers fun cdv A outer s H E hr =>
    (ss_one (ss_ret (se_and (se_eq hr (se_callB call_len_seq cs_len rfl T.b_len (by decide +kernel) (sa_cons (se_v 0) sa_nil)) (se_v 1)) (se_one (se_callB (cr_all rfl) cs_all rfl T.b_all (by decide +kernel) (sa_cons (se_lc (own := [("value", 2)]) rfl sc_are_numbers.nd (si_iter (se_v 0)) (blkOk_by (N := ["values", "many", "value"]) (sc := defScope s_are_numbers) (by decide +kernel)) (fun _ _ _ _ _ => pg_name (i := 2) sc_are_numbers.nd rfl (Or.inl rfl)) (tgok_name (by decide)) (fun _ _ _ _ _ => pts_yes) (fun _ _ _ _ _ => (se_call (ok_is_number T) (hr.mono (by decide)) rfl T.g_is_number T.p_is_number T.n_is_number (sa_cons (se_v 2) sa_nil)))) sa_nil))))))
theorem sc_is_range : FnScope ["pair", "first", "last"] ["pair"] (defScope s_is_range) := ⟨rfl, rfl, rfl, by decide +kernel, rfl, by decide +kernel, by decide +kernel⟩
def B_is_range : DS := (dSeq (dIf (dOr (dNot (dTru (dUn (gIsi "tuple") (dVar 0)))) (dB (dBin (gEq true) (dCallB gLen (dConsA (dVar 0) dNilA)) (dC (.int 2))))) (dRet (dC (.bl false))) dSkip)
      (dSeq (dAsg (tgTup [1, 2]) (dVar 0))
      (dSeq (dIf (dOr (dNot (dTru (dCall F_is_number (dConsA (dVar 1) dNilA)))) (dB (dBin gLt (dVar 1) (dC (.int 0))))) (dRet (dC (.bl false))) dSkip)
      (dRet (dOrV (dBin (gIs false) (dVar 2) (dC .non)) (dAndV (dCall F_is_number (dConsA (dVar 2) dNilA)) (dBin gLe (dVar 1) (dVar 2))))))))
def F_is_range : DF := (runF 3 1 B_is_range)
theorem ok_is_range (T : Txt K mg) : FnOk P w K mg base CX0 2 T.a_is_range T.d_is_range ["pair"] (spD ⟨K, T.cl⟩ F_is_range) :=
  fnok T.f_is_range sc_is_range fun cdv A outer s H E hr =>
    (ss_cons (ss_if (SW.st (sw_or (st_not (st_val (se_isi (T := "tuple") rfl T.b_isinstance rfl T.b_tuple (by decide +kernel) (se_v 0)))) (sw_or1 (st_ne hr (se_callB call_len_seq cs_len rfl T.b_len (by decide +kernel) (sa_cons (se_v 0) sa_nil)) se_int)))) (ss_one (ss_ret se_bl)) ss_nil)
      (ss_cons (ss_asg (se_v 0) (sg_tup (is := [1, 2]) rfl (pgs_cons (pg_name (i := 1) sc_is_range.nd rfl (by first | exact Or.inl rfl | exact Or.inr rfl)) (pgs_cons (pg_name (i := 2) sc_is_range.nd rfl (by first | exact Or.inl rfl | exact Or.inr rfl)) pgs_nil)) rfl))
      (ss_cons (ss_if (SW.st (sw_or (st_not (st_val (se_call (ok_is_number T) (hr.mono (by decide)) rfl T.g_is_number T.p_is_number T.n_is_number (sa_cons (se_v 1) sa_nil)))) (sw_or1 (st_lt (se_v 1) se_int)))) (ss_one (ss_ret se_bl)) ss_nil)
      (ss_one (ss_ret (se_or (se_is (se_v 2) se_non) (se_one (se_and (se_call (ok_is_number T) (hr.mono (by decide)) rfl T.g_is_number T.p_is_number T.n_is_number (sa_cons (se_v 2) sa_nil)) (se_one (se_le (se_v 1) (se_v 2)))))))))))
theorem sc_is_piece : FnScope ["piece", "word", "rest"] ["piece"] (defScope s_is_piece) := ⟨rfl, rfl, rfl, by decide +kernel, rfl, by decide +kernel, by decide +kernel⟩
def B_is_piece : DS := (dSeq (dIf (dOr (dNot (dTru (dUn (gIsi "tuple") (dVar 0)))) (dB (dBin (gEq false) (dCallB gLen (dConsA (dVar 0) dNilA)) (dC (.int 0))))) (dRet (dC (.bl false))) dSkip)
      (dSeq (dPar 1 2 (dConsA (dBin gIx (dVar 0) (dC (.int 0))) (dConsA (dSl (dVar 0) (dPart (dC (.int 1))) dNoPart) dNilA)))
      (dSeq (dIf (dB (dBin (gEq false) (dVar 1) (dC (.str "top")))) (dRet (dAndV (dCall F_are_numbers (dConsA (dVar 2) (dConsA (dC (.int 1)) dNilA))) (dBin gGe (dBin gIx (dVar 2) (dC (.int 0))) (dC (.int 1))))) dSkip)
      (dSeq (dIf (dB (dBin (gEq false) (dVar 1) (dC (.str "old")))) (dRet (dCall F_is_range (dConsA (dVar 2) dNilA))) dSkip)
      (dSeq (dIf (dB (dBin (gEq false) (dVar 1) (dC (.str "new")))) (dRet (dAndV (dCall F_are_numbers (dConsA (dVar 2) (dConsA (dC (.int 3)) dNilA))) (dAndV (dChain gLe gLt (dC (.int 0)) (dBin gIx (dVar 2) (dC (.int 0))) (dBin gIx (dVar 2) (dC (.int 1)))) (dBin gGe (dBin gIx (dVar 2) (dC (.int 2))) (dC (.int 1)))))) dSkip)
      (dRet (dC (.bl false))))))))
def F_is_piece : DF := (runF 3 1 B_is_piece)
theorem ok_is_piece (T : Txt K mg) : FnOk P w K mg base CX0 3 T.a_is_piece T.d_is_piece ["piece"] (spD ⟨K, T.cl⟩ F_is_piece) :=
  fnok T.f_is_piece sc_is_piece fun cdv A outer s H E hr =>
    (ss_cons (ss_if (SW.st (sw_or (st_not (st_val (se_isi (T := "tuple") rfl T.b_isinstance rfl T.b_tuple (by decide +kernel) (se_v 0)))) (sw_or1 (st_eq hr (se_callB call_len_seq cs_len rfl T.b_len (by decide +kernel) (sa_cons (se_v 0) sa_nil)) se_int)))) (ss_one (ss_ret se_bl)) ss_nil)
      (ss_cons (ss_par (i := 1) (j := 2) rfl sc_is_piece.nd rfl rfl (by decide) rfl rfl (sa_cons (se_at (se_v 0) se_int) (sa_cons (se_slice (se_v 0) (so_some se_int) so_none) sa_nil)) (by rfl))
      (ss_cons (ss_if (st_eq hr (se_v 1) se_str) (ss_one (ss_ret (se_and (se_call (ok_are_numbers T) (hr.mono (by decide)) rfl T.g_are_numbers T.p_are_numbers T.n_are_numbers (sa_cons (se_v 2) (sa_cons se_int sa_nil))) (se_one (se_ge (se_at (se_v 2) se_int) se_int))))) ss_nil)
      (ss_cons (ss_if (st_eq hr (se_v 1) se_str) (ss_one (ss_ret (se_call (ok_is_range T) (hr.mono (by decide)) rfl T.g_is_range T.p_is_range T.n_is_range (sa_cons (se_v 2) sa_nil)))) ss_nil)
      (ss_cons (ss_if (st_eq hr (se_v 1) se_str) (ss_one (ss_ret (se_and (se_call (ok_are_numbers T) (hr.mono (by decide)) rfl T.g_are_numbers T.p_are_numbers T.n_are_numbers (sa_cons (se_v 2) (sa_cons se_int sa_nil))) (se_and (se_chain op_le ops_intB op_lt ops_intB se_int (se_at (se_v 2) se_int) (se_at (se_v 2) se_int)) (se_one (se_ge (se_at (se_v 2) se_int) se_int)))))) ss_nil)
      (ss_one (ss_ret se_bl)))))))
theorem sc_is_open : FnScope ["piece"] ["piece"] (defScope s_is_open) := ⟨rfl, rfl, rfl, by decide +kernel, rfl, by decide +kernel, by decide +kernel⟩
def B_is_open : DS := (dRet (dAndV (dBin (gEq false) (dBin gIx (dVar 0) (dC (.int 0))) (dC (.str "old"))) (dBin (gIs false) (dBin gIx (dVar 0) (dC (.int 2))) (dC .non))))
def F_is_open : DF := (runF 1 1 B_is_open)
theorem ok_is_open (T : Txt K mg) : FnOk P w K mg base CX0 1 T.a_is_open T.d_is_open ["piece"] (spD ⟨K, T.cl⟩ F_is_open) :=
  fnok T.f_is_open sc_is_open fun cdv A outer s H E hr =>
    (ss_one (ss_ret (se_and (se_eq hr (se_at (se_v 0) se_int) se_str) (se_one (se_is (se_at (se_v 0) se_int) se_non)))))
theorem sc_row_count : FnScope ["piece"] ["piece"] (defScope s_row_count) := ⟨rfl, rfl, rfl, by decide +kernel, rfl, by decide +kernel, by decide +kernel⟩
def B_row_count : DS := (dSeq (dIf (dB (dBin (gEq false) (dBin gIx (dVar 0) (dC (.int 0))) (dC (.str "old")))) (dRet (dBin gAdd (dBin Ip.gSub (dBin gIx (dVar 0) (dC (.int 2))) (dBin gIx (dVar 0) (dC (.int 1)))) (dC (.int 1)))) dSkip)
      (dRet (dBin gIx (dVar 0) (dUn gNeg (dC (.int 1))))))
def F_row_count : DF := (runF 1 1 B_row_count)
theorem ok_row_count (T : Txt K mg) : FnOk P w K mg base CX0 1 T.a_row_count T.d_row_count ["piece"] (spD ⟨K, T.cl⟩ F_row_count) :=
  fnok T.f_row_count sc_row_count fun cdv A outer s H E hr =>
    (ss_cons (ss_if (st_eq hr (se_at (se_v 0) se_int) se_str) (ss_one (ss_ret (se_add (se_sub (se_at (se_v 0) se_int) (se_at (se_v 0) se_int)) se_int))) ss_nil)
      (ss_one (ss_ret (se_at (se_v 0) (se_neg se_int)))))
theorem sc_label_in : FnScope ["piece", "offset"] ["piece", "offset"] (defScope s_label_in) := ⟨rfl, rfl, rfl, by decide +kernel, rfl, by decide +kernel, by decide +kernel⟩
def B_label_in : DS := (dSeq (dIf (dB (dBin (gEq false) (dBin gIx (dVar 0) (dC (.int 0))) (dC (.str "top")))) (dRet (dC .non)) dSkip)
      (dSeq (dIf (dB (dBin (gEq false) (dBin gIx (dVar 0) (dC (.int 0))) (dC (.str "old")))) (dRet (dTup (dConsA (dBin gAdd (dBin gIx (dVar 0) (dC (.int 1))) (dVar 1)) (dConsA (dBin gAdd (dBin gIx (dVar 0) (dC (.int 1))) (dVar 1)) dNilA)))) dSkip)
      (dRet (dTup (dConsA (dBin gIx (dVar 0) (dC (.int 1))) (dConsA (dBin gIx (dVar 0) (dC (.int 2))) dNilA))))))
def F_label_in : DF := (runF 2 2 B_label_in)
theorem ok_label_in (T : Txt K mg) : FnOk P w K mg base CX0 1 T.a_label_in T.d_label_in ["piece", "offset"] (spD ⟨K, T.cl⟩ F_label_in) :=
  fnok T.f_label_in sc_label_in fun cdv A outer s H E hr =>
    (ss_cons (ss_if (st_eq hr (se_at (se_v 0) se_int) se_str) (ss_one (ss_ret se_non)) ss_nil)
      (ss_cons (ss_if (st_eq hr (se_at (se_v 0) se_int) se_str) (ss_one (ss_ret (se_tup (sa_cons (se_add (se_at (se_v 0) se_int) (se_v 1)) (sa_cons (se_add (se_at (se_v 0) se_int) (se_v 1)) sa_nil))))) ss_nil)
      (ss_one (ss_ret (se_tup (sa_cons (se_at (se_v 0) se_int) (sa_cons (se_at (se_v 0) se_int) sa_nil)))))))
theorem sc_first_label : FnScope ["piece"] ["piece"] (defScope s_first_label) := ⟨rfl, rfl, rfl, by decide +kernel, rfl, by decide +kernel, by decide +kernel⟩
def B_first_label : DS := (dRet (dCall F_label_in (dConsA (dVar 0) (dConsA (dC (.int 0)) dNilA))))
def F_first_label : DF := (runF 1 1 B_first_label)
theorem ok_first_label (T : Txt K mg) : FnOk P w K mg base CX0 2 T.a_first_label T.d_first_label ["piece"] (spD ⟨K, T.cl⟩ F_first_label) :=
  fnok T.f_first_label sc_first_label fun cdv A outer s H E hr =>
    (ss_one (ss_ret (se_call (ok_label_in T) (hr.mono (by decide)) rfl T.g_label_in T.p_label_in T.n_label_in (sa_cons (se_v 0) (sa_cons se_int sa_nil)))))
theorem sc_may_follow : FnScope ["before", "piece", "above", "label"] ["before", "piece"] (defScope s_may_follow) := ⟨rfl, rfl, rfl, by decide +kernel, rfl, by decide +kernel, by decide +kernel⟩
def B_may_follow : DS := (dSeq (dIf (dTru (dCall F_is_open (dConsA (dVar 0) dNilA))) (dRet (dC (.bl false))) dSkip)
      (dSeq (dIf (dB (dBin (gEq false) (dBin gIx (dVar 0) (dC (.int 0))) (dC (.str "top")))) (dRet (dC (.bl true))) dSkip)
      (dSeq (dIf (dB (dBin (gEq false) (dBin gIx (dVar 1) (dC (.int 0))) (dC (.str "top")))) (dRet (dC (.bl false))) dSkip)
      (dSeq (dIf (dAnd (dB (dBin (gEq false) (dBin gIx (dVar 0) (dC (.int 0))) (dC (.str "old")))) (dB (dBin (gEq false) (dBin gIx (dVar 1) (dC (.int 0))) (dC (.str "old"))))) (dRet (dBin gLt (dBin gIx (dVar 0) (dC (.int 2))) (dBin gIx (dVar 1) (dC (.int 1))))) dSkip)
      (dSeq (dSet 2 (dCall F_label_in (dConsA (dVar 0) (dConsA (dBin Ip.gSub (dCall F_row_count (dConsA (dVar 0) dNilA)) (dC (.int 1))) dNilA))))
      (dSeq (dSet 3 (dCall F_first_label (dConsA (dVar 1) dNilA)))
      (dRet (dAndV (dBin gLe (dBin gIx (dVar 2) (dC (.int 0))) (dBin gIx (dVar 3) (dC (.int 0)))) (dBin gLe (dBin gIx (dVar 2) (dC (.int 1))) (dBin gIx (dVar 3) (dC (.int 1))))))))))))
def F_may_follow : DF := (runF 4 2 B_may_follow)
theorem ok_may_follow (T : Txt K mg) : FnOk P w K mg base CX0 3 T.a_may_follow T.d_may_follow ["before", "piece"] (spD ⟨K, T.cl⟩ F_may_follow) :=
  fnok T.f_may_follow sc_may_follow fun cdv A outer s H E hr =>
    (ss_cons (ss_if (st_val (se_call (ok_is_open T) (hr.mono (by decide)) rfl T.g_is_open T.p_is_open T.n_is_open (sa_cons (se_v 0) sa_nil))) (ss_one (ss_ret se_bl)) ss_nil)
      (ss_cons (ss_if (st_eq hr (se_at (se_v 0) se_int) se_str) (ss_one (ss_ret se_bl)) ss_nil)
      (ss_cons (ss_if (st_eq hr (se_at (se_v 1) se_int) se_str) (ss_one (ss_ret se_bl)) ss_nil)
      (ss_cons (ss_if (SW.st (sw_and (st_eq hr (se_at (se_v 0) se_int) se_str) (sw_and1 (st_eq hr (se_at (se_v 1) se_int) se_str)))) (ss_one (ss_ret (se_lt (se_at (se_v 0) se_int) (se_at (se_v 1) se_int)))) ss_nil)
      (ss_cons (ss_let 2 sc_may_follow.nd (se_call (ok_label_in T) (hr.mono (by decide)) rfl T.g_label_in T.p_label_in T.n_label_in (sa_cons (se_v 0) (sa_cons (se_sub (se_call (ok_row_count T) (hr.mono (by decide)) rfl T.g_row_count T.p_row_count T.n_row_count (sa_cons (se_v 0) sa_nil)) se_int) sa_nil))))
      (ss_cons (ss_let 3 sc_may_follow.nd (se_call (ok_first_label T) (hr.mono (by decide)) rfl T.g_first_label T.p_first_label T.n_first_label (sa_cons (se_v 1) sa_nil)))
      (ss_one (ss_ret (se_and (se_le (se_at (se_v 2) se_int) (se_at (se_v 3) se_int)) (se_one (se_le (se_at (se_v 2) se_int) (se_at (se_v 3) se_int))))))))))))
theorem sc_first_wrong : FnScope ["pieces", "before", "at", "piece"] ["pieces"] (defScope s_first_wrong) := ⟨rfl, rfl, rfl, by decide +kernel, rfl, by decide +kernel, by decide +kernel⟩
def B_first_wrong : DS := (dSeq (dSet 1 (dC .non))
      (dSeq (dForS (tgTup [2, 3]) (dEnum2 (dVar 0)) (dSeq (dIf (dNot (dTru (dCall F_is_piece (dConsA (dVar 3) dNilA)))) (dRet (dVar 2)) dSkip)
      (dSeq (dIf (dAnd (dB (dBin (gIs true) (dVar 1) (dC .non))) (dNot (dTru (dCall F_may_follow (dConsA (dVar 1) (dConsA (dVar 3) dNilA)))))) (dRet (dVar 2)) dSkip)
      (dSet 1 (dVar 3)))))
      (dSeq (dIf (dOr (dB (dBin (gIs false) (dVar 1) (dC .non))) (dNot (dTru (dCall F_is_open (dConsA (dVar 1) dNilA))))) (dRet (dCallB gLen (dConsA (dVar 0) dNilA))) dSkip)
      (dRet (dC .non)))))
def F_first_wrong : DF := (runF 4 1 B_first_wrong)
theorem ok_first_wrong (T : Txt K mg) : FnOk P w K mg base CX0 4 T.a_first_wrong T.d_first_wrong ["pieces"] (spD ⟨K, T.cl⟩ F_first_wrong) :=
  fnok T.f_first_wrong sc_first_wrong fun cdv A outer s H E hr =>
    (ss_cons (ss_let 1 sc_first_wrong.nd se_non)
      (ss_cons (ss_forS PassesOwn.never rfl (si2_enum rfl T.b_enumerate (se_v 0)) (sg_tup (is := [2, 3]) rfl (pgs_cons (pg_name (i := 2) sc_first_wrong.nd rfl (by first | exact Or.inl rfl | exact Or.inr rfl)) (pgs_cons (pg_name (i := 3) sc_first_wrong.nd rfl (by first | exact Or.inl rfl | exact Or.inr rfl)) pgs_nil)) rfl) (ss_cons (ss_if (st_not (st_val (se_call (ok_is_piece T) (hr.mono (by decide)) rfl T.g_is_piece T.p_is_piece T.n_is_piece (sa_cons (se_v 3) sa_nil)))) (ss_one (ss_ret (se_v 2))) ss_nil)
      (ss_cons (ss_if (SW.st (sw_and (st_isnot (se_v 1) se_non) (sw_and1 (st_not (st_val (se_call (ok_may_follow T) (hr.mono (by decide)) rfl T.g_may_follow T.p_may_follow T.n_may_follow (sa_cons (se_v 1) (sa_cons (se_v 3) sa_nil)))))))) (ss_one (ss_ret (se_v 2))) ss_nil)
      (ss_one (ss_let 1 sc_first_wrong.nd (se_v 3))))))
      (ss_cons (ss_if (SW.st (sw_or (st_is (se_v 1) se_non) (sw_or1 (st_not (st_val (se_call (ok_is_open T) (hr.mono (by decide)) rfl T.g_is_open T.p_is_open T.n_is_open (sa_cons (se_v 1) sa_nil))))))) (ss_one (ss_ret (se_callB call_len_seq cs_len rfl T.b_len (by decide +kernel) (sa_cons (se_v 0) sa_nil)))) ss_nil)
      (ss_one (ss_ret se_non)))))
theorem sc_joined : FnScope ["one", "other"] ["one", "other"] (defScope s_joined) := ⟨rfl, rfl, rfl, by decide +kernel, rfl, by decide +kernel, by decide +kernel⟩
def B_joined : DS := (dSeq (dIf (dB (dBin (gEq true) (dBin gIx (dVar 0) (dC (.int 0))) (dBin gIx (dVar 1) (dC (.int 0))))) (dRet (dC .non)) dSkip)
      (dSeq (dIf (dB (dBin (gEq false) (dBin gIx (dVar 0) (dC (.int 0))) (dC (.str "top")))) (dRet (dTup (dConsA (dC (.str "top")) (dConsA (dBin gAdd (dBin gIx (dVar 0) (dC (.int 1))) (dBin gIx (dVar 1) (dC (.int 1)))) dNilA)))) dSkip)
      (dSeq (dIf (dB (dBin (gEq false) (dBin gIx (dVar 0) (dC (.int 0))) (dC (.str "old")))) (dRet (dIfE (dB (dBin (gEq false) (dBin gAdd (dBin gIx (dVar 0) (dC (.int 2))) (dC (.int 1))) (dBin gIx (dVar 1) (dC (.int 1))))) (dTup (dConsA (dC (.str "old")) (dConsA (dBin gIx (dVar 0) (dC (.int 1))) (dConsA (dBin gIx (dVar 1) (dC (.int 2))) dNilA)))) (dC .non))) dSkip)
      (dSeq (dIf (dB (dBin (gEq false) (dSl (dVar 0) (dPart (dC (.int 1))) (dPart (dC (.int 3)))) (dSl (dVar 1) (dPart (dC (.int 1))) (dPart (dC (.int 3)))))) (dRet (dTup (dConsA (dC (.str "new")) (dConsA (dBin gIx (dVar 0) (dC (.int 1))) (dConsA (dBin gIx (dVar 0) (dC (.int 2))) (dConsA (dBin gAdd (dBin gIx (dVar 0) (dC (.int 3))) (dBin gIx (dVar 1) (dC (.int 3)))) dNilA)))))) dSkip)
      (dRet (dC .non))))))
def F_joined : DF := (runF 2 2 B_joined)
theorem ok_joined (T : Txt K mg) : FnOk P w K mg base CX0 1 T.a_joined T.d_joined ["one", "other"] (spD ⟨K, T.cl⟩ F_joined) :=
  fnok T.f_joined sc_joined fun cdv A outer s H E hr =>
    (ss_cons (ss_if (st_ne hr (se_at (se_v 0) se_int) (se_at (se_v 1) se_int)) (ss_one (ss_ret se_non)) ss_nil)
      (ss_cons (ss_if (st_eq hr (se_at (se_v 0) se_int) se_str) (ss_one (ss_ret (se_tup (sa_cons se_str (sa_cons (se_add (se_at (se_v 0) se_int) (se_at (se_v 1) se_int)) sa_nil))))) ss_nil)
      (ss_cons (ss_if (st_eq hr (se_at (se_v 0) se_int) se_str) (ss_one (ss_ret (se_if (st_eq hr (se_add (se_at (se_v 0) se_int) se_int) (se_at (se_v 1) se_int)) (se_tup (sa_cons se_str (sa_cons (se_at (se_v 0) se_int) (sa_cons (se_at (se_v 1) se_int) sa_nil)))) se_non))) ss_nil)
      (ss_cons (ss_if (st_eq hr (se_slice (se_v 0) (so_some se_int) (so_some se_int)) (se_slice (se_v 1) (so_some se_int) (so_some se_int))) (ss_one (ss_ret (se_tup (sa_cons se_str (sa_cons (se_at (se_v 0) se_int) (sa_cons (se_at (se_v 0) se_int) (sa_cons (se_add (se_at (se_v 0) se_int) (se_at (se_v 1) se_int)) sa_nil))))))) ss_nil)
      (ss_one (ss_ret se_non))))))
theorem sc_normal_form : FnScope ["pieces", "result", "piece", "both"] ["pieces"] (defScope s_normal_form) := ⟨rfl, rfl, rfl, by decide +kernel, rfl, by decide +kernel, by decide +kernel⟩
def B_normal_form : DS := (dSeq (dSet 1 (dLstC dNilA))
      (dSeq (dForS (tgName 2) (dIter2 (dVar 0)) (dSeq (dSet 3 (dIfE (dTru (dVar 1)) (dCall F_joined (dConsA (dBin gIx (dVar 1) (dUn gNeg (dC (.int 1)))) (dConsA (dVar 2) dNilA))) (dC .non)))
      (dIf (dB (dBin (gIs false) (dVar 3) (dC .non))) (dDrop (dLm gApp (dVar 1) (dConsA (dVar 2) dNilA))) (dSetIx (dVar 1) (dUn gNeg (dC (.int 1))) (dVar 3)))))
      (dRet (dVar 1))))
def F_normal_form : DF := frz (runF 4 1 B_normal_form)
theorem ok_normal_form (T : Txt K mg) : FnOk P w K mg base CX0 2 T.a_normal_form T.d_normal_form ["pieces"] (spD ⟨K, T.cl⟩ F_normal_form) :=
  fn_frz (fnok T.f_normal_form sc_normal_form fun cdv A outer s H E hr =>
    (ss_cons (ss_let 1 sc_normal_form.nd (se_lstC sa_nil))
      (ss_cons (ss_forS PassesOwn.never rfl (si2_iter (se_v 0)) (sg_v 2 sc_normal_form.nd) (ss_cons (ss_let 3 sc_normal_form.nd (se_if (st_val (se_v 1)) (se_call (ok_joined T) (hr.mono (by decide)) rfl T.g_joined T.p_joined T.n_joined (sa_cons (se_at (se_v 1) (se_neg se_int)) (sa_cons (se_v 2) sa_nil))) se_non))
      (ss_one (ss_if (st_is (se_v 3) se_non) (ss_one (ss_expr (se_append (se_v 1) (se_v 2)))) (ss_one (ss_setIx (se_v 1) (se_neg se_int) (se_v 3) (pg_sub (se_v 1) (se_neg se_int) set_list)))))))
      (ss_one (ss_ret (se_v 1))))))
theorem sc_starts_of : FnScope ["pieces", "starts", "piece"] ["pieces"] (defScope s_starts_of) := ⟨rfl, rfl, rfl, by decide +kernel, rfl, by decide +kernel, by decide +kernel⟩
def B_starts_of : DS := (dSeq (dSet 1 (dLstC (dConsA (dC (.int 0)) dNilA)))
      (dSeq (dForS (tgName 2) (dIter2 (dSl (dVar 0) dNoPart (dPart (dUn gNeg (dC (.int 1)))))) (dDrop (dLm gApp (dVar 1) (dConsA (dBin gAdd (dBin gIx (dVar 1) (dUn gNeg (dC (.int 1)))) (dCall F_row_count (dConsA (dVar 2) dNilA))) dNilA))))
      (dRet (dVar 1))))
def F_starts_of : DF := frz (runF 3 1 B_starts_of)
theorem ok_starts_of (T : Txt K mg) : FnOk P w K mg base CX0 2 T.a_starts_of T.d_starts_of ["pieces"] (spD ⟨K, T.cl⟩ F_starts_of) :=
  fn_frz (fnok T.f_starts_of sc_starts_of fun cdv A outer s H E hr =>
    (ss_cons (ss_let 1 sc_starts_of.nd (se_lstC (sa_cons se_int sa_nil)))
      (ss_cons (ss_forS PassesOwn.never rfl (si2_iter (se_slice (se_v 0) so_none (so_some (se_neg se_int)))) (sg_v 2 sc_starts_of.nd) (ss_one (ss_expr (se_append (se_v 1) (se_add (se_at (se_v 1) (se_neg se_int)) (se_call (ok_row_count T) (hr.mono (by decide)) rfl T.g_row_count T.p_row_count T.n_row_count (sa_cons (se_v 2) sa_nil)))))))
      (ss_one (ss_ret (se_v 1))))))
theorem sc_Layout___init__ : FnScope ["self", "pieces", "wrong", "parts"] ["self", "pieces"] (defScope s_Layout___init__) := ⟨rfl, rfl, rfl, by decide +kernel, rfl, by decide +kernel, by decide +kernel⟩
def B_Layout___init__ : DS := (dSeq (dSet 2 (dCall F_first_wrong (dConsA (dVar 1) dNilA)))
      (dSeq (dIf (dB (dBin (gIs true) (dVar 2) (dC .non))) dBad dSkip)
      (dSeq (dSet 3 (dCall F_normal_form (dConsA (dVar 1) dNilA)))
      (dSeq (dIf (dB (dBin gGt (dCallB gLen (dConsA (dVar 3) dNilA)) (dC (.int 60)))) dBad dSkip)
      (dSeq (dSetFld "Layout" "parts" (dVar 0) (dVar 3))
      (dSetFld "Layout" "starts" (dVar 0) (dCall F_starts_of (dConsA (dVar 3) dNilA))))))))
def F_Layout___init__ : DF := (runF 4 2 B_Layout___init__)
theorem ok_Layout___init__ (T : Txt K mg) : FnOk P w K mg base CX0 5 T.a_Layout___init__ T.d_Layout___init__ ["self", "pieces"] (spD ⟨K, T.cl⟩ F_Layout___init__) :=
  fnok T.f_Layout___init__ sc_Layout___init__ fun cdv A outer s H E hr =>
    (ss_cons (ss_let 2 sc_Layout___init__.nd (se_call (ok_first_wrong T) (hr.mono (by decide)) rfl T.g_first_wrong T.p_first_wrong T.n_first_wrong (sa_cons (se_v 1) sa_nil)))
      (ss_cons (ss_if (st_isnot (se_v 2) se_non) (ss_one ss_never) ss_nil)
      (ss_cons (ss_let 3 sc_Layout___init__.nd (se_call (ok_normal_form T) (hr.mono (by decide)) rfl T.g_normal_form T.p_normal_form T.n_normal_form (sa_cons (se_v 1) sa_nil)))
      (ss_cons (ss_if (st_gt (se_callB call_len_seq cs_len rfl T.b_len (by decide +kernel) (sa_cons (se_v 3) sa_nil)) (se_cval rfl T.g_Layout T.r_Layout T.v_Layout_LIMIT (fun _ _ => .int 60))) (ss_one ss_never) ss_nil)
      (ss_cons (ss_fld (T.cl_Layout) T.k_Layout T.na_Layout_parts (se_v 0) (se_v 3))
      (ss_one (ss_fld (T.cl_Layout) T.k_Layout T.na_Layout_starts (se_v 0) (se_call (ok_starts_of T) (hr.mono (by decide)) rfl T.g_starts_of T.p_starts_of T.n_starts_of (sa_cons (se_v 3) sa_nil)))))))))
theorem sc_Layout_pieces : FnScope ["self"] ["self"] (defScope s_Layout_pieces) := ⟨rfl, rfl, rfl, by decide +kernel, rfl, by decide +kernel, by decide +kernel⟩
def B_Layout_pieces : DS := (dRet (dCallB gList (dConsA (dFld "Layout" "parts" (dVar 0)) dNilA)))
def F_Layout_pieces : DF := (runF 1 1 B_Layout_pieces)
theorem ok_Layout_pieces (T : Txt K mg) : FnOk P w K mg base CX0 1 T.a_Layout_pieces T.d_Layout_pieces ["self"] (spD ⟨K, T.cl⟩ F_Layout_pieces) :=
  fnok T.f_Layout_pieces sc_Layout_pieces fun cdv A outer s H E hr =>
    (ss_one (ss_ret (se_callTy call_list_of cs_list rfl T.b_list (by decide +kernel) (sa_cons (se_fld (T.cl_Layout) T.k_Layout T.na_Layout_parts (se_v 0)) sa_nil))))
theorem sc_Layout_read : FnScope ["cls", "text", "written", "layout", "at", "piece"] ["cls", "text"] (defScope s_Layout_read) := ⟨rfl, rfl, rfl, by decide +kernel, rfl, by decide +kernel, by decide +kernel⟩
def B_Layout_read : DS := (dSeq (dSet 2 (dLc [5] (tgName 5) (dIter (dM1 gSplit (dVar 1) (dC (.str "; ")))) dYes (dCall F_read_piece (dConsA (dVar 5) dNilA))))
      (dSeq (dIf (dB (dBin (gIn false) (dC .non) (dVar 2))) dBad dSkip)
      (dSeq (noexS (dSet 3 (dMakeV 0 "Layout" F_Layout___init__ (dConsA (dVar 2) dNilA))))
      (dSeq (dForS (tgTup [4, 5]) (dEnum2 (dMeth "Layout" "pieces" F_Layout_pieces (dVar 3) dNilA)) (dIf (dB (dBin (gEq true) (dVar 5) (dBin gIx (dVar 2) (dVar 4)))) dBad dSkip))
      (dRet (dVar 3))))))
def F_Layout_read : DF := (runF 6 2 B_Layout_read)
theorem ok_Layout_read (T : Txt K mg) : FnOk P w K mg base CX0 7 T.a_Layout_read T.d_Layout_read ["cls", "text"] (spD ⟨K, T.cl⟩ F_Layout_read) :=
  fnok T.f_Layout_read sc_Layout_read fun cdv A outer s H E hr =>
    (ss_cons (ss_setLc (i := 2) (own := [("piece", 5)]) rfl sc_Layout_read.nd rfl rfl (sw_true rfl rfl rfl (by decide +kernel)) (si_iter (se_split (se_v 1) se_str)) (blkOk_by (N := ["cls", "text", "written", "layout", "at", "piece"]) (sc := defScope s_Layout_read) (by decide +kernel)) (fun _ _ _ _ _ => pg_name (i := 5) sc_Layout_read.nd rfl (Or.inl rfl)) (tgok_name (by decide)) (fun _ _ _ _ _ => pts_yes) (fun _ _ _ _ _ => (se_call (ok_read_piece T) (hr.mono (by decide)) rfl T.g_read_piece T.p_read_piece T.n_read_piece (sa_cons (se_v 5) sa_nil))))
      (ss_cons (ss_if (st_in hr se_non (se_v 2)) (ss_one ss_never) ss_nil)
      (ss_cons (ss_tryN (hb := fun pn xe hp => (ss_one (ss_let 3 sc_Layout_read.nd (se_makeV 0 (T.cl_Layout) T.mk_Layout (ok_Layout___init__ T) (hr.mono (by decide)) rfl (Or.inl rfl) T.n_Layout___init__ (sa_cons (se_v 2) sa_nil))))))
      (ss_cons (ss_forS PassesOwn.never rfl (si2_enum rfl T.b_enumerate (se_meth0 (T.cl_Layout) (se_v 3) T.k_Layout T.m_Layout_pieces (ok_Layout_pieces T) (hr.mono (by decide)) T.n_Layout_pieces)) (sg_tup (is := [4, 5]) rfl (pgs_cons (pg_name (i := 4) sc_Layout_read.nd rfl (by first | exact Or.inl rfl | exact Or.inr rfl)) (pgs_cons (pg_name (i := 5) sc_Layout_read.nd rfl (by first | exact Or.inl rfl | exact Or.inr rfl)) pgs_nil)) rfl) (ss_one (ss_if (st_ne hr (se_v 5) (se_at (se_v 2) (se_v 4))) (ss_one ss_never) ss_nil)))
      (ss_one (ss_ret (se_v 3)))))))
theorem sc_piece_text : FnScope ["piece"] ["piece"] (defScope s_piece_text) := ⟨rfl, rfl, rfl, by decide +kernel, rfl, by decide +kernel, by decide +kernel⟩
def B_piece_text : DS := (dSeq (dIf (dB (dBin (gEq false) (dBin gIx (dVar 0) (dC (.int 0))) (dC (.str "top")))) (dRet (dJs [(dC (.str "top ")), (dFmt (dBin gIx (dVar 0) (dC (.int 1))))] Str.empty)) dSkip)
      (dSeq (dIf (dB (dBin (gEq false) (dBin gIx (dVar 0) (dC (.int 0))) (dC (.str "new")))) (dRet (dJs [(dC (.str "new ")), (dFmt (dBin gIx (dVar 0) (dC (.int 1)))), (dC (.str "-")), (dFmt (dBin gIx (dVar 0) (dC (.int 2)))), (dC (.str " x")), (dFmt (dBin gIx (dVar 0) (dC (.int 3))))] Str.empty)) dSkip)
      (dSeq (dIf (dB (dBin (gIs false) (dBin gIx (dVar 0) (dC (.int 2))) (dC .non))) (dRet (dJs [(dC (.str "old ")), (dFmt (dBin gIx (dVar 0) (dC (.int 1)))), (dC (.str "-"))] Str.empty)) dSkip)
      (dSeq (dIf (dB (dBin (gEq false) (dBin gIx (dVar 0) (dC (.int 1))) (dBin gIx (dVar 0) (dC (.int 2))))) (dRet (dJs [(dC (.str "old ")), (dFmt (dBin gIx (dVar 0) (dC (.int 1))))] Str.empty)) dSkip)
      (dRet (dJs [(dC (.str "old ")), (dFmt (dBin gIx (dVar 0) (dC (.int 1)))), (dC (.str "-")), (dFmt (dBin gIx (dVar 0) (dC (.int 2))))] Str.empty))))))
def F_piece_text : DF := (runF 1 1 B_piece_text)
theorem ok_piece_text (T : Txt K mg) : FnOk P w K mg base CX0 1 T.a_piece_text T.d_piece_text ["piece"] (spD ⟨K, T.cl⟩ F_piece_text) :=
  fnok T.f_piece_text sc_piece_text fun cdv A outer s H E hr =>
    (ss_cons (ss_if (st_eq hr (se_at (se_v 0) se_int) se_str) (ss_one (ss_ret (se_joined (.cons se_str (.cons (se_fmt (se_at (se_v 0) se_int)) .nil))))) ss_nil)
      (ss_cons (ss_if (st_eq hr (se_at (se_v 0) se_int) se_str) (ss_one (ss_ret (se_joined (.cons se_str (.cons (se_fmt (se_at (se_v 0) se_int)) (.cons se_str (.cons (se_fmt (se_at (se_v 0) se_int)) (.cons se_str (.cons (se_fmt (se_at (se_v 0) se_int)) .nil))))))))) ss_nil)
      (ss_cons (ss_if (st_is (se_at (se_v 0) se_int) se_non) (ss_one (ss_ret (se_joined (.cons se_str (.cons (se_fmt (se_at (se_v 0) se_int)) (.cons se_str .nil)))))) ss_nil)
      (ss_cons (ss_if (st_eq hr (se_at (se_v 0) se_int) (se_at (se_v 0) se_int)) (ss_one (ss_ret (se_joined (.cons se_str (.cons (se_fmt (se_at (se_v 0) se_int)) .nil))))) ss_nil)
      (ss_one (ss_ret (se_joined (.cons se_str (.cons (se_fmt (se_at (se_v 0) se_int)) (.cons se_str (.cons (se_fmt (se_at (se_v 0) se_int)) .nil)))))))))))
theorem sc_Layout___str__ : FnScope ["self", "piece"] ["self"] (defScope s_Layout___str__) := ⟨rfl, rfl, rfl, by decide +kernel, rfl, by decide +kernel, by decide +kernel⟩
def B_Layout___str__ : DS := (dRet (dJoin (dC (.str "; ")) (dLc [1] (tgName 1) (dIter (dFld "Layout" "parts" (dVar 0))) dYes (dCall F_piece_text (dConsA (dVar 1) dNilA)))))
def F_Layout___str__ : DF := (runF 2 1 B_Layout___str__)
theorem ok_Layout___str__ (T : Txt K mg) : FnOk P w K mg base CX0 2 T.a_Layout___str__ T.d_Layout___str__ ["self"] (spD ⟨K, T.cl⟩ F_Layout___str__) :=
  fnok T.f_Layout___str__ sc_Layout___str__ fun cdv A outer s H E hr =>
    (ss_one (ss_ret (se_join se_str (se_lc (own := [("piece", 1)]) rfl sc_Layout___str__.nd (si_iter (se_fld (T.cl_Layout) T.k_Layout T.na_Layout_parts (se_v 0))) (blkOk_by (N := ["self", "piece"]) (sc := defScope s_Layout___str__) (by decide +kernel)) (fun _ _ _ _ _ => pg_name (i := 1) sc_Layout___str__.nd rfl (Or.inl rfl)) (tgok_name (by decide)) (fun _ _ _ _ _ => pts_yes) (fun _ _ _ _ _ => (se_call (ok_piece_text T) (hr.mono (by decide)) rfl T.g_piece_text T.p_piece_text T.n_piece_text (sa_cons (se_v 1) sa_nil)))))))
theorem sc_layout_text : FnScope ["layout"] ["layout"] (defScope s_layout_text) := ⟨rfl, rfl, rfl, by decide +kernel, rfl, by decide +kernel, by decide +kernel⟩
def B_layout_text : DS := (dRet (dReprO "Layout" F_Layout___str__ (dVar 0)))
def F_layout_text : DF := (runF 1 1 B_layout_text)
theorem ok_layout_text (T : Txt K mg) : FnOk P w K mg base CX0 5 T.a_layout_text T.d_layout_text ["layout"] (spD ⟨K, T.cl⟩ F_layout_text) :=
  fnok T.f_layout_text sc_layout_text fun cdv A outer s H E hr =>
    (ss_one (ss_ret (se_strO (T.cl_Layout) T.m_Layout___str__ (ok_Layout___str__ T) (hr.mono (by decide)) T.n_Layout___str__ rfl T.b_str (se_v 0))))
theorem sc__law_like : FnScope ["_law_found", "_law_due", "_law_k"] ["_law_found", "_law_due"] (defScope s__law_like) := ⟨rfl, rfl, rfl, by decide +kernel, rfl, by decide +kernel, by decide +kernel⟩
def B__law_like (Fr : DF) : DS := (dSeq (dIf (dTru (dUn (gIsi2 "tuple" "list") (dVar 1))) (dSeq (dIf (dOr (dB (dBin (gEq true) (dUn (gIsi "tuple") (dVar 0)) (dUn (gIsi "tuple") (dVar 1)))) (dB (dBin (gEq true) (dUn (gIsi "list") (dVar 0)) (dUn (gIsi "list") (dVar 1))))) (dRet (dC (.bl false))) dSkip)
      (dRet (dAndV (dBin (gEq false) (dCallB gLen (dConsA (dVar 0) dNilA)) (dCallB gLen (dConsA (dVar 1) dNilA))) (dCallB gAll (dConsA (dLc [2] (tgName 2) (dRng1 (dConsA (dCallB gLen (dConsA (dVar 1) dNilA)) dNilA)) dYes (dCall Fr (dConsA (dBin gIx (dVar 0) (dVar 2)) (dConsA (dBin gIx (dVar 1) (dVar 2)) dNilA)))) dNilA))))) dSkip)
      (dSeq (dIf (dOr (dB (dBin (gIs false) (dVar 1) (dC .non))) (dB (dBin (gIs false) (dVar 0) (dC .non)))) (dRet (dAndV (dBin (gIs false) (dVar 1) (dC .non)) (dBin (gIs false) (dVar 0) (dC .non)))) dSkip)
      (dRet (dAndV (dBin (gEq false) (dUn (gIsi "bool") (dVar 0)) (dUn (gIsi "bool") (dVar 1))) (dBin (gEq false) (dVar 0) (dVar 1))))))
def F__law_like : Nat → DF
  | 0 => fun _ _ => .bad
  | k + 1 => runF 3 2 (B__law_like (F__law_like k))
theorem ok__law_like (T : Txt K mg) : ∀ k : Nat, FnOk P w K mg base CX0 (k + 1) T.a__law_like T.d__law_like ["_law_found", "_law_due"] (spD ⟨K, T.cl⟩ (F__law_like k))
  | 0 => ⟨fun _ _ _ _ ⟨_, _, _, _, _, h⟩ => h.elim, fun _ _ _ _ _ _ _ _ _ _ _ _ _ ⟨_, _, _, _, _, h⟩ => h.elim⟩
  | k + 1 => fnok (k := k + 1) T.f__law_like sc__law_like fun cdv A outer s H E hr =>
    (ss_cons (ss_if (st_val (se_isi2 (T := "tuple") (U := "list") rfl T.b_isinstance rfl T.b_tuple (by decide +kernel) rfl T.b_list (by decide +kernel) (se_v 1))) (ss_cons (ss_if (SW.st (sw_or (st_ne hr (se_isi (T := "tuple") rfl T.b_isinstance rfl T.b_tuple (by decide +kernel) (se_v 0)) (se_isi (T := "tuple") rfl T.b_isinstance rfl T.b_tuple (by decide +kernel) (se_v 1))) (sw_or1 (st_ne hr (se_isi (T := "list") rfl T.b_isinstance rfl T.b_list (by decide +kernel) (se_v 0)) (se_isi (T := "list") rfl T.b_isinstance rfl T.b_list (by decide +kernel) (se_v 1)))))) (ss_one (ss_ret se_bl)) ss_nil)
      (ss_one (ss_ret (se_and (se_eq hr (se_callB call_len_seq cs_len rfl T.b_len (by decide +kernel) (sa_cons (se_v 0) sa_nil)) (se_callB call_len_seq cs_len rfl T.b_len (by decide +kernel) (sa_cons (se_v 1) sa_nil))) (se_one (se_callB (cr_all rfl) cs_all rfl T.b_all (by decide +kernel) (sa_cons (se_lc (own := [("_law_k", 2)]) rfl sc__law_like.nd (si_range1 rfl T.b_range (sa_cons (se_callB call_len_seq cs_len rfl T.b_len (by decide +kernel) (sa_cons (se_v 1) sa_nil)) sa_nil)) (blkOk_by (N := ["_law_found", "_law_due", "_law_k"]) (sc := defScope s__law_like) (by decide +kernel)) (fun _ _ _ _ _ => pg_name (i := 2) sc__law_like.nd rfl (Or.inl rfl)) (tgok_name (by decide)) (fun _ _ _ _ _ => pts_yes) (fun _ _ _ _ _ => (se_call (ok__law_like T k) (hr.mono (by omega)) rfl T.g__law_like T.p__law_like T.n__law_like (sa_cons (se_at (se_v 0) (se_v 2)) (sa_cons (se_at (se_v 1) (se_v 2)) sa_nil))))) sa_nil))))))) ss_nil)
      (ss_cons (ss_if (SW.st (sw_or (st_is (se_v 1) se_non) (sw_or1 (st_is (se_v 0) se_non)))) (ss_one (ss_ret (se_and (se_is (se_v 1) se_non) (se_one (se_is (se_v 0) se_non))))) ss_nil)
      (ss_one (ss_ret (se_and (se_eq hr (se_isi (T := "bool") rfl T.b_isinstance rfl T.b_bool (by decide +kernel) (se_v 0)) (se_isi (T := "bool") rfl T.b_isinstance rfl T.b_bool (by decide +kernel) (se_v 1))) (se_one (se_eq hr (se_v 0) (se_v 1))))))))
theorem sc_Layout___eq__ : FnScope ["self", "other"] ["self", "other"] (defScope s_Layout___eq__) := ⟨rfl, rfl, rfl, by decide +kernel, rfl, by decide +kernel, by decide +kernel⟩
def B_Layout___eq__ : DS := (dRet (dAndV (dUn (gIsiO "Layout") (dVar 1)) (dBin (gEq false) (dFld "Layout" "parts" (dVar 0)) (dFld "Layout" "parts" (dVar 1)))))
def F_Layout___eq__ : DF := (runF 2 2 B_Layout___eq__)
theorem ok_Layout___eq__ (T : Txt K mg) : FnOk P w K mg base CX0 1 T.a_Layout___eq__ T.d_Layout___eq__ ["self", "other"] (spD ⟨K, T.cl⟩ F_Layout___eq__) :=
  fnok T.f_Layout___eq__ sc_Layout___eq__ fun cdv A outer s H E hr =>
    (ss_one (ss_ret (se_and (se_isiO (T.cl_Layout) T.eo_Layout.it T.ty_Layout rfl T.b_isinstance rfl T.g_Layout (se_v 1)) (se_one (se_eq hr (se_fld (T.cl_Layout) T.k_Layout T.na_Layout_parts (se_v 0)) (se_fld (T.cl_Layout) T.k_Layout T.na_Layout_parts (se_v 1)))))))
theorem sc_Layout_plain : FnScope ["cls"] ["cls"] (defScope s_Layout_plain) := ⟨rfl, rfl, rfl, by decide +kernel, rfl, by decide +kernel, by decide +kernel⟩
def B_Layout_plain : DS := (dRet (dMakeV 0 "Layout" F_Layout___init__ (dConsA (dC (.tup [.tup [.str "old", .int 0, .non]])) dNilA)))
def F_Layout_plain : DF := (runF 1 1 B_Layout_plain)
theorem ok_Layout_plain (T : Txt K mg) : FnOk P w K mg base CX0 7 T.a_Layout_plain T.d_Layout_plain ["cls"] (spD ⟨K, T.cl⟩ F_Layout_plain) :=
  fnok T.f_Layout_plain sc_Layout_plain fun cdv A outer s H E hr =>
    (ss_one (ss_ret (se_makeV 0 (T.cl_Layout) T.mk_Layout (ok_Layout___init__ T) (hr.mono (by decide)) rfl (Or.inl rfl) T.n_Layout___init__ (sa_cons (se_const (pe_glob (v := .ref T.p_PLAIN) rfl T.c_PLAIN rfl) (T.w_PLAIN _)) sa_nil))))
theorem sc_law : FnScope ["_law_script", "_law_bag_here", "_law_turn", "_law_pieces", "_law_text", "_law_again", "_law_far", "_law_layout", "_law_k"] ["_law_script"] (defScope s_law) := ⟨rfl, rfl, rfl, by decide +kernel, rfl, by decide +kernel, by decide +kernel⟩
def B_law : DS := (dSeq (dSet 1 (dCall F__law_bag (dConsA (dVar 0) dNilA)))
      (dSeq (dFor (tgName 2) (dRng1 (dConsA (dC (.int 4)) dNilA)) (dSeq (dSet 3 (dCall F__law_rolled (dConsA (dCall F__law_any_rows (dConsA (dVar 1) (dConsA (dC (.int 7)) dNilA))) dNilA)))
      (dSeq (dIf (dB (dBin (gEq false) (dCall F__law_pull (dConsA (dVar 1) (dConsA (dC (.int 2)) dNilA))) (dC (.int 0)))) (dSeq (dSet 6 (dLc [8] (tgName 8) (dRng1 (dConsA (dC (.int 4)) dNilA)) dYes (dBin gAdd (dCall F__law_pull (dConsA (dVar 1) (dConsA (dBin gPow (dC (.int 10)) (dC (.int 17))) dNilA))) (dC (.int 100)))))
      (dThaw2 (dSet 3 (dLstC (dConsA (dTup (dConsA (dC (.str "top")) (dConsA (dBin gIx (dVar 6) (dC (.int 0))) dNilA))) (dConsA (dTup (dConsA (dC (.str "old")) (dConsA (dBin gIx (dVar 6) (dC (.int 1))) (dConsA (dBin gAdd (dBin gIx (dVar 6) (dC (.int 1))) (dBin gIx (dVar 6) (dC (.int 2)))) dNilA)))) (dConsA (dTup (dConsA (dC (.str "new")) (dConsA (dBin gAdd (dBin gIx (dVar 6) (dC (.int 1))) (dBin gIx (dVar 6) (dC (.int 2)))) (dConsA (dBin Ip.gSub (dBin gPow (dC (.int 10)) (dC (.int 18))) (dC (.int 2))) (dConsA (dBin gIx (dVar 6) (dC (.int 3))) dNilA))))) dNilA))))) (dDrop (dLm gApp (dVar 3) (dConsA (dTup (dConsA (dC (.str "old")) (dConsA (dBin Ip.gSub (dBin gPow (dC (.int 10)) (dC (.int 18))) (dC (.int 1))) (dConsA (dC .non) dNilA)))) dNilA)))
      dSkip)) dSkip)
      (dSeq (dSet 4 (dCall F__law_layout_text (dConsA (dVar 3) dNilA)))
      (dFor (tgName 5) (dRng1 (dConsA (dC (.int 2)) dNilA)) (dSeq (dSet 7 (dCMethN "Layout" F_Layout_read (dConsA (dVar 4) dNilA)))
      (dSeq (dIf (dNot (dTru (dCall (F__law_like 4) (dConsA (dLst (dConsA (dReprO "Layout" F_Layout___str__ (dVar 7)) (dConsA (dCall F_layout_text (dConsA (dVar 7) dNilA)) dNilA))) (dConsA (dLst (dConsA (dVar 4) (dConsA (dVar 4) dNilA))) dNilA))))) (dRet (dC (.bl false))) dSkip)
      (dIf (dOr (dB (dEqO "Layout" true F_Layout___eq__ (dVar 7) (dMake "Layout" F_Layout___init__ (dConsA (dVar 3) dNilA)))) (dNot (dTru (dCall (F__law_like 4) (dConsA (dMeth "Layout" "pieces" F_Layout_pieces (dVar 7) dNilA) (dConsA (dVar 3) dNilA)))))) (dRet (dC (.bl false))) dSkip))))))))
      (dRet (dAndV (dBin (gEq false) (dReprO "Layout" F_Layout___str__ (dCMeth "Layout" F_Layout_plain)) (dC (.str "old 0-"))) (dEqO "Layout" false F_Layout___eq__ (dCMethN "Layout" F_Layout_read (dConsA (dC (.str "old 0-")) dNilA)) (dCMeth "Layout" F_Layout_plain))))))
def F_law : DF := (runF 9 1 B_law)
theorem ok_law (T : Txt K mg) : FnOk P w K mg base CX0 8 T.a_law T.d_law ["_law_script"] (spD ⟨K, T.cl⟩ F_law) :=
  fnok T.f_law sc_law fun cdv A outer s H E hr =>
    (ss_cons (ss_let 1 sc_law.nd (se_call (ok__law_bag T) (hr.mono (by decide)) rfl T.g__law_bag T.p__law_bag T.n__law_bag (sa_cons (se_v 0) sa_nil)))
      (ss_cons (ss_for PassesOwn.never rfl (si_range1 rfl T.b_range (sa_cons se_int sa_nil)) (sg_v 2 sc_law.nd) (ss_cons (ss_let 3 sc_law.nd (se_call (ok__law_rolled T) (hr.mono (by decide)) rfl T.g__law_rolled T.p__law_rolled T.n__law_rolled (sa_cons (se_call (ok__law_any_rows T) (hr.mono (by decide)) rfl T.g__law_any_rows T.p__law_any_rows T.n__law_any_rows (sa_cons (se_v 1) (sa_cons se_int sa_nil))) sa_nil)))
      (ss_cons (ss_if (st_eq hr (se_call (ok__law_pull T) (hr.mono (by decide)) rfl T.g__law_pull T.p__law_pull T.n__law_pull (sa_cons (se_v 1) (sa_cons se_int sa_nil))) se_int) (ss_cons (ss_setLc (i := 6) (own := [("_law_k", 8)]) rfl sc_law.nd rfl rfl (sw_true rfl rfl rfl (by decide +kernel)) (si_range1 rfl T.b_range (sa_cons se_int sa_nil)) (blkOk_by (N := ["_law_script", "_law_bag_here", "_law_turn", "_law_pieces", "_law_text", "_law_again", "_law_far", "_law_layout", "_law_k"]) (sc := defScope s_law) (by decide +kernel)) (fun _ _ _ _ _ => pg_name (i := 8) sc_law.nd rfl (Or.inl rfl)) (tgok_name (by decide)) (fun _ _ _ _ _ => pts_yes) (fun _ _ _ _ _ => (se_add (se_call (ok__law_pull T) (hr.mono (by decide)) rfl T.g__law_pull T.p__law_pull T.n__law_pull (sa_cons (se_v 1) (sa_cons (se_pow se_int se_int) sa_nil))) se_int)))
      (ss_thaw (ss_let 3 sc_law.nd (se_lstC (sa_cons (se_tup (sa_cons se_str (sa_cons (se_at (se_v 6) se_int) sa_nil))) (sa_cons (se_tup (sa_cons se_str (sa_cons (se_at (se_v 6) se_int) (sa_cons (se_add (se_at (se_v 6) se_int) (se_at (se_v 6) se_int)) sa_nil)))) (sa_cons (se_tup (sa_cons se_str (sa_cons (se_add (se_at (se_v 6) se_int) (se_at (se_v 6) se_int)) (sa_cons (se_sub (se_pow se_int se_int) se_int) (sa_cons (se_at (se_v 6) se_int) sa_nil))))) sa_nil))))) (ss_expr (se_append (se_v 3) (se_tup (sa_cons se_str (sa_cons (se_sub (se_pow se_int se_int) se_int) (sa_cons se_non sa_nil))))))
      ss_nil)) ss_nil)
      (ss_cons (ss_let 4 sc_law.nd (se_call (ok__law_layout_text T) (hr.mono (by decide)) rfl T.g__law_layout_text T.p__law_layout_text T.n__law_layout_text (sa_cons (se_v 3) sa_nil)))
      (ss_one (ss_for PassesOwn.never rfl (si_range1 rfl T.b_range (sa_cons se_int sa_nil)) (sg_v 5 sc_law.nd) (ss_cons (ss_let 7 sc_law.nd (se_cmethN (T.cl_Layout) rfl T.g_Layout T.r_Layout T.cm_Layout_read (ok_Layout_read T) (hr.mono (by decide)) T.n_Layout_read (sa_cons (se_v 4) sa_nil)))
      (ss_cons (ss_if (st_not (st_val (se_call (ok__law_like T 4) (hr.mono (by decide)) rfl T.g__law_like T.p__law_like T.n__law_like (sa_cons (se_lst (sa_cons (se_strO (T.cl_Layout) T.m_Layout___str__ (ok_Layout___str__ T) (hr.mono (by decide)) T.n_Layout___str__ rfl T.b_str (se_v 7)) (sa_cons (se_call (ok_layout_text T) (hr.mono (by decide)) rfl T.g_layout_text T.p_layout_text T.n_layout_text (sa_cons (se_v 7) sa_nil)) sa_nil))) (sa_cons (se_lst (sa_cons (se_v 4) (sa_cons (se_v 4) sa_nil))) sa_nil))))) (ss_one (ss_ret se_bl)) ss_nil)
      (ss_one (ss_if (SW.st (sw_or (st_neO (T.cl_Layout) T.eo_Layout (ok_Layout___eq__ T) (hr.mono (by decide)) T.n_Layout___eq__ (se_v 7) (se_make (T.cl_Layout) T.mk_Layout (ok_Layout___init__ T) (hr.mono (by decide)) rfl T.g_Layout T.n_Layout___init__ (sa_cons (se_v 3) sa_nil))) (sw_or1 (st_not (st_val (se_call (ok__law_like T 4) (hr.mono (by decide)) rfl T.g__law_like T.p__law_like T.n__law_like (sa_cons (se_meth0 (T.cl_Layout) (se_v 7) T.k_Layout T.m_Layout_pieces (ok_Layout_pieces T) (hr.mono (by decide)) T.n_Layout_pieces) (sa_cons (se_v 3) sa_nil)))))))) (ss_one (ss_ret se_bl)) ss_nil))))))))))
      (ss_one (ss_ret (se_and (se_eq hr (se_strO (T.cl_Layout) T.m_Layout___str__ (ok_Layout___str__ T) (hr.mono (by decide)) T.n_Layout___str__ rfl T.b_str (se_cmeth0 (T.cl_Layout) rfl T.g_Layout T.r_Layout T.cm_Layout_plain (ok_Layout_plain T) (hr.mono (by decide)) T.n_Layout_plain)) se_str) (se_one (se_eqO (T.cl_Layout) T.eo_Layout (ok_Layout___eq__ T) (hr.mono (by decide)) T.n_Layout___eq__ (se_cmethN (T.cl_Layout) rfl T.g_Layout T.r_Layout T.cm_Layout_read (ok_Layout_read T) (hr.mono (by decide)) T.n_Layout_read (sa_cons se_str sa_nil)) (se_cmeth0 (T.cl_Layout) rfl T.g_Layout T.r_Layout T.cm_Layout_plain (ok_Layout_plain T) (hr.mono (by decide)) T.n_Layout_plain))))))))
end
end T
end
section
set_option Elab.async false
set_option linter.all false
set_option maxRecDepth 100000
set_option maxHeartbeats 4000000
namespace T
open PySem PyProof.Rows L2 Ip
def spLaw (K : PySem.W.Frag) : Sp := fun vs H Q _ => ∃ (a : Addr) (ns : List Int), vs = [.ref a] ∧ SqL K H a (ns.map V.int) ∧ ns.length ≤ 63 ∧ ∀ H', Q (.bl true) H'
def Main : Prop := ∀ ns : List Int, ns.length ≤ 63 → ∃ M, F_law [.scr ns] [] = .ok (.bl true) M
theorem spLaw_of {K : PySem.W.Frag} {cl : Str → Option Addr} (hM : Main) {vs : List V} {H : Hp} {Q : VK} {E : XK} (tb : TabR ⟨K, cl⟩ H) (h : spLaw K vs H Q E) : spD ⟨K, cl⟩ F_law vs H Q E := by
  obtain ⟨a, ns, rfl, hs, hl, q⟩ := h
  obtain ⟨M, e⟩ := hM ns hl
  refine ⟨⟨[], []⟩, [], [.scr ns], ⟨rfl, .nil, fun _ z => (nomatch z), fun _ z => (nomatch z), fun n c z => (by simp at z), tb⟩, .one (.scr ?_), ?_⟩
  · rcases hs with z | z
    · exact .inl ⟨z, fun w => by rcases w with w | w <;> cases w⟩
    · exact .inr fun _ => .inr z
  · rw [e]
    intro ρ' v H' _ _ r
    cases r
    exact q H'
theorem Txt.tab {K : PySem.W.Frag} {mg : Str → Option Value} (T : Txt K mg) {H : Hp} : TabR ⟨K, T.cl⟩ H := fun q P hq hc => absurd (T.lam q P hq hc) List.not_mem_nil
theorem all_mk {l : PySem.W.OpenLaw} {w : World} {K : PySem.W.Frag} {h : Heap} {mg : Str → Option Value} {fa A_Layout f__law_bag f__law_pull f__law_of f__law_any_rows f__law_rolled f__law_piece_text f__law_layout_text f_read_number f_read_top f_read_old f_read_new f_read_piece f_is_number f_are_numbers f_is_range f_is_piece f_is_open f_row_count f_label_in f_first_label f_may_follow f_first_wrong f_joined f_normal_form f_starts_of f_Layout___init__ f_Layout_pieces f_Layout_read f_piece_text f_Layout___str__ f_layout_text f__law_like f_Layout___eq__ f_Layout_plain f_law : Addr} (hM : Main) (X : K.In h) (G : h.Ns mainGlobals mg) (hfa : mg "law" = some (.ref fa))
    {od__law_bag an__law_bag od__law_pull an__law_pull od__law_of an__law_of od__law_any_rows an__law_any_rows od__law_rolled an__law_rolled od__law_piece_text an__law_piece_text od__law_layout_text an__law_layout_text od_read_number an_read_number od_read_top an_read_top od_read_old an_read_old od_read_new an_read_new od_read_piece an_read_piece od_is_number an_is_number od_are_numbers an_are_numbers od_is_range an_is_range od_is_piece an_is_piece od_is_open an_is_open od_row_count an_row_count od_label_in an_label_in od_first_label an_first_label od_may_follow an_may_follow od_first_wrong an_first_wrong od_joined an_joined od_normal_form an_normal_form od_starts_of an_starts_of od_Layout___init__ an_Layout___init__ od_Layout_pieces an_Layout_pieces od_Layout_read an_Layout_read od_piece_text an_piece_text od_Layout___str__ an_Layout___str__ od_layout_text an_layout_text od__law_like an__law_like od_Layout___eq__ an_Layout___eq__ od_Layout_plain an_Layout_plain od_law an_law : Option Addr} {sl__law_bag sl__law_pull sl__law_of sl__law_any_rows sl__law_rolled sl__law_piece_text sl__law_layout_text sl_read_number sl_read_top sl_read_old sl_read_new sl_read_piece sl_is_number sl_are_numbers sl_is_range sl_is_piece sl_is_open sl_row_count sl_label_in sl_first_label sl_may_follow sl_first_wrong sl_joined sl_normal_form sl_starts_of sl_Layout___init__ sl_Layout_pieces sl_Layout_read sl_piece_text sl_Layout___str__ sl_layout_text sl__law_like sl_Layout___eq__ sl_Layout_plain sl_law : Array (Option Value)} {oc__law_bag kV__law_bag dc__law_bag pm__law_bag cd__law_bag ct__law_bag oc__law_pull kV__law_pull dc__law_pull pm__law_pull cd__law_pull ct__law_pull oc__law_of kV__law_of dc__law_of pm__law_of cd__law_of ct__law_of oc__law_any_rows kV__law_any_rows dc__law_any_rows pm__law_any_rows cd__law_any_rows ct__law_any_rows oc__law_rolled kV__law_rolled dc__law_rolled pm__law_rolled cd__law_rolled ct__law_rolled oc__law_piece_text kV__law_piece_text dc__law_piece_text pm__law_piece_text cd__law_piece_text ct__law_piece_text oc__law_layout_text kV__law_layout_text dc__law_layout_text pm__law_layout_text cd__law_layout_text ct__law_layout_text oc_read_number kV_read_number dc_read_number pm_read_number cd_read_number ct_read_number oc_read_top kV_read_top dc_read_top pm_read_top cd_read_top ct_read_top oc_read_old kV_read_old dc_read_old pm_read_old cd_read_old ct_read_old oc_read_new kV_read_new dc_read_new pm_read_new cd_read_new ct_read_new oc_read_piece kV_read_piece dc_read_piece pm_read_piece cd_read_piece ct_read_piece oc_is_number kV_is_number dc_is_number pm_is_number cd_is_number ct_is_number oc_are_numbers kV_are_numbers dc_are_numbers pm_are_numbers cd_are_numbers ct_are_numbers oc_is_range kV_is_range dc_is_range pm_is_range cd_is_range ct_is_range oc_is_piece kV_is_piece dc_is_piece pm_is_piece cd_is_piece ct_is_piece oc_is_open kV_is_open dc_is_open pm_is_open cd_is_open ct_is_open oc_row_count kV_row_count dc_row_count pm_row_count cd_row_count ct_row_count oc_label_in kV_label_in dc_label_in pm_label_in cd_label_in ct_label_in oc_first_label kV_first_label dc_first_label pm_first_label cd_first_label ct_first_label oc_may_follow kV_may_follow dc_may_follow pm_may_follow cd_may_follow ct_may_follow oc_first_wrong kV_first_wrong dc_first_wrong pm_first_wrong cd_first_wrong ct_first_wrong oc_joined kV_joined dc_joined pm_joined cd_joined ct_joined oc_normal_form kV_normal_form dc_normal_form pm_normal_form cd_normal_form ct_normal_form oc_starts_of kV_starts_of dc_starts_of pm_starts_of cd_starts_of ct_starts_of oc_Layout___init__ kV_Layout___init__ dc_Layout___init__ pm_Layout___init__ cd_Layout___init__ ct_Layout___init__ oc_Layout_pieces kV_Layout_pieces dc_Layout_pieces pm_Layout_pieces cd_Layout_pieces ct_Layout_pieces oc_Layout_read kV_Layout_read dc_Layout_read pm_Layout_read cd_Layout_read ct_Layout_read oc_piece_text kV_piece_text dc_piece_text pm_piece_text cd_piece_text ct_piece_text oc_Layout___str__ kV_Layout___str__ dc_Layout___str__ pm_Layout___str__ cd_Layout___str__ ct_Layout___str__ oc_layout_text kV_layout_text dc_layout_text pm_layout_text cd_layout_text ct_layout_text oc__law_like kV__law_like dc__law_like pm__law_like cd__law_like ct__law_like oc_Layout___eq__ kV_Layout___eq__ dc_Layout___eq__ pm_Layout___eq__ cd_Layout___eq__ ct_Layout___eq__ oc_Layout_plain kV_Layout_plain dc_Layout_plain pm_Layout_plain cd_Layout_plain ct_Layout_plain oc_law kV_law dc_law pm_law cd_law ct_law : Value} {t_Layout_LIMIT : Tok} {tk_MOST_DIGITS : Tok} {P_PLAIN R_PLAIN : Addr} {oP_PLAIN oR_PLAIN : Option Addr} {nP_PLAIN nR_PLAIN : Nat} {sP_PLAIN sR_PLAIN : Array (Option Value)} {tP_PLAIN tR_PLAIN : Tok} {Q_Layout_read : Addr} {R_Layout_read : List Value} {Q_Layout_plain : Addr} {R_Layout_plain : List Value}
    (z_all : PySem.W.nsIn K mainGlobals "all" = some none)
    (z_bool : PySem.W.nsIn K mainGlobals "bool" = some none)
    (z_enumerate : PySem.W.nsIn K mainGlobals "enumerate" = some none)
    (z_int : PySem.W.nsIn K mainGlobals "int" = some none)
    (z_isinstance : PySem.W.nsIn K mainGlobals "isinstance" = some none)
    (z_len : PySem.W.nsIn K mainGlobals "len" = some none)
    (z_list : PySem.W.nsIn K mainGlobals "list" = some none)
    (z_max : PySem.W.nsIn K mainGlobals "max" = some none)
    (z_range : PySem.W.nsIn K mainGlobals "range" = some none)
    (z_str : PySem.W.nsIn K mainGlobals "str" = some none)
    (z_tuple : PySem.W.nsIn K mainGlobals "tuple" = some none)
    (aC_Layout : PySem.W.nsIn K mainGlobals "Layout" = some (some (.ref A_Layout)))
    (pg_Layout : PySem.W.plainGet K A_Layout Str.empty = true)
    (hd_Layout : PySem.W.hasDictIn K A_Layout = true)
    (po_Layout : PySem.W.plainOver K A_Layout = true)
    (sa_Layout : PySem.W.findIn K (.ref A_Layout) "__setattr__" = some (some (.builtin "object.__setattr__")))
    (mk_Layout : PySem.W.makesIn K A_Layout = true)
    (kc_Layout : PySem.W.keepIn K (.ref A_Layout) = true)
    (rd_Layout : PySem.W.readsIn K A_Layout (.type "type") = true)
    (ga_Layout : PySem.W.specialIn K (.ref A_Layout) "__getattribute__" = some (some (.builtin "type.__getattribute__")))
    (na_Layout_parts : PySem.W.findIn K (.ref A_Layout) "parts" = some none)
    (na_Layout_starts : PySem.W.findIn K (.ref A_Layout) "starts" = some none)
    (cv_Layout_LIMIT : PySem.W.findCls K (.ref A_Layout) (.type "type") "LIMIT" = some (.val (.int 60 t_Layout_LIMIT)))
    (gp_MOST_DIGITS : PySem.W.nsIn K mainGlobals "MOST_DIGITS" = some (some (.int 18 tk_MOST_DIGITS)))
    (gp_PLAIN : PySem.W.nsIn K mainGlobals "PLAIN" = some (some (.ref P_PLAIN)))
    (lp_PLAIN : K.lookup P_PLAIN = some ⟨.type "tuple", oP_PLAIN, .seq #[.ref R_PLAIN] nP_PLAIN, sP_PLAIN⟩)
    (lr_PLAIN : K.lookup R_PLAIN = some ⟨.type "tuple", oR_PLAIN, .seq #[.str "old" tP_PLAIN, .int 0 tR_PLAIN, .none] nR_PLAIN, sR_PLAIN⟩)
    (a__law_bag : PySem.W.nsIn K mainGlobals "_law_bag" = some (some (.ref f__law_bag)))
    (l__law_bag : K.lookup f__law_bag = some ⟨oc__law_bag, od__law_bag, .func (PySem.W.fnOf "_law_bag" "_law_bag" (defArgs s__law_bag) (defBody s__law_bag) (defScope s__law_bag) .none kV__law_bag dc__law_bag pm__law_bag an__law_bag cd__law_bag ct__law_bag), sl__law_bag⟩)
    (c__law_bag : PySem.W.codeIn K cd__law_bag "_law_bag" = true)
    (k__law_bag : PySem.W.keepIn K (.ref f__law_bag) = true)
    (a__law_pull : PySem.W.nsIn K mainGlobals "_law_pull" = some (some (.ref f__law_pull)))
    (l__law_pull : K.lookup f__law_pull = some ⟨oc__law_pull, od__law_pull, .func (PySem.W.fnOf "_law_pull" "_law_pull" (defArgs s__law_pull) (defBody s__law_pull) (defScope s__law_pull) .none kV__law_pull dc__law_pull pm__law_pull an__law_pull cd__law_pull ct__law_pull), sl__law_pull⟩)
    (c__law_pull : PySem.W.codeIn K cd__law_pull "_law_pull" = true)
    (k__law_pull : PySem.W.keepIn K (.ref f__law_pull) = true)
    (a__law_of : PySem.W.nsIn K mainGlobals "_law_of" = some (some (.ref f__law_of)))
    (l__law_of : K.lookup f__law_of = some ⟨oc__law_of, od__law_of, .func (PySem.W.fnOf "_law_of" "_law_of" (defArgs s__law_of) (defBody s__law_of) (defScope s__law_of) .none kV__law_of dc__law_of pm__law_of an__law_of cd__law_of ct__law_of), sl__law_of⟩)
    (c__law_of : PySem.W.codeIn K cd__law_of "_law_of" = true)
    (k__law_of : PySem.W.keepIn K (.ref f__law_of) = true)
    (a__law_any_rows : PySem.W.nsIn K mainGlobals "_law_any_rows" = some (some (.ref f__law_any_rows)))
    (l__law_any_rows : K.lookup f__law_any_rows = some ⟨oc__law_any_rows, od__law_any_rows, .func (PySem.W.fnOf "_law_any_rows" "_law_any_rows" (defArgs s__law_any_rows) (defBody s__law_any_rows) (defScope s__law_any_rows) .none kV__law_any_rows dc__law_any_rows pm__law_any_rows an__law_any_rows cd__law_any_rows ct__law_any_rows), sl__law_any_rows⟩)
    (c__law_any_rows : PySem.W.codeIn K cd__law_any_rows "_law_any_rows" = true)
    (k__law_any_rows : PySem.W.keepIn K (.ref f__law_any_rows) = true)
    (a__law_rolled : PySem.W.nsIn K mainGlobals "_law_rolled" = some (some (.ref f__law_rolled)))
    (l__law_rolled : K.lookup f__law_rolled = some ⟨oc__law_rolled, od__law_rolled, .func (PySem.W.fnOf "_law_rolled" "_law_rolled" (defArgs s__law_rolled) (defBody s__law_rolled) (defScope s__law_rolled) .none kV__law_rolled dc__law_rolled pm__law_rolled an__law_rolled cd__law_rolled ct__law_rolled), sl__law_rolled⟩)
    (c__law_rolled : PySem.W.codeIn K cd__law_rolled "_law_rolled" = true)
    (k__law_rolled : PySem.W.keepIn K (.ref f__law_rolled) = true)
    (a__law_piece_text : PySem.W.nsIn K mainGlobals "_law_piece_text" = some (some (.ref f__law_piece_text)))
    (l__law_piece_text : K.lookup f__law_piece_text = some ⟨oc__law_piece_text, od__law_piece_text, .func (PySem.W.fnOf "_law_piece_text" "_law_piece_text" (defArgs s__law_piece_text) (defBody s__law_piece_text) (defScope s__law_piece_text) .none kV__law_piece_text dc__law_piece_text pm__law_piece_text an__law_piece_text cd__law_piece_text ct__law_piece_text), sl__law_piece_text⟩)
    (c__law_piece_text : PySem.W.codeIn K cd__law_piece_text "_law_piece_text" = true)
    (k__law_piece_text : PySem.W.keepIn K (.ref f__law_piece_text) = true)
    (a__law_layout_text : PySem.W.nsIn K mainGlobals "_law_layout_text" = some (some (.ref f__law_layout_text)))
    (l__law_layout_text : K.lookup f__law_layout_text = some ⟨oc__law_layout_text, od__law_layout_text, .func (PySem.W.fnOf "_law_layout_text" "_law_layout_text" (defArgs s__law_layout_text) (defBody s__law_layout_text) (defScope s__law_layout_text) .none kV__law_layout_text dc__law_layout_text pm__law_layout_text an__law_layout_text cd__law_layout_text ct__law_layout_text), sl__law_layout_text⟩)
    (c__law_layout_text : PySem.W.codeIn K cd__law_layout_text "_law_layout_text" = true)
    (k__law_layout_text : PySem.W.keepIn K (.ref f__law_layout_text) = true)
    (a_read_number : PySem.W.nsIn K mainGlobals "read_number" = some (some (.ref f_read_number)))
    (l_read_number : K.lookup f_read_number = some ⟨oc_read_number, od_read_number, .func (PySem.W.fnOf "read_number" "read_number" (defArgs s_read_number) (defBody s_read_number) (defScope s_read_number) .none kV_read_number dc_read_number pm_read_number an_read_number cd_read_number ct_read_number), sl_read_number⟩)
    (c_read_number : PySem.W.codeIn K cd_read_number "read_number" = true)
    (k_read_number : PySem.W.keepIn K (.ref f_read_number) = true)
    (a_read_top : PySem.W.nsIn K mainGlobals "read_top" = some (some (.ref f_read_top)))
    (l_read_top : K.lookup f_read_top = some ⟨oc_read_top, od_read_top, .func (PySem.W.fnOf "read_top" "read_top" (defArgs s_read_top) (defBody s_read_top) (defScope s_read_top) .none kV_read_top dc_read_top pm_read_top an_read_top cd_read_top ct_read_top), sl_read_top⟩)
    (c_read_top : PySem.W.codeIn K cd_read_top "read_top" = true)
    (k_read_top : PySem.W.keepIn K (.ref f_read_top) = true)
    (a_read_old : PySem.W.nsIn K mainGlobals "read_old" = some (some (.ref f_read_old)))
    (l_read_old : K.lookup f_read_old = some ⟨oc_read_old, od_read_old, .func (PySem.W.fnOf "read_old" "read_old" (defArgs s_read_old) (defBody s_read_old) (defScope s_read_old) .none kV_read_old dc_read_old pm_read_old an_read_old cd_read_old ct_read_old), sl_read_old⟩)
    (c_read_old : PySem.W.codeIn K cd_read_old "read_old" = true)
    (k_read_old : PySem.W.keepIn K (.ref f_read_old) = true)
    (a_read_new : PySem.W.nsIn K mainGlobals "read_new" = some (some (.ref f_read_new)))
    (l_read_new : K.lookup f_read_new = some ⟨oc_read_new, od_read_new, .func (PySem.W.fnOf "read_new" "read_new" (defArgs s_read_new) (defBody s_read_new) (defScope s_read_new) .none kV_read_new dc_read_new pm_read_new an_read_new cd_read_new ct_read_new), sl_read_new⟩)
    (c_read_new : PySem.W.codeIn K cd_read_new "read_new" = true)
    (k_read_new : PySem.W.keepIn K (.ref f_read_new) = true)
    (a_read_piece : PySem.W.nsIn K mainGlobals "read_piece" = some (some (.ref f_read_piece)))
    (l_read_piece : K.lookup f_read_piece = some ⟨oc_read_piece, od_read_piece, .func (PySem.W.fnOf "read_piece" "read_piece" (defArgs s_read_piece) (defBody s_read_piece) (defScope s_read_piece) .none kV_read_piece dc_read_piece pm_read_piece an_read_piece cd_read_piece ct_read_piece), sl_read_piece⟩)
    (c_read_piece : PySem.W.codeIn K cd_read_piece "read_piece" = true)
    (k_read_piece : PySem.W.keepIn K (.ref f_read_piece) = true)
    (a_is_number : PySem.W.nsIn K mainGlobals "is_number" = some (some (.ref f_is_number)))
    (l_is_number : K.lookup f_is_number = some ⟨oc_is_number, od_is_number, .func (PySem.W.fnOf "is_number" "is_number" (defArgs s_is_number) (defBody s_is_number) (defScope s_is_number) .none kV_is_number dc_is_number pm_is_number an_is_number cd_is_number ct_is_number), sl_is_number⟩)
    (c_is_number : PySem.W.codeIn K cd_is_number "is_number" = true)
    (k_is_number : PySem.W.keepIn K (.ref f_is_number) = true)
    (a_are_numbers : PySem.W.nsIn K mainGlobals "are_numbers" = some (some (.ref f_are_numbers)))
    (l_are_numbers : K.lookup f_are_numbers = some ⟨oc_are_numbers, od_are_numbers, .func (PySem.W.fnOf "are_numbers" "are_numbers" (defArgs s_are_numbers) (defBody s_are_numbers) (defScope s_are_numbers) .none kV_are_numbers dc_are_numbers pm_are_numbers an_are_numbers cd_are_numbers ct_are_numbers), sl_are_numbers⟩)
    (c_are_numbers : PySem.W.codeIn K cd_are_numbers "are_numbers" = true)
    (k_are_numbers : PySem.W.keepIn K (.ref f_are_numbers) = true)
    (a_is_range : PySem.W.nsIn K mainGlobals "is_range" = some (some (.ref f_is_range)))
    (l_is_range : K.lookup f_is_range = some ⟨oc_is_range, od_is_range, .func (PySem.W.fnOf "is_range" "is_range" (defArgs s_is_range) (defBody s_is_range) (defScope s_is_range) .none kV_is_range dc_is_range pm_is_range an_is_range cd_is_range ct_is_range), sl_is_range⟩)
    (c_is_range : PySem.W.codeIn K cd_is_range "is_range" = true)
    (k_is_range : PySem.W.keepIn K (.ref f_is_range) = true)
    (a_is_piece : PySem.W.nsIn K mainGlobals "is_piece" = some (some (.ref f_is_piece)))
    (l_is_piece : K.lookup f_is_piece = some ⟨oc_is_piece, od_is_piece, .func (PySem.W.fnOf "is_piece" "is_piece" (defArgs s_is_piece) (defBody s_is_piece) (defScope s_is_piece) .none kV_is_piece dc_is_piece pm_is_piece an_is_piece cd_is_piece ct_is_piece), sl_is_piece⟩)
    (c_is_piece : PySem.W.codeIn K cd_is_piece "is_piece" = true)
    (k_is_piece : PySem.W.keepIn K (.ref f_is_piece) = true)
    (a_is_open : PySem.W.nsIn K mainGlobals "is_open" = some (some (.ref f_is_open)))
    (l_is_open : K.lookup f_is_open = some ⟨oc_is_open, od_is_open, .func (PySem.W.fnOf "is_open" "is_open" (defArgs s_is_open) (defBody s_is_open) (defScope s_is_open) .none kV_is_open dc_is_open pm_is_open an_is_open cd_is_open ct_is_open), sl_is_open⟩)
    (c_is_open : PySem.W.codeIn K cd_is_open "is_open" = true)
    (k_is_open : PySem.W.keepIn K (.ref f_is_open) = true)
    (a_row_count : PySem.W.nsIn K mainGlobals "row_count" = some (some (.ref f_row_count)))
    (l_row_count : K.lookup f_row_count = some ⟨oc_row_count, od_row_count, .func (PySem.W.fnOf "row_count" "row_count" (defArgs s_row_count) (defBody s_row_count) (defScope s_row_count) .none kV_row_count dc_row_count pm_row_count an_row_count cd_row_count ct_row_count), sl_row_count⟩)
    (c_row_count : PySem.W.codeIn K cd_row_count "row_count" = true)
    (k_row_count : PySem.W.keepIn K (.ref f_row_count) = true)
    (a_label_in : PySem.W.nsIn K mainGlobals "label_in" = some (some (.ref f_label_in)))
    (l_label_in : K.lookup f_label_in = some ⟨oc_label_in, od_label_in, .func (PySem.W.fnOf "label_in" "label_in" (defArgs s_label_in) (defBody s_label_in) (defScope s_label_in) .none kV_label_in dc_label_in pm_label_in an_label_in cd_label_in ct_label_in), sl_label_in⟩)
    (c_label_in : PySem.W.codeIn K cd_label_in "label_in" = true)
    (k_label_in : PySem.W.keepIn K (.ref f_label_in) = true)
    (a_first_label : PySem.W.nsIn K mainGlobals "first_label" = some (some (.ref f_first_label)))
    (l_first_label : K.lookup f_first_label = some ⟨oc_first_label, od_first_label, .func (PySem.W.fnOf "first_label" "first_label" (defArgs s_first_label) (defBody s_first_label) (defScope s_first_label) .none kV_first_label dc_first_label pm_first_label an_first_label cd_first_label ct_first_label), sl_first_label⟩)
    (c_first_label : PySem.W.codeIn K cd_first_label "first_label" = true)
    (k_first_label : PySem.W.keepIn K (.ref f_first_label) = true)
    (a_may_follow : PySem.W.nsIn K mainGlobals "may_follow" = some (some (.ref f_may_follow)))
    (l_may_follow : K.lookup f_may_follow = some ⟨oc_may_follow, od_may_follow, .func (PySem.W.fnOf "may_follow" "may_follow" (defArgs s_may_follow) (defBody s_may_follow) (defScope s_may_follow) .none kV_may_follow dc_may_follow pm_may_follow an_may_follow cd_may_follow ct_may_follow), sl_may_follow⟩)
    (c_may_follow : PySem.W.codeIn K cd_may_follow "may_follow" = true)
    (k_may_follow : PySem.W.keepIn K (.ref f_may_follow) = true)
    (a_first_wrong : PySem.W.nsIn K mainGlobals "first_wrong" = some (some (.ref f_first_wrong)))
    (l_first_wrong : K.lookup f_first_wrong = some ⟨oc_first_wrong, od_first_wrong, .func (PySem.W.fnOf "first_wrong" "first_wrong" (defArgs s_first_wrong) (defBody s_first_wrong) (defScope s_first_wrong) .none kV_first_wrong dc_first_wrong pm_first_wrong an_first_wrong cd_first_wrong ct_first_wrong), sl_first_wrong⟩)
    (c_first_wrong : PySem.W.codeIn K cd_first_wrong "first_wrong" = true)
    (k_first_wrong : PySem.W.keepIn K (.ref f_first_wrong) = true)
    (a_joined : PySem.W.nsIn K mainGlobals "joined" = some (some (.ref f_joined)))
    (l_joined : K.lookup f_joined = some ⟨oc_joined, od_joined, .func (PySem.W.fnOf "joined" "joined" (defArgs s_joined) (defBody s_joined) (defScope s_joined) .none kV_joined dc_joined pm_joined an_joined cd_joined ct_joined), sl_joined⟩)
    (c_joined : PySem.W.codeIn K cd_joined "joined" = true)
    (k_joined : PySem.W.keepIn K (.ref f_joined) = true)
    (a_normal_form : PySem.W.nsIn K mainGlobals "normal_form" = some (some (.ref f_normal_form)))
    (l_normal_form : K.lookup f_normal_form = some ⟨oc_normal_form, od_normal_form, .func (PySem.W.fnOf "normal_form" "normal_form" (defArgs s_normal_form) (defBody s_normal_form) (defScope s_normal_form) .none kV_normal_form dc_normal_form pm_normal_form an_normal_form cd_normal_form ct_normal_form), sl_normal_form⟩)
    (c_normal_form : PySem.W.codeIn K cd_normal_form "normal_form" = true)
    (k_normal_form : PySem.W.keepIn K (.ref f_normal_form) = true)
    (a_starts_of : PySem.W.nsIn K mainGlobals "starts_of" = some (some (.ref f_starts_of)))
    (l_starts_of : K.lookup f_starts_of = some ⟨oc_starts_of, od_starts_of, .func (PySem.W.fnOf "starts_of" "starts_of" (defArgs s_starts_of) (defBody s_starts_of) (defScope s_starts_of) .none kV_starts_of dc_starts_of pm_starts_of an_starts_of cd_starts_of ct_starts_of), sl_starts_of⟩)
    (c_starts_of : PySem.W.codeIn K cd_starts_of "starts_of" = true)
    (k_starts_of : PySem.W.keepIn K (.ref f_starts_of) = true)
    (a_Layout___init__ : PySem.W.findIn K (.ref A_Layout) "__init__" = some (some (.ref f_Layout___init__)))
    (i_Layout___init__ : PySem.W.isFn K (.ref f_Layout___init__) = true)
    (l_Layout___init__ : K.lookup f_Layout___init__ = some ⟨oc_Layout___init__, od_Layout___init__, .func (PySem.W.fnOf "__init__" "Layout.__init__" (defArgs s_Layout___init__) (defBody s_Layout___init__) (defScope s_Layout___init__) .none kV_Layout___init__ dc_Layout___init__ pm_Layout___init__ an_Layout___init__ cd_Layout___init__ ct_Layout___init__), sl_Layout___init__⟩)
    (c_Layout___init__ : PySem.W.codeIn K cd_Layout___init__ "Layout.__init__" = true)
    (k_Layout___init__ : PySem.W.keepIn K (.ref f_Layout___init__) = true)
    (a_Layout_pieces : PySem.W.findIn K (.ref A_Layout) "pieces" = some (some (.ref f_Layout_pieces)))
    (i_Layout_pieces : PySem.W.isFn K (.ref f_Layout_pieces) = true)
    (l_Layout_pieces : K.lookup f_Layout_pieces = some ⟨oc_Layout_pieces, od_Layout_pieces, .func (PySem.W.fnOf "pieces" "Layout.pieces" (defArgs s_Layout_pieces) (defBody s_Layout_pieces) (defScope s_Layout_pieces) .none kV_Layout_pieces dc_Layout_pieces pm_Layout_pieces an_Layout_pieces cd_Layout_pieces ct_Layout_pieces), sl_Layout_pieces⟩)
    (c_Layout_pieces : PySem.W.codeIn K cd_Layout_pieces "Layout.pieces" = true)
    (k_Layout_pieces : PySem.W.keepIn K (.ref f_Layout_pieces) = true)
    (a_Layout_read : PySem.W.findCls K (.ref A_Layout) (.type "type") "read" = some (.get (.builtin "classmethod.__get__") (.ref Q_Layout_read) .none (.ref A_Layout)))
    (r_Layout_read : PySem.W.recIn K Q_Layout_read "classmethod" = some (.ref f_Layout_read :: R_Layout_read))
    (g_Layout_read : PySem.W.fnIn K f_Layout_read = true)
    (l_Layout_read : K.lookup f_Layout_read = some ⟨oc_Layout_read, od_Layout_read, .func (PySem.W.fnOf "read" "Layout.read" (defArgs s_Layout_read) (defBody s_Layout_read) (defScope s_Layout_read) .none kV_Layout_read dc_Layout_read pm_Layout_read an_Layout_read cd_Layout_read ct_Layout_read), sl_Layout_read⟩)
    (c_Layout_read : PySem.W.codeIn K cd_Layout_read "Layout.read" = true)
    (k_Layout_read : PySem.W.keepIn K (.ref f_Layout_read) = true)
    (a_piece_text : PySem.W.nsIn K mainGlobals "piece_text" = some (some (.ref f_piece_text)))
    (l_piece_text : K.lookup f_piece_text = some ⟨oc_piece_text, od_piece_text, .func (PySem.W.fnOf "piece_text" "piece_text" (defArgs s_piece_text) (defBody s_piece_text) (defScope s_piece_text) .none kV_piece_text dc_piece_text pm_piece_text an_piece_text cd_piece_text ct_piece_text), sl_piece_text⟩)
    (c_piece_text : PySem.W.codeIn K cd_piece_text "piece_text" = true)
    (k_piece_text : PySem.W.keepIn K (.ref f_piece_text) = true)
    (a_Layout___str__ : PySem.W.findIn K (.ref A_Layout) "__str__" = some (some (.ref f_Layout___str__)))
    (i_Layout___str__ : PySem.W.isFn K (.ref f_Layout___str__) = true)
    (l_Layout___str__ : K.lookup f_Layout___str__ = some ⟨oc_Layout___str__, od_Layout___str__, .func (PySem.W.fnOf "__str__" "Layout.__str__" (defArgs s_Layout___str__) (defBody s_Layout___str__) (defScope s_Layout___str__) .none kV_Layout___str__ dc_Layout___str__ pm_Layout___str__ an_Layout___str__ cd_Layout___str__ ct_Layout___str__), sl_Layout___str__⟩)
    (c_Layout___str__ : PySem.W.codeIn K cd_Layout___str__ "Layout.__str__" = true)
    (k_Layout___str__ : PySem.W.keepIn K (.ref f_Layout___str__) = true)
    (a_layout_text : PySem.W.nsIn K mainGlobals "layout_text" = some (some (.ref f_layout_text)))
    (l_layout_text : K.lookup f_layout_text = some ⟨oc_layout_text, od_layout_text, .func (PySem.W.fnOf "layout_text" "layout_text" (defArgs s_layout_text) (defBody s_layout_text) (defScope s_layout_text) .none kV_layout_text dc_layout_text pm_layout_text an_layout_text cd_layout_text ct_layout_text), sl_layout_text⟩)
    (c_layout_text : PySem.W.codeIn K cd_layout_text "layout_text" = true)
    (k_layout_text : PySem.W.keepIn K (.ref f_layout_text) = true)
    (a__law_like : PySem.W.nsIn K mainGlobals "_law_like" = some (some (.ref f__law_like)))
    (l__law_like : K.lookup f__law_like = some ⟨oc__law_like, od__law_like, .func (PySem.W.fnOf "_law_like" "_law_like" (defArgs s__law_like) (defBody s__law_like) (defScope s__law_like) .none kV__law_like dc__law_like pm__law_like an__law_like cd__law_like ct__law_like), sl__law_like⟩)
    (c__law_like : PySem.W.codeIn K cd__law_like "_law_like" = true)
    (k__law_like : PySem.W.keepIn K (.ref f__law_like) = true)
    (a_Layout___eq__ : PySem.W.findIn K (.ref A_Layout) "__eq__" = some (some (.ref f_Layout___eq__)))
    (i_Layout___eq__ : PySem.W.isFn K (.ref f_Layout___eq__) = true)
    (l_Layout___eq__ : K.lookup f_Layout___eq__ = some ⟨oc_Layout___eq__, od_Layout___eq__, .func (PySem.W.fnOf "__eq__" "Layout.__eq__" (defArgs s_Layout___eq__) (defBody s_Layout___eq__) (defScope s_Layout___eq__) .none kV_Layout___eq__ dc_Layout___eq__ pm_Layout___eq__ an_Layout___eq__ cd_Layout___eq__ ct_Layout___eq__), sl_Layout___eq__⟩)
    (c_Layout___eq__ : PySem.W.codeIn K cd_Layout___eq__ "Layout.__eq__" = true)
    (k_Layout___eq__ : PySem.W.keepIn K (.ref f_Layout___eq__) = true)
    (a_Layout_plain : PySem.W.findCls K (.ref A_Layout) (.type "type") "plain" = some (.get (.builtin "classmethod.__get__") (.ref Q_Layout_plain) .none (.ref A_Layout)))
    (r_Layout_plain : PySem.W.recIn K Q_Layout_plain "classmethod" = some (.ref f_Layout_plain :: R_Layout_plain))
    (g_Layout_plain : PySem.W.fnIn K f_Layout_plain = true)
    (l_Layout_plain : K.lookup f_Layout_plain = some ⟨oc_Layout_plain, od_Layout_plain, .func (PySem.W.fnOf "plain" "Layout.plain" (defArgs s_Layout_plain) (defBody s_Layout_plain) (defScope s_Layout_plain) .none kV_Layout_plain dc_Layout_plain pm_Layout_plain an_Layout_plain cd_Layout_plain ct_Layout_plain), sl_Layout_plain⟩)
    (c_Layout_plain : PySem.W.codeIn K cd_Layout_plain "Layout.plain" = true)
    (k_Layout_plain : PySem.W.keepIn K (.ref f_Layout_plain) = true)
    (a_law : PySem.W.nsIn K mainGlobals "law" = some (some (.ref f_law)))
    (l_law : K.lookup f_law = some ⟨oc_law, od_law, .func (PySem.W.fnOf "law" "law" (defArgs s_law) (defBody s_law) (defScope s_law) .none kV_law dc_law pm_law an_law cd_law ct_law), sl_law⟩)
    (c_law : PySem.W.codeIn K cd_law "law" = true)
    (k_law : PySem.W.keepIn K (.ref f_law) = true)
    (eh_Layout : PySem.W.findIn K (.ref A_Layout) "__class__" = some (some (.builtin "object.__class__")))
    (en_Layout : PySem.W.specialIn K (.builtin "object.__class__") "__get__" = some (some (.builtin "getset_descriptor.__get__")))
    (et_Layout : PySem.W.takesIn K (.builtin "object.__class__") = some true)
    (em_Layout : PySem.W.mroIn K A_Layout (.type "object") = some true)
    (ee_Layout : PySem.W.findIn K (.ref A_Layout) "__ne__" = some (some (.builtin "object.__ne__")))
    (ey_Layout : PySem.W.typeIn K (.ref A_Layout) = some (.type "type"))
    : ∃ fd : FuncData, (∀ (s : Shared) (v : Value), BindsTo s fd ⟨[v], []⟩ [("_law_script", v)]) ∧ ∀ base : Heap, K.In base → base.Ns mainGlobals mg → FnOk l.prog w K mg base CX0 8 fa fd ["_law_script"] (spLaw K) := by
  have e := hfa.symm.trans (PySem.W.mg_of X G a_law)
  cases e
  let T : Txt K mg := {
    b_all := PySem.W.mg_none_of X G z_all,
    b_bool := PySem.W.mg_none_of X G z_bool,
    b_enumerate := PySem.W.mg_none_of X G z_enumerate,
    b_int := PySem.W.mg_none_of X G z_int,
    b_isinstance := PySem.W.mg_none_of X G z_isinstance,
    b_len := PySem.W.mg_none_of X G z_len,
    b_list := PySem.W.mg_none_of X G z_list,
    b_max := PySem.W.mg_none_of X G z_max,
    b_range := PySem.W.mg_none_of X G z_range,
    b_str := PySem.W.mg_none_of X G z_str,
    b_tuple := PySem.W.mg_none_of X G z_tuple,
    a_Layout := A_Layout,
    mc_Layout := (.type "type"),
    g_Layout := PySem.W.mg_of X G aC_Layout,
    k_Layout := ⟨pg_Layout, hd_Layout, po_Layout, sa_Layout⟩,
    r_Layout := ⟨rd_Layout, ga_Layout⟩,
    na_Layout_parts := na_Layout_parts,
    na_Layout_starts := na_Layout_starts,
    u_Layout_LIMIT := .int 60 t_Layout_LIMIT,
    v_Layout_LIMIT := ⟨cv_Layout_LIMIT, ⟨_, rfl⟩⟩,
    t_MOST_DIGITS := tk_MOST_DIGITS,
    c_MOST_DIGITS := PySem.W.mg_of X G gp_MOST_DIGITS,
    p_PLAIN := P_PLAIN,
    c_PLAIN := PySem.W.mg_of X G gp_PLAIN,
    w_PLAIN := fun cl H ρ => rv_plain lp_PLAIN lr_PLAIN H ρ,
    a__law_bag := f__law_bag,
    d__law_bag := _,
    g__law_bag := PySem.W.mg_of X G a__law_bag,
    p__law_bag := k__law_bag,
    f__law_bag := fun_mk (st := s__law_bag) l__law_bag c__law_bag k__law_bag,
    n__law_bag := (fun_mk (st := s__law_bag) l__law_bag c__law_bag k__law_bag).binds (ps := ["_law_script"]) fun _ _ _ _ _ _ us hl => match us, hl with | [_], _ => rfl,
    a__law_pull := f__law_pull,
    d__law_pull := _,
    g__law_pull := PySem.W.mg_of X G a__law_pull,
    p__law_pull := k__law_pull,
    f__law_pull := fun_mk (st := s__law_pull) l__law_pull c__law_pull k__law_pull,
    n__law_pull := (fun_mk (st := s__law_pull) l__law_pull c__law_pull k__law_pull).binds (ps := ["_law_bag_here", "_law_size"]) fun _ _ _ _ _ _ us hl => match us, hl with | [_, _], _ => rfl,
    a__law_of := f__law_of,
    d__law_of := _,
    g__law_of := PySem.W.mg_of X G a__law_of,
    p__law_of := k__law_of,
    f__law_of := fun_mk (st := s__law_of) l__law_of c__law_of k__law_of,
    n__law_of := (fun_mk (st := s__law_of) l__law_of c__law_of k__law_of).binds (ps := ["_law_bag_here", "_law_some"]) fun _ _ _ _ _ _ us hl => match us, hl with | [_, _], _ => rfl,
    a__law_any_rows := f__law_any_rows,
    d__law_any_rows := _,
    g__law_any_rows := PySem.W.mg_of X G a__law_any_rows,
    p__law_any_rows := k__law_any_rows,
    f__law_any_rows := fun_mk (st := s__law_any_rows) l__law_any_rows c__law_any_rows k__law_any_rows,
    n__law_any_rows := (fun_mk (st := s__law_any_rows) l__law_any_rows c__law_any_rows k__law_any_rows).binds (ps := ["_law_bag_here", "_law_most"]) fun _ _ _ _ _ _ us hl => match us, hl with | [_, _], _ => rfl,
    a__law_rolled := f__law_rolled,
    d__law_rolled := _,
    g__law_rolled := PySem.W.mg_of X G a__law_rolled,
    p__law_rolled := k__law_rolled,
    f__law_rolled := fun_mk (st := s__law_rolled) l__law_rolled c__law_rolled k__law_rolled,
    n__law_rolled := (fun_mk (st := s__law_rolled) l__law_rolled c__law_rolled k__law_rolled).binds (ps := ["_law_rows"]) fun _ _ _ _ _ _ us hl => match us, hl with | [_], _ => rfl,
    a__law_piece_text := f__law_piece_text,
    d__law_piece_text := _,
    g__law_piece_text := PySem.W.mg_of X G a__law_piece_text,
    p__law_piece_text := k__law_piece_text,
    f__law_piece_text := fun_mk (st := s__law_piece_text) l__law_piece_text c__law_piece_text k__law_piece_text,
    n__law_piece_text := (fun_mk (st := s__law_piece_text) l__law_piece_text c__law_piece_text k__law_piece_text).binds (ps := ["_law_piece"]) fun _ _ _ _ _ _ us hl => match us, hl with | [_], _ => rfl,
    a__law_layout_text := f__law_layout_text,
    d__law_layout_text := _,
    g__law_layout_text := PySem.W.mg_of X G a__law_layout_text,
    p__law_layout_text := k__law_layout_text,
    f__law_layout_text := fun_mk (st := s__law_layout_text) l__law_layout_text c__law_layout_text k__law_layout_text,
    n__law_layout_text := (fun_mk (st := s__law_layout_text) l__law_layout_text c__law_layout_text k__law_layout_text).binds (ps := ["_law_pieces"]) fun _ _ _ _ _ _ us hl => match us, hl with | [_], _ => rfl,
    a_read_number := f_read_number,
    d_read_number := _,
    g_read_number := PySem.W.mg_of X G a_read_number,
    p_read_number := k_read_number,
    f_read_number := fun_mk (st := s_read_number) l_read_number c_read_number k_read_number,
    n_read_number := (fun_mk (st := s_read_number) l_read_number c_read_number k_read_number).binds (ps := ["text"]) fun _ _ _ _ _ _ us hl => match us, hl with | [_], _ => rfl,
    a_read_top := f_read_top,
    d_read_top := _,
    g_read_top := PySem.W.mg_of X G a_read_top,
    p_read_top := k_read_top,
    f_read_top := fun_mk (st := s_read_top) l_read_top c_read_top k_read_top,
    n_read_top := (fun_mk (st := s_read_top) l_read_top c_read_top k_read_top).binds (ps := ["text"]) fun _ _ _ _ _ _ us hl => match us, hl with | [_], _ => rfl,
    a_read_old := f_read_old,
    d_read_old := _,
    g_read_old := PySem.W.mg_of X G a_read_old,
    p_read_old := k_read_old,
    f_read_old := fun_mk (st := s_read_old) l_read_old c_read_old k_read_old,
    n_read_old := (fun_mk (st := s_read_old) l_read_old c_read_old k_read_old).binds (ps := ["text"]) fun _ _ _ _ _ _ us hl => match us, hl with | [_], _ => rfl,
    a_read_new := f_read_new,
    d_read_new := _,
    g_read_new := PySem.W.mg_of X G a_read_new,
    p_read_new := k_read_new,
    f_read_new := fun_mk (st := s_read_new) l_read_new c_read_new k_read_new,
    n_read_new := (fun_mk (st := s_read_new) l_read_new c_read_new k_read_new).binds (ps := ["label", "times"]) fun _ _ _ _ _ _ us hl => match us, hl with | [_, _], _ => rfl,
    a_read_piece := f_read_piece,
    d_read_piece := _,
    g_read_piece := PySem.W.mg_of X G a_read_piece,
    p_read_piece := k_read_piece,
    f_read_piece := fun_mk (st := s_read_piece) l_read_piece c_read_piece k_read_piece,
    n_read_piece := (fun_mk (st := s_read_piece) l_read_piece c_read_piece k_read_piece).binds (ps := ["text"]) fun _ _ _ _ _ _ us hl => match us, hl with | [_], _ => rfl,
    a_is_number := f_is_number,
    d_is_number := _,
    g_is_number := PySem.W.mg_of X G a_is_number,
    p_is_number := k_is_number,
    f_is_number := fun_mk (st := s_is_number) l_is_number c_is_number k_is_number,
    n_is_number := (fun_mk (st := s_is_number) l_is_number c_is_number k_is_number).binds (ps := ["value"]) fun _ _ _ _ _ _ us hl => match us, hl with | [_], _ => rfl,
    a_are_numbers := f_are_numbers,
    d_are_numbers := _,
    g_are_numbers := PySem.W.mg_of X G a_are_numbers,
    p_are_numbers := k_are_numbers,
    f_are_numbers := fun_mk (st := s_are_numbers) l_are_numbers c_are_numbers k_are_numbers,
    n_are_numbers := (fun_mk (st := s_are_numbers) l_are_numbers c_are_numbers k_are_numbers).binds (ps := ["values", "many"]) fun _ _ _ _ _ _ us hl => match us, hl with | [_, _], _ => rfl,
    a_is_range := f_is_range,
    d_is_range := _,
    g_is_range := PySem.W.mg_of X G a_is_range,
    p_is_range := k_is_range,
    f_is_range := fun_mk (st := s_is_range) l_is_range c_is_range k_is_range,
    n_is_range := (fun_mk (st := s_is_range) l_is_range c_is_range k_is_range).binds (ps := ["pair"]) fun _ _ _ _ _ _ us hl => match us, hl with | [_], _ => rfl,
    a_is_piece := f_is_piece,
    d_is_piece := _,
    g_is_piece := PySem.W.mg_of X G a_is_piece,
    p_is_piece := k_is_piece,
    f_is_piece := fun_mk (st := s_is_piece) l_is_piece c_is_piece k_is_piece,
    n_is_piece := (fun_mk (st := s_is_piece) l_is_piece c_is_piece k_is_piece).binds (ps := ["piece"]) fun _ _ _ _ _ _ us hl => match us, hl with | [_], _ => rfl,
    a_is_open := f_is_open,
    d_is_open := _,
    g_is_open := PySem.W.mg_of X G a_is_open,
    p_is_open := k_is_open,
    f_is_open := fun_mk (st := s_is_open) l_is_open c_is_open k_is_open,
    n_is_open := (fun_mk (st := s_is_open) l_is_open c_is_open k_is_open).binds (ps := ["piece"]) fun _ _ _ _ _ _ us hl => match us, hl with | [_], _ => rfl,
    a_row_count := f_row_count,
    d_row_count := _,
    g_row_count := PySem.W.mg_of X G a_row_count,
    p_row_count := k_row_count,
    f_row_count := fun_mk (st := s_row_count) l_row_count c_row_count k_row_count,
    n_row_count := (fun_mk (st := s_row_count) l_row_count c_row_count k_row_count).binds (ps := ["piece"]) fun _ _ _ _ _ _ us hl => match us, hl with | [_], _ => rfl,
    a_label_in := f_label_in,
    d_label_in := _,
    g_label_in := PySem.W.mg_of X G a_label_in,
    p_label_in := k_label_in,
    f_label_in := fun_mk (st := s_label_in) l_label_in c_label_in k_label_in,
    n_label_in := (fun_mk (st := s_label_in) l_label_in c_label_in k_label_in).binds (ps := ["piece", "offset"]) fun _ _ _ _ _ _ us hl => match us, hl with | [_, _], _ => rfl,
    a_first_label := f_first_label,
    d_first_label := _,
    g_first_label := PySem.W.mg_of X G a_first_label,
    p_first_label := k_first_label,
    f_first_label := fun_mk (st := s_first_label) l_first_label c_first_label k_first_label,
    n_first_label := (fun_mk (st := s_first_label) l_first_label c_first_label k_first_label).binds (ps := ["piece"]) fun _ _ _ _ _ _ us hl => match us, hl with | [_], _ => rfl,
    a_may_follow := f_may_follow,
    d_may_follow := _,
    g_may_follow := PySem.W.mg_of X G a_may_follow,
    p_may_follow := k_may_follow,
    f_may_follow := fun_mk (st := s_may_follow) l_may_follow c_may_follow k_may_follow,
    n_may_follow := (fun_mk (st := s_may_follow) l_may_follow c_may_follow k_may_follow).binds (ps := ["before", "piece"]) fun _ _ _ _ _ _ us hl => match us, hl with | [_, _], _ => rfl,
    a_first_wrong := f_first_wrong,
    d_first_wrong := _,
    g_first_wrong := PySem.W.mg_of X G a_first_wrong,
    p_first_wrong := k_first_wrong,
    f_first_wrong := fun_mk (st := s_first_wrong) l_first_wrong c_first_wrong k_first_wrong,
    n_first_wrong := (fun_mk (st := s_first_wrong) l_first_wrong c_first_wrong k_first_wrong).binds (ps := ["pieces"]) fun _ _ _ _ _ _ us hl => match us, hl with | [_], _ => rfl,
    a_joined := f_joined,
    d_joined := _,
    g_joined := PySem.W.mg_of X G a_joined,
    p_joined := k_joined,
    f_joined := fun_mk (st := s_joined) l_joined c_joined k_joined,
    n_joined := (fun_mk (st := s_joined) l_joined c_joined k_joined).binds (ps := ["one", "other"]) fun _ _ _ _ _ _ us hl => match us, hl with | [_, _], _ => rfl,
    a_normal_form := f_normal_form,
    d_normal_form := _,
    g_normal_form := PySem.W.mg_of X G a_normal_form,
    p_normal_form := k_normal_form,
    f_normal_form := fun_mk (st := s_normal_form) l_normal_form c_normal_form k_normal_form,
    n_normal_form := (fun_mk (st := s_normal_form) l_normal_form c_normal_form k_normal_form).binds (ps := ["pieces"]) fun _ _ _ _ _ _ us hl => match us, hl with | [_], _ => rfl,
    a_starts_of := f_starts_of,
    d_starts_of := _,
    g_starts_of := PySem.W.mg_of X G a_starts_of,
    p_starts_of := k_starts_of,
    f_starts_of := fun_mk (st := s_starts_of) l_starts_of c_starts_of k_starts_of,
    n_starts_of := (fun_mk (st := s_starts_of) l_starts_of c_starts_of k_starts_of).binds (ps := ["pieces"]) fun _ _ _ _ _ _ us hl => match us, hl with | [_], _ => rfl,
    a_Layout___init__ := f_Layout___init__,
    d_Layout___init__ := _,
    mk_Layout := ⟨mk_Layout, a_Layout___init__, i_Layout___init__, kc_Layout⟩,
    p_Layout___init__ := k_Layout___init__,
    f_Layout___init__ := fun_mk (st := s_Layout___init__) l_Layout___init__ c_Layout___init__ k_Layout___init__,
    n_Layout___init__ := (fun_mk (st := s_Layout___init__) l_Layout___init__ c_Layout___init__ k_Layout___init__).binds (ps := ["self", "pieces"]) fun _ _ _ _ _ _ us hl => match us, hl with | [_, _], _ => rfl,
    a_Layout_pieces := f_Layout_pieces,
    d_Layout_pieces := _,
    m_Layout_pieces := ⟨a_Layout_pieces, i_Layout_pieces, k_Layout_pieces⟩,
    p_Layout_pieces := k_Layout_pieces,
    f_Layout_pieces := fun_mk (st := s_Layout_pieces) l_Layout_pieces c_Layout_pieces k_Layout_pieces,
    n_Layout_pieces := (fun_mk (st := s_Layout_pieces) l_Layout_pieces c_Layout_pieces k_Layout_pieces).binds (ps := ["self"]) fun _ _ _ _ _ _ us hl => match us, hl with | [_], _ => rfl,
    a_Layout_read := f_Layout_read,
    d_Layout_read := _,
    q_Layout_read := Q_Layout_read,
    cm_Layout_read := ⟨a_Layout_read, ⟨_, r_Layout_read⟩, g_Layout_read⟩,
    p_Layout_read := k_Layout_read,
    f_Layout_read := fun_mk (st := s_Layout_read) l_Layout_read c_Layout_read k_Layout_read,
    n_Layout_read := (fun_mk (st := s_Layout_read) l_Layout_read c_Layout_read k_Layout_read).binds (ps := ["cls", "text"]) fun _ _ _ _ _ _ us hl => match us, hl with | [_, _], _ => rfl,
    a_piece_text := f_piece_text,
    d_piece_text := _,
    g_piece_text := PySem.W.mg_of X G a_piece_text,
    p_piece_text := k_piece_text,
    f_piece_text := fun_mk (st := s_piece_text) l_piece_text c_piece_text k_piece_text,
    n_piece_text := (fun_mk (st := s_piece_text) l_piece_text c_piece_text k_piece_text).binds (ps := ["piece"]) fun _ _ _ _ _ _ us hl => match us, hl with | [_], _ => rfl,
    a_Layout___str__ := f_Layout___str__,
    d_Layout___str__ := _,
    m_Layout___str__ := ⟨a_Layout___str__, i_Layout___str__, k_Layout___str__⟩,
    p_Layout___str__ := k_Layout___str__,
    f_Layout___str__ := fun_mk (st := s_Layout___str__) l_Layout___str__ c_Layout___str__ k_Layout___str__,
    n_Layout___str__ := (fun_mk (st := s_Layout___str__) l_Layout___str__ c_Layout___str__ k_Layout___str__).binds (ps := ["self"]) fun _ _ _ _ _ _ us hl => match us, hl with | [_], _ => rfl,
    a_layout_text := f_layout_text,
    d_layout_text := _,
    g_layout_text := PySem.W.mg_of X G a_layout_text,
    p_layout_text := k_layout_text,
    f_layout_text := fun_mk (st := s_layout_text) l_layout_text c_layout_text k_layout_text,
    n_layout_text := (fun_mk (st := s_layout_text) l_layout_text c_layout_text k_layout_text).binds (ps := ["layout"]) fun _ _ _ _ _ _ us hl => match us, hl with | [_], _ => rfl,
    a__law_like := f__law_like,
    d__law_like := _,
    g__law_like := PySem.W.mg_of X G a__law_like,
    p__law_like := k__law_like,
    f__law_like := fun_mk (st := s__law_like) l__law_like c__law_like k__law_like,
    n__law_like := (fun_mk (st := s__law_like) l__law_like c__law_like k__law_like).binds (ps := ["_law_found", "_law_due"]) fun _ _ _ _ _ _ us hl => match us, hl with | [_, _], _ => rfl,
    a_Layout___eq__ := f_Layout___eq__,
    d_Layout___eq__ := _,
    m_Layout___eq__ := ⟨a_Layout___eq__, i_Layout___eq__, k_Layout___eq__⟩,
    p_Layout___eq__ := k_Layout___eq__,
    f_Layout___eq__ := fun_mk (st := s_Layout___eq__) l_Layout___eq__ c_Layout___eq__ k_Layout___eq__,
    n_Layout___eq__ := (fun_mk (st := s_Layout___eq__) l_Layout___eq__ c_Layout___eq__ k_Layout___eq__).binds (ps := ["self", "other"]) fun _ _ _ _ _ _ us hl => match us, hl with | [_, _], _ => rfl,
    a_Layout_plain := f_Layout_plain,
    d_Layout_plain := _,
    q_Layout_plain := Q_Layout_plain,
    cm_Layout_plain := ⟨a_Layout_plain, ⟨_, r_Layout_plain⟩, g_Layout_plain⟩,
    p_Layout_plain := k_Layout_plain,
    f_Layout_plain := fun_mk (st := s_Layout_plain) l_Layout_plain c_Layout_plain k_Layout_plain,
    n_Layout_plain := (fun_mk (st := s_Layout_plain) l_Layout_plain c_Layout_plain k_Layout_plain).binds (ps := ["cls"]) fun _ _ _ _ _ _ us hl => match us, hl with | [_], _ => rfl,
    a_law := fa,
    d_law := _,
    g_law := PySem.W.mg_of X G a_law,
    p_law := k_law,
    f_law := fun_mk (st := s_law) l_law c_law k_law,
    n_law := (fun_mk (st := s_law) l_law c_law k_law).binds (ps := ["_law_script"]) fun _ _ _ _ _ _ us hl => match us, hl with | [_], _ => rfl,
    eo_Layout := ⟨⟨⟨pg_Layout, hd_Layout, po_Layout, sa_Layout⟩, eh_Layout, en_Layout, et_Layout, em_Layout⟩, a_Layout___eq__, i_Layout___eq__, ee_Layout⟩,
    ty_Layout := ey_Layout }
  exact ⟨_, fun s v => .of_eq rfl, fun base _ _ => (ok_law (P := l.prog) (w := w) (base := base) T).imp fun _ _ _ _ z => spLaw_of hM T.tab z⟩
theorem walk {l : PySem.W.OpenLaw} {q : Program} {loose : List Str} {XP : (Str → Option Value) → Heap → Prop} {YP : World → Heap → Prop} {d : DefRec} {K : Params → PySem.W.Frag} (hn : l.most = some 63) (hdf : d.params.defaults = [])
    (hY : ∀ (w : World) (h : Heap), YP w h → (K w.params).In h)
    (F : ∀ (w : World) (mg : Str → Option Value) (fa : Addr) (h : Heap), (K w.params).In h → h.Ns mainGlobals mg → mg d.name = some (.ref fa) →
      ∃ fd : FuncData, (∀ (s : Shared) (u : Value), BindsTo s fd ⟨[u], []⟩ [("_law_script", u)]) ∧ ∀ base : Heap, (K w.params).In base → base.Ns mainGlobals mg → FnOk l.prog w (K w.params) mg base CX0 8 fa fd ["_law_script"] (spLaw (K w.params))) :
    PySem.W.WalkO q loose XP YP l.row.toRowW d [] (fun f vs => PySem.call f vs) :=
  L2.walk_of (n := 63) (k := 8) (x := "_law_script") (CX := fun _ => CX0) (sp := fun w => spLaw (K w.params)) hn (by decide) hdf ⟨rfl, by decide, by decide⟩ hY F (fun _ _ a ns hl _ hS => ⟨a, ns, rfl, hS, hl, fun _ => rfl⟩) fun _ _ _ _ _ z => z
end T
end
namespace T
open PySem L2 Ip
set_option maxHeartbeats 1000000
theorem app_set (M : Sto) (c c' : Cell) : (M ++ [c]).set M.length c' = M ++ [c'] := by simp
theorem app_at (M : Sto) (c : Cell) : (M ++ [c])[M.length]? = some c := by simp
theorem atn2 (a b : D) : atI [a, b] (-1) = some b := rfl
theorem atn3 (a b c : D) : atI [a, b, c] (-1) = some c := rfl
theorem atn4 (a b c d : D) : atI [a, b, c, d] (-1) = some d := rfl
theorem ar1 (a b : Int) : a + (b - a + 1 - 1) = b := by omega
theorem ar2 (a : Int) : a + 0 = a := by omega
theorem nc0 : ((0 : Nat) : Int) = 0 := rfl
theorem nc1 : ((1 : Nat) : Int) = 1 := rfl
theorem nc2 : ((2 : Nat) : Int) = 2 := rfl
theorem nc3 : ((3 : Nat) : Int) = 3 := rfl
theorem nc4 : ((4 : Nat) : Int) = 4 := rfl
theorem nc5 : ((5 : Nat) : Int) = 5 := rfl
theorem w_tt : decide (Str.ofString "top" = Str.ofString "top") = true := by decide
theorem w_to : decide (Str.ofString "top" = Str.ofString "old") = false := by decide
theorem w_tn : decide (Str.ofString "top" = Str.ofString "new") = false := by decide
theorem w_ot : decide (Str.ofString "old" = Str.ofString "top") = false := by decide
theorem w_oo : decide (Str.ofString "old" = Str.ofString "old") = true := by decide
theorem w_on : decide (Str.ofString "old" = Str.ofString "new") = false := by decide
theorem w_nt : decide (Str.ofString "new" = Str.ofString "top") = false := by decide
theorem w_no : decide (Str.ofString "new" = Str.ofString "old") = false := by decide
theorem w_nn : decide (Str.ofString "new" = Str.ofString "new") = true := by decide
theorem w_et : decide (Str.ofString "" = Str.ofString "top") = false := by decide
theorem w_eo : decide (Str.ofString "" = Str.ofString "old") = false := by decide
theorem sl_13 (a b c d : D) : Ip.cutD [a, b, c, d] (some 1) (some 3) = [b, c] := rfl
theorem sl_03 (a b c d : D) : Ip.cutD [a, b, c, d] none (some 3) = [a, b, c] := rfl
theorem sl_1_2 (a b : D) : Ip.cutD [a, b] (some 1) none = [b] := rfl
theorem sl_1_3 (a b c : D) : Ip.cutD [a, b, c] (some 1) none = [b, c] := rfl
theorem sl_1_4 (a b c d : D) : Ip.cutD [a, b, c, d] (some 1) none = [b, c, d] := rfl
theorem sl_03b (a b c : D) : Ip.cutD [a, b, c] none (some 3) = [a, b, c] := rfl
theorem sl_03c (a b : D) : Ip.cutD [a, b] none (some 3) = [a, b] := rfl
def jn : Pc → Pc → Option Pc
  | .top n, .top m => some (.top (n + m))
  | .old a b, .old c d => if b + 1 = c then some (.old a d) else none
  | .old a b, .opn c => if b + 1 = c then some (.opn a) else none
  | .new a b n, .new c d m => if a = c ∧ b = d then some (.new a b (n + m)) else none
  | _, _ => none
def optD : Option Pc → D
  | some p => p.d
  | none => .non
def isOpn : Pc → Bool
  | .opn _ => true
  | _ => false
theorem appL_ok (y : D) (l : List D) (h : l.length < 16777216) : appL y l = some (l ++ [y]) := if_pos h
local macro_rules | `(tactic| walk_at "evm_33af6a") => `(tactic| simp only [ev_runF, ev_kRun_rt, ev_kRun_nx, ev_seq, ev_kSeq_nx, ev_kSeq_rt, ev_kSeq_bk, ev_kSeq_ct, ev_skip, ev_set, ev_kSet, ev_drop, ev_kDrop, ev_ret, ev_kRet, ev_retN, ev_if, ev_kIf_t, ev_kIf_f, ev_bad, ev_asg, ev_kAsg, ev_asgO, ev_par, ev_kPar, ev_for, ev_kFor, ev_go_nil, ev_go_cons, ev_goO, ev_kGo_nx, ev_kGo_ct, ev_kGo_rt, ev_iter, ev_kIter_l, ev_kIter_t, ev_kIter_s, ev_rng1, ev_rng2, ev_enum, ev_kEnum_l, ev_kEnum_t,
  ev_var, ev_varO, celL_l, asL_ref, asL_lst, ev_c, ev_bin, ev_kBin, ev_kBin2, ev_un, ev_kUn, ev_nilA, ev_consA, ev_kCons, ev_kCons2, ev_tup, ev_lst, ev_lstC, ev_kTup, ev_kLst, ev_kLstC, ev_callB, ev_kCallB, ev_call, ev_kCall, ev_ifE, ev_kIfE_t, ev_kIfE_f, ev_andV, ev_orV, ev_notV, ev_kAndV_t, ev_kAndV_f, ev_kOrV_t, ev_kOrV_f, ev_kNotV, ev_and, ev_or, ev_not, ev_kAnd_t, ev_kAnd_f, ev_kOr_t, ev_kOr_f, ev_kNot, ev_tru, ev_b, ev_kTru_bl, ev_kTru_lst, ev_kTru_tup, ev_kTru_ref, ev_truO, ev_kB, ev_yes,
  ev_chain, ev_kCh0, ev_kCh1, ev_kCh2_t, ev_kCh2_f, ev_kCh3, ev_sl, ev_kSl1, ev_kSl2, ev_kSl3, ev_part, ev_kPart, ev_noPart, ev_fld, ev_kFld, ev_fldO, ev_lm, ev_kLm, ev_lmO, ev_kLm2, g_app, g_clear, ev_setIx, ev_kSetIx3, ev_setO, ev_kSetIx1, ev_kSetIx2,
  bind_ok, bind_bad, liftM_some, liftM_none, noex_ok, noex_bad, g_ixT, g_ixL, g_ixR, g_add_i, g_sub, g_lt, g_le, g_gt, g_ge, g_is_n, g_isnot_n, g_is_i, g_isnot_i, g_is_t, g_isnot_t, g_eq, g_ne, eq_int, eq_str, eq_bl, eq_nn, eq_ni, eq_in, eq_t2, g_lenT, g_lenL, g_lenR, g_slT, g_slL, g_slS, at0, at1, at2, at3, at4, atm1,
  ev_setFld, ev_kSetFld1, ev_make, ev_kMake, ev_kMake2, ev_meth, ev_kMeth2, ev_lenO, ev_kLenO, ev_reprO, ev_kReprO, ev_kReprO2, ev_fmt, ev_js_nil, ev_js_cons, g_listC, g_tupleR, ev_forS, ev_kForS, ev_iter2, ev_enum2, ev_kIter2_l, ev_kIter2_t, ev_kIter2_s, ev_kEnum2_l, ev_kEnum2_t, ev_lc, ev_kLc, ev_kLcEnd, ev_lc_nil, ev_lc_cons, ev_lcO, ev_kLcT_t, ev_kLcT_f, ev_kLcE, wipeE, g_isi_n, g_isi_b, g_isi_i, g_isi_s, g_isi_t, g_isi_l, isA_ii, isA_ib, isA_it, isA_il, isA_bi, isA_bb, isA_bt, isA_bll, isA_ni, isA_nb, isA_nt, isA_nl, isA_si, isA_sb, isA_st, isA_sl, isA_tt, isA_tl, isA_ti, isA_tb, isA_lt, isA_ll, isA_li, isA_lb, g_neg, g_all, bls_nil, bls_cons, List.all_cons, List.all_nil, id_eq, Bool.and_true, Bool.true_and, Nat.reduceLT,
  app_at, app_set, atn2, atn3, atn4, ar1, ar2, nc0, nc1, nc2, nc3, nc4, nc5, Int.reduceEq, Int.reduceNeg, Int.reduceLT, Int.reduceLE, w_tt, w_to, w_tn, w_ot, w_oo, w_on, w_nt, w_no, w_nn, w_et, w_eo, sl_13, sl_03, sl_1_2, sl_1_3, sl_1_4, sl_03b, sl_03c, tgName, tgTup, tgAll,
  List.length_cons, List.length_nil, List.map_cons, List.map_nil, List.cons_append, List.nil_append, List.getElem?_cons_zero, List.getElem?_cons_succ, List.set_cons_zero, List.set_cons_succ, List.replicate, Option.map_some, Option.map_none, Option.bind_some, Option.bind_none, Bool.not_true, Bool.not_false, and_self, true_and, and_true, Bool.false_eq_true, decide_true, decide_false, reduceIte, Nat.reduceAdd, Nat.reduceSub, Nat.reduceLeDiff, Nat.zero_add, List.isEmpty_cons, List.isEmpty_nil])
theorem joined_eq (p q : Pc) (h : isOpn p = false) (M : Sto) : F_joined [p.d, q.d] M = .ok (optD (jn p q)) M := by
  unfold F_joined B_joined
  cases p <;> cases q <;> simp only [Pc.d, isOpn] at h ⊢
  all_goals (try (cases h; done))
  all_goals walk_at "evm_33af6a"
  all_goals (try (simp only [jn, optD, Pc.d]; done))
  all_goals (simp only [jn]; split)
  all_goals (rename_i hc; simp only [hc, optD, Pc.d]; try walk_at "evm_33af6a")
theorem is_open_eq (p : Pc) (M : Sto) : F_is_open [p.d] M = .ok (.bl (isOpn p)) M := by
  unfold F_is_open B_is_open
  cases p <;> simp only [Pc.d, isOpn] <;> walk_at "evm_33af6a"
def pok : Pc → Prop
  | .top n => 1 ≤ n
  | .old a b => 0 ≤ a ∧ a ≤ b
  | .opn a => 0 ≤ a
  | .new a b n => 0 ≤ a ∧ a < b ∧ 1 ≤ n
theorem is_piece_ok (p : Pc) (h : pok p) (M : Sto) : F_is_piece [p.d] M = .ok (.bl true) M := by
  unfold F_is_piece B_is_piece
  cases p with
  | top n =>
    simp only [pok] at h
    simp only [Pc.d, F_are_numbers, B_are_numbers, F_is_number, B_is_number]
    walk_at "evm_33af6a"
    simp only [h, decide_true]
  | old a b =>
    simp only [pok] at h
    have h1 : ¬ a < 0 := by omega
    simp only [Pc.d, F_is_range, B_is_range, F_is_number, B_is_number]
    walk_at "evm_33af6a"
    simp only [h1, h.2, decide_false, decide_true]
    walk_at "evm_33af6a"
    simp only [h1, h.2, decide_false, decide_true]
  | opn a =>
    simp only [pok] at h
    have h1 : ¬ a < 0 := by omega
    simp only [Pc.d, F_is_range, B_is_range, F_is_number, B_is_number]
    walk_at "evm_33af6a"
    simp only [h1, decide_false]
    walk_at "evm_33af6a"
  | new a b n =>
    simp only [pok] at h
    simp only [Pc.d, F_are_numbers, B_are_numbers, F_is_number, B_is_number]
    walk_at "evm_33af6a"
    simp only [h.1, h.2.1, h.2.2, decide_true]
    walk_at "evm_33af6a"
    simp only [h.1, h.2.1, h.2.2, decide_true]
    walk_at "evm_33af6a"
    simp only [h.2.2, decide_true]
def mf : Pc → Pc → Bool
  | .opn _, _ => false
  | .top _, _ => true
  | _, .top _ => false
  | .old _ b, .old c _ => decide (b < c)
  | .old _ b, .opn c => decide (b < c)
  | .old _ b, .new c d _ => decide (b ≤ c) && decide (b ≤ d)
  | .new a b _, .old c _ => decide (a ≤ c) && decide (b ≤ c)
  | .new a b _, .opn c => decide (a ≤ c) && decide (b ≤ c)
  | .new a b _, .new c d _ => decide (a ≤ c) && decide (b ≤ d)
theorem may_follow_eq (p q : Pc) (M : Sto) : F_may_follow [p.d, q.d] M = .ok (.bl (mf p q)) M := by
  unfold F_may_follow B_may_follow
  cases p <;> cases q <;> simp only [Pc.d, mf, F_is_open, B_is_open, F_label_in, B_label_in, F_row_count, B_row_count, F_first_label, B_first_label] <;> walk_at "evm_33af6a"
  · rename_i a b c d n
    by_cases h : b ≤ c
    · simp only [h, decide_true]; walk_at "evm_33af6a"
    · simp only [h, decide_false]; walk_at "evm_33af6a"; simp only [Bool.false_and]
  · rename_i a b n c d
    by_cases h : a ≤ c
    · simp only [h, decide_true]; walk_at "evm_33af6a"
    · simp only [h, decide_false]; walk_at "evm_33af6a"; simp only [Bool.false_and]
  · rename_i a b n c
    by_cases h : a ≤ c
    · simp only [h, decide_true]; walk_at "evm_33af6a"
    · simp only [h, decide_false]; walk_at "evm_33af6a"; simp only [Bool.false_and]
  · rename_i a b n c d m
    by_cases h : a ≤ c
    · simp only [h, decide_true]; walk_at "evm_33af6a"
    · simp only [h, decide_false]; walk_at "evm_33af6a"; simp only [Bool.false_and]
def chain : Pc → List Pc → Prop
  | _, [] => True
  | p, q :: r => pok q ∧ mf p q = true ∧ chain q r
def lastOf : Pc → List Pc → Pc
  | p, [] => p
  | _, q :: r => lastOf q r
def fwBody : DS := (dSeq (dIf (dNot (dTru (dCall F_is_piece (dConsA (dVar 3) dNilA)))) (dRet (dVar 2)) dSkip)
      (dSeq (dIf (dAnd (dB (dBin (gIs true) (dVar 1) (dC .non))) (dNot (dTru (dCall F_may_follow (dConsA (dVar 1) (dConsA (dVar 3) dNilA)))))) (dRet (dVar 2)) dSkip)
      (dSet 1 (dVar 3))))
theorem is_tup (p : Pc) : ∃ l, p.d = .tup l := by cases p <;> exact ⟨_, rfl⟩
theorem fw_step (X : D) (p q : Pc) (a b : Option D) (k : Nat) (M : Sto) (hq : pok q) (hm : mf p q = true) : fwBody [some X, some p.d, some (.int (k : Nat)), some q.d] M = .ok (.nx [some X, some q.d, some (.int (k : Nat)), some q.d]) M := by
  obtain ⟨l, hl⟩ := is_tup p
  have e := may_follow_eq p q M
  unfold fwBody
  walk_at "evm_33af6a"
  rw [is_piece_ok q hq]
  walk_at "evm_33af6a"
  rw [hl]
  walk_at "evm_33af6a"
  rw [hl] at e
  rw [e, hm]
  walk_at "evm_33af6a"
/-- pieces that a layout is made of -/
def valid : List Pc → Prop
  | [] => False
  | p :: r => pok p ∧ chain p r ∧ isOpn (lastOf p r) = true
def lined : List Pc → Prop
  | [] => False
  | p :: r => pok p ∧ chain p r
theorem valid.lined {ps : List Pc} (h : valid ps) : lined ps := by
  cases ps with
  | nil => exact h.elim
  | cons p r => exact ⟨h.1, h.2.1⟩
/-- a sequence of pieces: a list, a tuple, or the list in a cell -/
def isSeq (x : D) (ps : List Pc) (M : Sto) : Prop := x = .lst (ps.map Pc.d) ∨ x = .tup (ps.map Pc.d) ∨ ∃ n, x = .ref n ∧ n < M.length ∧ M[n]? = some (.lst (ps.map Pc.d))
def prevD (ps : List Pc) : Nat → D
  | 0 => .non
  | i + 1 => optD ps[i]?
theorem chain_ix : ∀ (r : List Pc) (p : Pc), chain p r → ∀ (i : Nat) (q : Pc), r[i]? = some q → pok q ∧ ∀ b, (p :: r)[i]? = some b → mf b q = true
  | [], p, _, i, q, h => by simp at h
  | s :: r, p, h, 0, q, hq => by
    have e : s = q := by simpa using hq
    subst e
    exact ⟨h.1, fun b hb => by have e : p = b := by simpa using hb
                               subst e; exact h.2.1⟩
  | s :: r, p, h, i + 1, q, hq => by
    obtain ⟨a, b⟩ := chain_ix r s h.2.2 i q (by simpa using hq)
    exact ⟨a, fun c hc => b c (by simpa using hc)⟩
theorem lastOf_ix : ∀ (r : List Pc) (p : Pc), (p :: r)[r.length]? = some (lastOf p r)
  | [], p => rfl
  | s :: r, p => by
    have := lastOf_ix r s
    simpa [lastOf] using this
theorem enum_at (ps : List Pc) (i : Nat) (M : Sto) : (Src.items (enumD 0 (ps.map Pc.d))).at_ i M = some ((ps[i]?).map fun p => .tup [.int (i : Nat), p.d]) := by
  show some _ = _
  rw [enumD_get]
  simp only [List.getElem?_map, Option.map_map, Nat.zero_add]
  rfl
theorem ecell_at (ps : List Pc) (i n : Nat) (M : Sto) (h : M[n]? = some (.lst (ps.map Pc.d))) : (Src.ecell n).at_ i M = some ((ps[i]?).map fun p => .tup [.int (i : Nat), p.d]) := by
  show (celL M[n]?).map _ = _
  rw [h, celL_l]
  simp only [List.getElem?_map, Option.map_map, Option.map_some]
  rfl
theorem fw_run (x : D) (ps : List Pc) (src : Src) (h : lined ps) (hs : ps.length < 10000000) (M : Sto) (hat : ∀ i, src.at_ i M = some ((ps[i]?).map fun p => .tup [.int (i : Nat), p.d])) :
    ∃ a b, forS (tgTup [2, 3]) fwBody src 20000000 0 [some x, some .non, none, none] M = .ok (.nx [some x, some (prevD ps ps.length), a, b]) M := by
  cases ps with
  | nil => exact h.elim
  | cons p r =>
    obtain ⟨hp, hc⟩ := h
    obtain ⟨e, M', h1, h2, a, b, h3⟩ := forS_inv (t := tgTup [2, 3]) (fb := fwBody) (src := src) (p :: r).length (fun i env M' => M' = M ∧ ∃ a b, env = [some x, some (prevD (p :: r) i), a, b])
      (fun env M' ⟨e, _⟩ => by rw [e, hat]; simp) (fun i env M' hi ⟨e, a, b, ev⟩ => by
        subst e ev
        have hq : (p :: r)[i]? = some (p :: r)[i] := List.getElem?_eq_getElem hi
        refine ⟨_, _, [some x, some (prevD (p :: r) (i + 1)), some (.int (i : Nat)), some ((p :: r)[i]).d], M', by rw [hat, hq]; rfl, rfl, ?_, rfl, _, _, rfl⟩
        show fwBody [some x, some (prevD (p :: r) i), some (.int (i : Nat)), some ((p :: r)[i]).d] M' = _
        cases i with
        | zero =>
          have st : fwBody [some x, some .non, some (.int ((0 : Nat) : Int)), some p.d] M' = .ok (.nx [some x, some p.d, some (.int ((0 : Nat) : Int)), some p.d]) M' := by
            unfold fwBody
            walk_at "evm_33af6a"
            rw [is_piece_ok p hp]
            walk_at "evm_33af6a"
          exact st
        | succ i =>
          have hr : r[i]? = some (p :: r)[i + 1] := by simpa using hq
          obtain ⟨k1, k2⟩ := chain_ix r p hc i _ hr
          have hb : (p :: r)[i]? = some ((p :: r)[i]'(by omega)) := List.getElem?_eq_getElem _
          have st := fw_step x ((p :: r)[i]'(by omega)) (p :: r)[i + 1] none none (i + 1) M' k1 (k2 _ hb)
          have e1 : prevD (p :: r) (i + 1) = ((p :: r)[i]'(by omega)).d := by
            show optD (p :: r)[i]? = _
            rw [hb]; rfl
          have e2 : prevD (p :: r) (i + 1 + 1) = ((p :: r)[i + 1]).d := by
            show optD (p :: r)[i + 1]? = _
            rw [hq]; rfl
          rw [e1, e2]
          exact st) (p :: r).length 0 20000000 [some x, some .non, none, none] M (by simp) (by omega) ⟨rfl, none, none, rfl⟩
    subst h2 h3
    exact ⟨a, b, h1⟩
theorem first_wrong_ok (x : D) (ps : List Pc) (M : Sto) (hx : isSeq x ps M) (h : valid ps) (hs : ps.length < 10000000) : F_first_wrong [x] M = .ok .non M := by
  have hl : ∃ q, prevD ps ps.length = q.d ∧ isOpn q = true := by
    cases ps with
    | nil => exact h.elim
    | cons p r => exact ⟨lastOf p r, by show optD (p :: r)[r.length]? = _; rw [lastOf_ix]; rfl, h.2.2⟩
  obtain ⟨q, e1, ho⟩ := hl
  obtain ⟨l, hl⟩ := is_tup q
  have eo := is_open_eq q M
  rw [ho, hl] at eo
  have fin : ∀ a b src, forS (tgTup [2, 3]) fwBody src 20000000 0 [some x, some .non, none, none] M = .ok (.nx [some x, some (prevD ps ps.length), a, b]) M → kEnum2 x M = .ok src M → F_first_wrong [x] M = .ok .non M := by
    intro a b src e2 e3
    unfold F_first_wrong B_first_wrong
    walk_at "evm_33af6a"
    rw [e3]
    walk_at "evm_33af6a"
    rw [show (dSeq _ _ : DS) = fwBody from rfl, e2, e1, hl]
    walk_at "evm_33af6a"
    rw [eo]
    walk_at "evm_33af6a"
  rcases hx with rfl | rfl | ⟨n, rfl, hn, hm⟩
  · obtain ⟨a, b, e2⟩ := fw_run _ ps (.items (enumD 0 (ps.map Pc.d))) h.lined hs M (fun i => enum_at ps i M)
    exact fin a b _ e2 rfl
  · obtain ⟨a, b, e2⟩ := fw_run _ ps (.items (enumD 0 (ps.map Pc.d))) h.lined hs M (fun i => enum_at ps i M)
    exact fin a b _ e2 rfl
  · obtain ⟨a, b, e2⟩ := fw_run _ ps (.ecell n) h.lined hs M (fun i => ecell_at ps i n M hm)
    exact fin a b _ e2 (ev_kEnum2_r M n _ hm)
def nfS (acc : List Pc) (p : Pc) : List Pc := match acc.getLast? with
  | none => acc ++ [p]
  | some l => match jn l p with
    | none => acc ++ [p]
    | some r => acc.dropLast ++ [r]
def nf (ps : List Pc) : List Pc := ps.foldl nfS []
def nfBody : DS := (dSeq (dSet 3 (dIfE (dTru (dVar 1)) (dCall F_joined (dConsA (dBin gIx (dVar 1) (dUn gNeg (dC (.int 1)))) (dConsA (dVar 2) dNilA))) (dC .non)))
      (dIf (dB (dBin (gIs false) (dVar 3) (dC .non))) (dDrop (dLm gApp (dVar 1) (dConsA (dVar 2) dNilA))) (dSetIx (dVar 1) (dUn gNeg (dC (.int 1))) (dVar 3))))
theorem ix_last {α : Type} (l : List α) (x : α) : ixN (l ++ [x]).length (-1) = some l.length := by
  simp [ixN]
  omega
theorem nf_step (X : D) (b : Option D) (M : Sto) (acc : List Pc) (q : Pc) (ha : ∀ l, acc.getLast? = some l → isOpn l = false) (hl : acc.length < 16777216) :
    ∃ b', nfBody [some X, some (.ref M.length), some q.d, b] (M ++ [.lst (acc.map Pc.d)]) = .ok (.nx [some X, some (.ref M.length), some q.d, b']) (M ++ [.lst ((nfS acc q).map Pc.d)]) := by
  unfold nfBody
  cases hacc : acc.getLast? with
  | none =>
    have e : acc = [] := List.getLast?_eq_none_iff.mp hacc
    subst e
    refine ⟨some .non, ?_⟩
    walk_at "evm_33af6a"
    rw [appL_ok _ _ (by simp)]
    walk_at "evm_33af6a"
    simp [nfS]
  | some l =>
    obtain ⟨t, rfl⟩ : ∃ t, acc = t ++ [l] := ⟨acc.dropLast, by
      have hne : acc ≠ [] := fun z => by subst z; cases hacc
      rw [List.getLast?_eq_some_getLast hne] at hacc
      have := List.dropLast_concat_getLast hne
      rw [Option.some.inj hacc] at this
      exact this.symm⟩
    have hj := joined_eq l q (ha l hacc) (M ++ [.lst ((t ++ [l]).map Pc.d)])
    have em : (t ++ [l]).map Pc.d = t.map Pc.d ++ [l.d] := by simp
    have ne : (t.map Pc.d ++ [l.d]).isEmpty = false := by simp
    cases hjn : jn l q with
    | none =>
      rw [hjn] at hj
      refine ⟨some .non, ?_⟩
      rw [em] at hj ⊢
      walk_at "evm_33af6a"
      simp only [ne]
      walk_at "evm_33af6a"
      rw [hj]
      simp only [optD]
      walk_at "evm_33af6a"
      rw [appL_ok _ _ (by simpa using hl)]
      walk_at "evm_33af6a"
      simp [nfS, hacc, hjn]
    | some r =>
      rw [hjn] at hj
      obtain ⟨lr, hr⟩ := is_tup r
      refine ⟨some r.d, ?_⟩
      rw [em] at hj ⊢
      walk_at "evm_33af6a"
      simp only [ne]
      walk_at "evm_33af6a"
      rw [hj]
      simp only [optD, hr]
      walk_at "evm_33af6a"
      simp only [putL, ix_last]
      walk_at "evm_33af6a"
      simp [nfS, hacc, hjn, hr]
section
set_option Elab.async false
set_option linter.all false
set_option maxRecDepth 100000
set_option maxHeartbeats 4000000
theorem jn_opn {l q r : Pc} (h : jn l q = some r) : isOpn r = isOpn q := by
  cases l <;> cases q <;> simp only [jn] at h <;> first | (cases h; done) | skip
  · cases h; rfl
  all_goals (split at h; all_goals first | (cases h; rfl) | (cases h; done))
theorem nfS_last (acc : List Pc) (q : Pc) : ∃ r, (nfS acc q).getLast? = some r ∧ isOpn r = isOpn q := by
  unfold nfS
  cases h : acc.getLast? with
  | none => exact ⟨q, by simp, rfl⟩
  | some l =>
    cases hj : jn l q with
    | none => exact ⟨q, by simp [hj], rfl⟩
    | some r => exact ⟨r, by simp [hj], jn_opn hj⟩
theorem nfS_len (acc : List Pc) (q : Pc) : (nfS acc q).length ≤ acc.length + 1 := by
  unfold nfS
  split
  · simp
  · split
    · simp
    · simp
theorem nf_take_last (ps : List Pc) (i : Nat) (l : Pc) (h : (nf (ps.take i)).getLast? = some l) (hi : i ≤ ps.length) : ∃ q, (ps.take i).getLast? = some q ∧ isOpn l = isOpn q := by
  cases e : (ps.take i).getLast? with
  | none =>
    rw [List.getLast?_eq_none_iff] at e
    rw [e] at h
    cases h
  | some q =>
    obtain ⟨t, ht⟩ : ∃ t, ps.take i = t ++ [q] := ⟨(ps.take i).dropLast, by
      have hne : ps.take i ≠ [] := fun z => by rw [z] at e; cases e
      rw [List.getLast?_eq_some_getLast hne] at e
      have := List.dropLast_concat_getLast hne
      rw [Option.some.inj e] at this
      exact this.symm⟩
    refine ⟨q, rfl, ?_⟩
    rw [ht] at h
    unfold nf at h
    rw [List.foldl_append] at h
    obtain ⟨r, hr, ho⟩ := nfS_last (t.foldl nfS []) q
    have h' : (nfS (t.foldl nfS []) q).getLast? = some l := h
    rw [hr] at h'; cases h'
    exact ho
theorem nf_len : ∀ (ps acc : List Pc), (ps.foldl nfS acc).length ≤ acc.length + ps.length
  | [], acc => by simp
  | q :: r, acc => by
    have h1 := nf_len r (nfS acc q)
    have h2 := nfS_len acc q
    simp only [List.foldl_cons, List.length_cons]
    omega
theorem nf_run (x : D) (ps : List Pc) (src : Src) (M : Sto) (h : ∀ p ∈ ps.dropLast, isOpn p = false) (hl : ps.length < 10000000) (hat : ∀ i c, src.at_ i (M ++ [c]) = some ((ps[i]?).map Pc.d)) :
    ∃ a b, forS (tgName 2) nfBody src 20000000 0 [some x, some (.ref M.length), none, none] (M ++ [.lst []]) = .ok (.nx [some x, some (.ref M.length), a, b]) (M ++ [.lst ((nf ps).map Pc.d)]) := by
  obtain ⟨e, M', h1, ⟨a, b, h2⟩, h3⟩ := forS_inv (t := tgName 2) (fb := nfBody) (src := src) ps.length (fun i env M' => (∃ a b, env = [some x, some (.ref M.length), a, b]) ∧ M' = M ++ [.lst ((nf (ps.take i)).map Pc.d)])
    (fun env M' ⟨_, e⟩ => by rw [e, hat]; simp) (fun i env M' hi ⟨⟨a, b, e1⟩, e2⟩ => by
      subst e1 e2
      have hq : ps[i]? = some ps[i] := List.getElem?_eq_getElem hi
      have hlen : (nf (ps.take i)).length < 16777216 := by
        have := nf_len (ps.take i) []
        unfold nf
        simp at this
        omega
      obtain ⟨b', st⟩ := nf_step x b M (nf (ps.take i)) ps[i] (fun l hl => by
        obtain ⟨q, hq1, hq2⟩ := nf_take_last ps i l hl (by omega)
        rw [hq2]
        refine h q ?_
        have hm : q ∈ ps.take i := List.mem_of_getLast? hq1
        rw [List.dropLast_eq_take]
        exact (List.take_subset_take_left ps (by omega)) hm) hlen
      refine ⟨_, _, _, _, by rw [hat, hq]; rfl, rfl, st, ⟨_, _, rfl⟩, ?_⟩
      have et : ps.take (i + 1) = ps.take i ++ [ps[i]] := by rw [List.take_succ, hq]; rfl
      rw [et]
      unfold nf
      rw [List.foldl_append]
      rfl) ps.length 0 20000000 [some x, some (.ref M.length), none, none] (M ++ [.lst []]) (by simp) (by omega) ⟨⟨none, none, rfl⟩, rfl⟩
  subst h2 h3
  rw [List.take_length] at h1
  exact ⟨a, b, h1⟩
theorem closed_pc (k : Nat) (p : Pc) : closed k p.d = true := by cases p <;> simp [Pc.d, closed, closedAll]
theorem closed_pcs (k : Nat) : ∀ ps : List Pc, closedAll k (ps.map Pc.d) = true
  | [] => rfl
  | p :: r => by simp [closedAll, closed_pc, closed_pcs k r]
theorem closed_ints (k : Nat) : ∀ ns : List Int, closedAll k (ns.map D.int) = true
  | [] => rfl
  | n :: r => by simp [closedAll, closed, closed_ints k r]
theorem frz_new {M : Sto} (hM : PureS M) {L : List D} (hL : closedAll M.length L = true) : frzO M.length (.ref M.length) (M ++ [.lst L]) = .ok (.lst L) M := by
  unfold frzO thaw
  simp only [Nat.lt_irrefl, if_false, app_at, hL, if_true, List.take_left, hM M.length]
theorem normal_form_eq (x : D) (ps : List Pc) (M : Sto) (hx : isSeq x ps M) (h : ∀ p ∈ ps.dropLast, isOpn p = false) (hl : ps.length < 10000000) (hM : PureS M) :
    F_normal_form [x] M = .ok (.lst ((nf ps).map Pc.d)) M := by
  have fz : frzO M.length (.ref M.length) (M ++ [.lst ((nf ps).map Pc.d)]) = .ok (.lst ((nf ps).map Pc.d)) M := frz_new hM (closed_pcs _ _)
  have fin : ∀ a b src, forS (tgName 2) nfBody src 20000000 0 [some x, some (.ref M.length), none, none] (M ++ [.lst []]) = .ok (.nx [some x, some (.ref M.length), a, b]) (M ++ [.lst ((nf ps).map Pc.d)]) → kIter2 x (M ++ [.lst []]) = .ok src (M ++ [.lst []]) → F_normal_form [x] M = .ok (.lst ((nf ps).map Pc.d)) M := by
    intro a b src e e2
    unfold F_normal_form frz B_normal_form
    walk_at "evm_33af6a"
    rw [e2]
    walk_at "evm_33af6a"
    rw [show (dSeq _ _ : DS) = nfBody from rfl, e]
    walk_at "evm_33af6a"
    exact fz
  rcases hx with rfl | rfl | ⟨n, rfl, hn, hm⟩
  · obtain ⟨a, b, e⟩ := nf_run (.lst (ps.map Pc.d)) ps (.items (ps.map Pc.d)) M h hl (fun i c => by show some _ = _; rw [List.getElem?_map])
    exact fin a b _ e rfl
  · obtain ⟨a, b, e⟩ := nf_run (.tup (ps.map Pc.d)) ps (.items (ps.map Pc.d)) M h hl (fun i c => by show some _ = _; rw [List.getElem?_map])
    exact fin a b _ e rfl
  · have hm' : ∀ c : Cell, (M ++ [c])[n]? = some (.lst (ps.map Pc.d)) := fun c => by rw [List.getElem?_append_left hn]; exact hm
    obtain ⟨a, b, e⟩ := nf_run (.ref n) ps (.cell n) M h hl (fun i c => by
      show (celL (M ++ [c])[n]?).map _ = _
      rw [hm' c, celL_l]
      simp only [List.getElem?_map, Option.map_some])
    exact fin a b _ e (ev_kIter2_r _ n _ (hm' _))
theorem forS_items (t : DG) (fb : DS) (l : List D) : ∀ (f i : Nat) (env : En) (M : Sto), l.length < f + i → i ≤ l.length → forS t fb (.items l) f i env M = forGo t fb (l.drop i) env M
  | 0, i, env, M, h1, h2 => absurd h1 (by omega)
  | f + 1, i, env, M, h1, h2 => by
    unfold forS
    rw [show (Src.items l).at_ i M = some l[i]? from rfl]
    by_cases hi : i < l.length
    · have hq : l[i]? = some l[i] := List.getElem?_eq_getElem hi
      have hd : l.drop i = l[i] :: l.drop (i + 1) := List.drop_eq_getElem_cons hi
      rw [hq, hd]
      unfold forGo
      simp only
      cases t l[i] env with
      | none => rfl
      | some env1 =>
        show (fb env1 M).bind _ = (fb env1 M).bind _
        cases fb env1 M with
        | bad => rfl
        | exc _ _ _ => rfl
        | ok fl M1 =>
          cases fl with
          | nx e => exact forS_items t fb l f (i + 1) e M1 (by omega) hi
          | ct e => exact forS_items t fb l f (i + 1) e M1 (by omega) hi
          | bk e => rfl
          | rt d => rfl
    · have hq : l[i]? = none := List.getElem?_eq_none_iff.mpr (by omega)
      have hd : l.drop i = [] := List.drop_eq_nil_of_le (by omega)
      rw [hq, hd]
      rfl
def rc : Pc → Int
  | .top n => n
  | .old a b => b - a + 1
  | .opn _ => 0
  | .new _ _ n => n
theorem row_count_eq (p : Pc) (h : isOpn p = false) (M : Sto) : F_row_count [p.d] M = .ok (.int (rc p)) M := by
  unfold F_row_count B_row_count
  cases p <;> simp only [Pc.d, rc, isOpn] at h ⊢
  all_goals (try (cases h; done))
  all_goals walk_at "evm_33af6a"
def soBody : DS := (dDrop (dLm gApp (dVar 1) (dConsA (dBin gAdd (dBin gIx (dVar 1) (dUn gNeg (dC (.int 1)))) (dCall F_row_count (dConsA (dVar 2) dNilA))) dNilA)))
/-- where the pieces begin, the first at s -/
def stsF : Int → List Pc → List Int
  | s, [] => [s]
  | s, p :: r => s :: stsF (s + rc p) r
theorem so_loop (X : D) (M : Sto) : ∀ (ps : List Pc) (acc : List Int) (s : Int) (a : Option D), (∀ p ∈ ps, isOpn p = false) → acc.length + ps.length < 16777215 →
    ∃ (a' : Option D), forGo (tgName 2) soBody (ps.map Pc.d) [some X, some (.ref M.length), a] (M ++ [.lst ((acc ++ [s]).map D.int)]) = .ok (.nx [some X, some (.ref M.length), a']) (M ++ [.lst ((acc ++ stsF s ps).map D.int)])
  | [], acc, s, a, _, _ => ⟨a, rfl⟩
  | q :: r, acc, s, a, h, hl => by
    simp only [List.length_cons] at hl
    obtain ⟨a', e⟩ := so_loop X M r (acc ++ [s]) (s + rc q) (some q.d) (fun p hp => h p (List.mem_cons_of_mem _ hp)) (by simp; omega)
    refine ⟨a', ?_⟩
    have em : (acc ++ [s]).map D.int = acc.map D.int ++ [.int s] := by simp
    have st : soBody [some X, some (.ref M.length), some q.d] (M ++ [.lst ((acc ++ [s]).map D.int)]) = .ok (.nx [some X, some (.ref M.length), some q.d]) (M ++ [.lst ((acc ++ [s] ++ [s + rc q]).map D.int)]) := by
      unfold soBody
      rw [em]
      walk_at "evm_33af6a"
      rw [row_count_eq q (h q List.mem_cons_self)]
      walk_at "evm_33af6a"
      rw [appL_ok _ _ (by simp; omega)]
      walk_at "evm_33af6a"
      simp
    simp only [List.map_cons, ev_go_cons, tgName, List.set_cons_zero, List.set_cons_succ, ev_goO]
    rw [st]
    simp only [bind_ok, ev_kGo_nx]
    rw [e]
    simp [stsF]
theorem cut_m1 (l : List D) : Ip.cutD l none (some (-1)) = l.dropLast := by
  unfold Ip.cutD HT.sIx
  simp only [List.drop_zero, Nat.sub_zero]
  rw [List.dropLast_eq_take]
  congr 1
  rw [if_pos (by decide)]
  omega
theorem starts_of_eq' (ps : List Pc) (h : ∀ p ∈ ps.dropLast, isOpn p = false) (hl : ps.length < 10000000) (M : Sto) (hM : PureS M) : F_starts_of [.lst (ps.map Pc.d)] M = .ok (.lst ((stsF 0 ps.dropLast).map D.int)) M := by
  obtain ⟨a', e⟩ := so_loop (.lst (ps.map Pc.d)) M ps.dropLast [] 0 none h (by simp; omega)
  have fz : frzO M.length (.ref M.length) (M ++ [.lst ((stsF 0 ps.dropLast).map D.int)]) = .ok (.lst ((stsF 0 ps.dropLast).map D.int)) M := frz_new hM (closed_ints _ _)
  unfold F_starts_of frz B_starts_of
  have ed : (ps.map Pc.d).dropLast = ps.dropLast.map Pc.d := by simp [List.map_dropLast]
  simp only [List.nil_append, List.map_cons, List.map_nil] at e
  walk_at "evm_33af6a"
  rw [cut_m1, ed]
  rw [show (dDrop _ : DS) = soBody from rfl, forS_items _ _ _ _ _ _ _ (by simp; omega) (Nat.zero_le _), List.drop_zero, e]
  walk_at "evm_33af6a"
  exact fz
end
section
set_option Elab.async false
set_option linter.all false
set_option maxRecDepth 100000
set_option maxHeartbeats 4000000
theorem mf_opn {p q : Pc} (h : mf p q = true) : isOpn p = false := by cases p <;> first | rfl | (cases h; done)
theorem chain_drop : ∀ (ps : List Pc) (p : Pc), chain p ps → ∀ q ∈ (p :: ps).dropLast, isOpn q = false
  | [], p, _, q, hq => by simp at hq
  | r :: ps, p, h, q, hq => by
    simp only [List.dropLast_cons₂, List.mem_cons] at hq
    rcases hq with rfl | hq
    · exact mf_opn h.2.1
    · exact chain_drop ps r h.2.2 q hq
theorem valid_drop {ps : List Pc} (h : valid ps) : ∀ q ∈ ps.dropLast, isOpn q = false := by
  cases ps with
  | nil => exact h.elim
  | cons p r => exact chain_drop r p h.2.1
abbrev lks : List Str := ["parts", "starts"]
def lay (qs : List Pc) (ss : List Int) : D := .obj "Layout" lks [.lst (qs.map Pc.d), .lst (ss.map D.int)]
theorem pureS_ins {M : Sto} (h : PureS M) {c : Str} {ks : List Str} {ds : List D} (hd : ∀ k, closedAll k ds = true) : PureS (M ++ [.ins c ks ds]) := fun k => by
  rw [List.all_append, h k]; simp [cellClosed, hd k]
theorem init_eq' (x : D) (ps qs : List Pc) (M : Sto) (hx : isSeq x ps M) (hv : valid ps) (hq : nf ps = qs) (hqd : ∀ q ∈ qs.dropLast, isOpn q = false) (hl : ps.length ≤ 1000000) (hn : qs.length ≤ 60) (hM : PureS M) :
    F_Layout___init__ [.ref M.length, x] (M ++ [.ins "Layout" [] []]) = .ok .non (M ++ [.ins "Layout" lks [.lst (qs.map Pc.d), .lst ((stsF 0 qs.dropLast).map D.int)]]) := by
  have h1 : PureS (M ++ [.ins "Layout" [] []]) := pureS_ins hM fun _ => rfl
  have h2 : PureS (M ++ [.ins "Layout" ["parts"] [.lst (qs.map Pc.d)]]) := pureS_ins hM fun k => by simp [closedAll, closed, closed_pcs]
  have es := starts_of_eq' qs hqd (by omega) _ h2
  unfold F_Layout___init__ B_Layout___init__
  have hx1 : isSeq x ps (M ++ [.ins "Layout" [] []]) := by
    rcases hx with h | h | ⟨n, h, hn, hm⟩
    · exact .inl h
    · exact .inr (.inl h)
    · exact .inr (.inr ⟨n, h, by simp; omega, by rw [List.getElem?_append_left hn]; exact hm⟩)
  have hgt : ¬ (60 : Int) < ((qs.map Pc.d).length : Nat) := by rw [List.length_map]; omega
  walk_at "evm_33af6a"
  rw [first_wrong_ok x ps _ hx1 hv (by omega)]
  walk_at "evm_33af6a"
  rw [normal_form_eq x ps _ hx1 (valid_drop hv) (by omega) h1, hq]
  walk_at "evm_33af6a"
  simp only [hgt, decide_false]
  walk_at "evm_33af6a"
  rw [ev_kSetFld2 (h := app_at _ _) (hk := by decide)]
  walk_at "evm_33af6a"
  simp only [putKs, putVs]
  rw [es]
  walk_at "evm_33af6a"
  rw [ev_kSetFld2 (h := app_at _ _) (hk := by decide)]
  walk_at "evm_33af6a"
  rfl
theorem make_eq' (x : D) (ps qs : List Pc) (M : Sto) (hx : isSeq x ps M) (hv : valid ps) (hq : nf ps = qs) (hqd : ∀ q ∈ qs.dropLast, isOpn q = false) (hl : ps.length ≤ 1000000) (hn : qs.length ≤ 60) (hM : PureS M) :
    kMake "Layout" F_Layout___init__ [x] M = .ok (lay qs (stsF 0 qs.dropLast)) M := by
  have e := init_eq' x ps qs M hx hv hq hqd hl hn hM
  rw [ev_kMake, e, noex_ok, bind_ok, ev_kMake2]
  unfold frzO thaw
  have hc : closedAll M.length [D.lst (qs.map Pc.d), .lst ((stsF 0 qs.dropLast).map D.int)] = true := by simp [closedAll, closed, closed_pcs, closed_ints]
  simp only [Nat.lt_irrefl, if_false, app_at, hc, if_true, List.take_left, hM M.length]
  rfl
end
theorem p1 (a b c d e y : D) : putL 1 y [a, b, c, d, e] = some [a, y, c, d, e] := rfl
theorem p2 (a b c d e y : D) : putL 2 y [a, b, c, d, e] = some [a, b, y, d, e] := rfl
theorem p3 (a b c d e y : D) : putL 3 y [a, b, c, d, e] = some [a, b, c, y, e] := rfl
theorem p4 (a b c d e y : D) : putL 4 y [a, b, c, d, e] = some [a, b, c, d, y] := rfl
theorem gp (M : Sto) : gPow (.int 10) (.int 18) M = some (.int 1000000000000000000, M) := by
  simp [gPow, gIntC]
theorem gm1 (i : Int) (M : Sto) : gMul (.int i) (.int 48271) M = some (.int (i * 48271), M) := g_mul M i 48271 (Or.inr (by decide))
theorem gm2 (i : Int) (M : Sto) : gMul (.int i) (.int 69621) M = some (.int (i * 69621), M) := g_mul M i 69621 (Or.inr (by decide))
theorem gm3 (i : Int) (M : Sto) : gMul (.int i) (.int 5) M = some (.int (i * 5), M) := g_mul M i 5 (Or.inr (by decide))
theorem gm4 (i : Int) (M : Sto) : gMul (.int i) (.int 39373) M = some (.int (i * 39373), M) := g_mul M i 39373 (Or.inr (by decide))
theorem gm5 (i : Int) (M : Sto) : gMul (.int 1013904223) (.int i) M = some (.int (1013904223 * i), M) := g_mul M 1013904223 i (Or.inl (by decide))
theorem gmd (i : Int) (M : Sto) : gMod (.int i) (.int 2147483563) M = some (.int (i % 2147483563), M) := g_mod M i 2147483563 (by decide)
theorem gdv (i : Int) (M : Sto) : gDivW (.int i) (.int 37) M = some (.int (i / 37), M) := g_divW M i 37 (by decide) (by decide)
local macro_rules | `(tactic| walk_at "evm_621bba") => `(tactic| simp only [ev_runF, ev_kRun_rt, ev_kRun_nx, ev_seq, ev_kSeq_nx, ev_kSeq_rt, ev_kSeq_bk, ev_kSeq_ct, ev_skip, ev_set, ev_kSet, ev_drop, ev_kDrop, ev_ret, ev_kRet, ev_retN, ev_if, ev_kIf_t, ev_kIf_f, ev_bad, ev_asg, ev_kAsg, ev_asgO, ev_par, ev_kPar, ev_for, ev_kFor, ev_go_nil, ev_go_cons, ev_goO, ev_kGo_nx, ev_kGo_ct, ev_kGo_rt, ev_iter, ev_kIter_l, ev_kIter_t, ev_kIter_s, ev_rng1, ev_rng2, ev_enum, ev_kEnum_l, ev_kEnum_t,
  ev_var, ev_varO, celL_l, asL_ref, asL_lst, ev_c, ev_bin, ev_kBin, ev_kBin2, ev_un, ev_kUn, ev_nilA, ev_consA, ev_kCons, ev_kCons2, ev_tup, ev_lst, ev_lstC, ev_kTup, ev_kLst, ev_kLstC, ev_callB, ev_kCallB, ev_call, ev_kCall, ev_ifE, ev_kIfE_t, ev_kIfE_f, ev_andV, ev_orV, ev_notV, ev_kAndV_t, ev_kAndV_f, ev_kOrV_t, ev_kOrV_f, ev_kNotV, ev_and, ev_or, ev_not, ev_kAnd_t, ev_kAnd_f, ev_kOr_t, ev_kOr_f, ev_kNot, ev_tru, ev_b, ev_kTru_bl, ev_kTru_lst, ev_kTru_tup, ev_kTru_ref, ev_truO, ev_kB, ev_yes,
  ev_chain, ev_kCh0, ev_kCh1, ev_kCh2_t, ev_kCh2_f, ev_kCh3, ev_sl, ev_kSl1, ev_kSl2, ev_kSl3, ev_part, ev_kPart, ev_noPart, ev_fld, ev_kFld, ev_fldO, ev_lm, ev_kLm, ev_lmO, ev_kLm2, g_app, g_clear, ev_setIx, ev_kSetIx3, ev_setO, ev_kSetIx1, ev_kSetIx2,
  bind_ok, bind_bad, liftM_some, liftM_none, noex_ok, noex_bad, g_ixT, g_ixL, g_ixR, g_add_i, g_sub, g_lt, g_le, g_gt, g_ge, g_is_n, g_isnot_n, g_is_i, g_isnot_i, g_is_t, g_isnot_t, g_eq, g_ne, eq_int, eq_str, eq_bl, eq_nn, eq_ni, eq_in, eq_t2, g_lenT, g_lenL, g_lenR, g_slT, g_slL, g_slS, at0, at1, at2, at3, at4, atm1,
  ev_setFld, ev_kSetFld1, ev_make, ev_kMake, ev_kMake2, ev_meth, ev_kMeth2, ev_lenO, ev_kLenO, ev_reprO, ev_kReprO, ev_kReprO2, ev_fmt, ev_js_nil, ev_js_cons, g_listC, g_tupleR, ev_forS, ev_kForS, ev_iter2, ev_enum2, ev_kIter2_l, ev_kIter2_t, ev_kIter2_s, ev_kEnum2_l, ev_kEnum2_t, ev_lc, ev_kLc, ev_kLcEnd, ev_lc_nil, ev_lc_cons, ev_lcO, ev_kLcT_t, ev_kLcT_f, ev_kLcE, wipeE, g_isi_n, g_isi_b, g_isi_i, g_isi_s, g_isi_t, g_isi_l, isA_ii, isA_ib, isA_it, isA_il, isA_bi, isA_bb, isA_bt, isA_bll, isA_ni, isA_nb, isA_nt, isA_nl, isA_si, isA_sb, isA_st, isA_sl, isA_tt, isA_tl, isA_ti, isA_tb, isA_lt, isA_ll, isA_li, isA_lb, g_neg, g_all, bls_nil, bls_cons, List.all_cons, List.all_nil, id_eq, Bool.and_true, Bool.true_and, Nat.reduceLT,
  app_at, app_set, atn2, atn3, atn4, ar1, ar2, nc0, nc1, nc2, nc3, nc4, nc5, Int.reduceEq, Int.reduceNeg, Int.reduceLT, Int.reduceLE, w_tt, w_to, w_tn, w_ot, w_oo, w_on, w_nt, w_no, w_nn, w_et, w_eo, sl_13, sl_03, sl_1_2, sl_1_3, sl_1_4, sl_03b, sl_03c, tgName, tgTup, tgAll,
  List.length_cons, List.length_nil, List.map_cons, List.map_nil, List.cons_append, List.nil_append, List.getElem?_cons_zero, List.getElem?_cons_succ, List.set_cons_zero, List.set_cons_succ, List.replicate, Option.map_some, Option.map_none, Option.bind_some, Option.bind_none, Bool.not_true, Bool.not_false, and_self, true_and, and_true, Bool.false_eq_true, decide_true, decide_false, reduceIte, Nat.reduceAdd, Nat.reduceSub, Nat.reduceLeDiff, Nat.zero_add, List.isEmpty_cons, List.isEmpty_nil, p1, p2, p3, p4, gp, gm1, gm2, gm3, gm4, gm5, gmd, gdv, List.length_map])
theorem in64_small {m : Int} (h : 0 ≤ m) (h' : m < 2147483563) : in64 m = true := by
  unfold in64
  simp only [Bool.and_eq_true, decide_eq_true_eq]
  constructor <;> omega
def plA : DS := (dSetIx (dVar 0) (dC (.int 4)) (dBin gAdd (dBin gIx (dVar 0) (dC (.int 4))) (dC (.int 1))))
def plB : DS := (dIf (dAnd (dB (dBin (gEq false) (dBin gIx (dVar 0) (dC (.int 2))) (dC (.int 0)))) (dB (dBin gLt (dBin gIx (dVar 0) (dC (.int 1))) (dCallB gLen (dConsA (dBin gIx (dVar 0) (dC (.int 0))) dNilA))))) (dSeq (dSet 3 (dBin gIx (dBin gIx (dVar 0) (dC (.int 0))) (dBin gIx (dVar 0) (dC (.int 1)))))
      (dSeq (dSetIx (dVar 0) (dC (.int 1)) (dBin gAdd (dBin gIx (dVar 0) (dC (.int 1))) (dC (.int 1))))
      (dIf (dB (dBin gGe (dVar 3) (dBin gPow (dC (.int 10)) (dC (.int 18))))) (dSetIx (dVar 0) (dC (.int 2)) (dVar 3)) (dSeq (dSet 2 (dBin gAdd (dBin gMul (dBin gIx (dVar 0) (dC (.int 3))) (dC (.int 48271))) (dBin gMul (dBin gMod (dVar 3) (dC (.int 2147483563))) (dC (.int 69621)))))
      (dSetIx (dVar 0) (dC (.int 3)) (dBin gMod (dBin gAdd (dVar 2) (dC (.int 11))) (dC (.int 2147483563)))))))) dSkip)
/-- the draw itself, once the number to draw from is there -/
def plTail : DS := (dSeq (dIf (dB (dBin gGt (dBin gIx (dVar 0) (dC (.int 2))) (dC (.int 0)))) (dSeq (dSet 4 (dBin gMod (dBin gIx (dVar 0) (dC (.int 2))) (dVar 1)))
      (dSeq (dSetIx (dVar 0) (dC (.int 2)) (dBin gDivW (dBin gIx (dVar 0) (dC (.int 2))) (dVar 1)))
      (dRet (dVar 4)))) dSkip)
      (dSeq (dSet 2 (dBin gAdd (dBin gMul (dBin gMul (dBin gIx (dVar 0) (dC (.int 3))) (dBin gIx (dVar 0) (dC (.int 3)))) (dC (.int 5))) (dBin gMul (dBin gIx (dVar 0) (dC (.int 3))) (dC (.int 39373)))))
      (dSeq (dSetIx (dVar 0) (dC (.int 3)) (dBin gMod (dBin gAdd (dVar 2) (dBin gMul (dC (.int 1013904223)) (dBin gIx (dVar 0) (dC (.int 4))))) (dC (.int 2147483563))))
      (dRet (dBin gMod (dBin gDivW (dBin gIx (dVar 0) (dC (.int 3))) (dC (.int 37))) (dVar 1))))))
theorem tail_ok (ns : List Int) (i j m c n : Int) (a b d : Option D) (G : Sto) (hi : 0 ≤ i) (hj : 0 ≤ j) (hm : 0 ≤ m) (hm' : m < 2147483563) (hc : 0 ≤ c) (hn : 0 < n) (hn' : n < 1000000000000000000) :
    ∃ r l', plTail [some (.ref 0), some (.int n), a, b, d] (.lst (bagD ns i j m c) :: G) = .ok (.rt (.int r)) (.lst l' :: G) ∧ 0 ≤ r ∧ r < n ∧ BagOk l' := by
  unfold plTail bagD
  by_cases h : 0 < j
  · refine ⟨j % n, bagD ns i (j / n) m c, ?_, Int.emod_nonneg _ (by omega), Int.emod_lt_of_pos _ hn, ns, i, j / n, m, c, rfl, hi, Int.ediv_nonneg hj (by omega), hm, hm', hc⟩
    walk_at "evm_621bba"
    simp only [h, decide_true]
    walk_at "evm_621bba"
    rw [g_mod _ _ _ hn]
    walk_at "evm_621bba"
    rw [g_divW _ _ _ hn hn']
    walk_at "evm_621bba"
    simp only [bagD]
  · refine ⟨(m * m * 5 + m * 39373 + 1013904223 * c) % 2147483563 / 37 % n, bagD ns i j ((m * m * 5 + m * 39373 + 1013904223 * c) % 2147483563) c, ?_, Int.emod_nonneg _ (by omega), Int.emod_lt_of_pos _ hn, ns, i, j, _, c, rfl, hi, hj, Int.emod_nonneg _ (by decide), Int.emod_lt_of_pos _ (by decide), hc⟩
    walk_at "evm_621bba"
    simp only [h, decide_false]
    walk_at "evm_621bba"
    rw [g_mul _ m m (Or.inl (in64_small hm hm'))]
    walk_at "evm_621bba"
    rw [g_mod _ _ _ hn]
    walk_at "evm_621bba"
    rfl
theorem at_ints {ns : List Int} {i : Int} (h : 0 ≤ i) (h' : i < ns.length) : ∃ f, atI (ns.map D.int) i = some (.int f) := by
  obtain ⟨k, rfl⟩ : ∃ k : Nat, i = k := ⟨i.toNat, by omega⟩
  have hk : k < ns.length := by omega
  exact ⟨ns[k], atI_nat (by simp [hk])⟩
theorem pull_ok (l : List D) (G : Sto) (n : Int) (hl : BagOk l) (hn : 0 < n) (hn' : n < 1000000000000000000) :
    ∃ r l', F__law_pull [.ref 0, .int n] (.lst l :: G) = .ok (.int r) (.lst l' :: G) ∧ 0 ≤ r ∧ r < n ∧ BagOk l' := by
  obtain ⟨ns, i, j, m, c, rfl, hi, hj, hm, hm', hc⟩ := hl
  -- the counter goes up
  have body : ∀ (a b d : Option D) (i j m : Int), 0 ≤ i → 0 ≤ j → 0 ≤ m → m < 2147483563 → ∃ r l', (plTail [some (.ref 0), some (.int n), a, b, d] (.lst (bagD ns i j m (c + 1)) :: G)).bind kRun = .ok (.int r) (.lst l' :: G) ∧ 0 ≤ r ∧ r < n ∧ BagOk l' := by
    intro a b d i j m h1 h2 h3 h4
    obtain ⟨r, l', e, q⟩ := tail_ok ns i j m (c + 1) n a b d G h1 h2 h3 h4 (by omega) hn hn'
    exact ⟨r, l', by rw [e]; rfl, q⟩
  unfold F__law_pull
  rw [show B__law_pull = dSeq plA (dSeq plB plTail) from rfl]
  unfold plA plB
  by_cases h : j = 0 ∧ i < ns.length
  · obtain ⟨h1, h2⟩ := h
    obtain ⟨f, hf⟩ := at_ints hi h2
    by_cases hb : 1000000000000000000 ≤ f
    · obtain ⟨r, l', e, q⟩ := body none (some (.int f)) none (i + 1) f m (by omega) (by omega) hm hm'
      refine ⟨r, l', ?_, q⟩
      rw [← e]
      unfold bagD
      walk_at "evm_621bba"
      simp only [h1, decide_true]
      walk_at "evm_621bba"
      simp only [decide_true, List.length_map, h2]
      walk_at "evm_621bba"
      rw [hf]
      walk_at "evm_621bba"
      simp only [hb, decide_true]
      walk_at "evm_621bba"
    · obtain ⟨r, l', e, q⟩ := body (some (.int (m * 48271 + f % 2147483563 * 69621))) (some (.int f)) none (i + 1) j ((m * 48271 + f % 2147483563 * 69621 + 11) % 2147483563) (by omega) hj (Int.emod_nonneg _ (by decide)) (Int.emod_lt_of_pos _ (by decide))
      refine ⟨r, l', ?_, q⟩
      rw [← e]
      unfold bagD
      walk_at "evm_621bba"
      simp only [h1, decide_true]
      walk_at "evm_621bba"
      simp only [decide_true, List.length_map, h2]
      walk_at "evm_621bba"
      rw [hf]
      walk_at "evm_621bba"
      simp only [hb, decide_false]
      walk_at "evm_621bba"
  · obtain ⟨r, l', e, q⟩ := body none none none i j m hi hj hm hm'
    refine ⟨r, l', ?_, q⟩
    rw [← e]
    unfold bagD
    by_cases hj0 : j = 0
    · have h2 : ¬ i < ns.length := fun z => h ⟨hj0, z⟩
      walk_at "evm_621bba"
      simp only [hj0, decide_true]
      walk_at "evm_621bba"
      simp only [decide_false, List.length_map, h2]
      walk_at "evm_621bba"
    · walk_at "evm_621bba"
      simp only [hj0, decide_false]
      walk_at "evm_621bba"
local macro_rules | `(tactic| walk_at "evm_bea555") => `(tactic| simp only [ev_runF, ev_kRun_rt, ev_kRun_nx, ev_seq, ev_kSeq_nx, ev_kSeq_rt, ev_kSeq_bk, ev_kSeq_ct, ev_skip, ev_set, ev_kSet, ev_drop, ev_kDrop, ev_ret, ev_kRet, ev_retN, ev_if, ev_kIf_t, ev_kIf_f, ev_bad, ev_asg, ev_kAsg, ev_asgO, ev_par, ev_kPar, ev_for, ev_kFor, ev_go_nil, ev_go_cons, ev_goO, ev_kGo_nx, ev_kGo_ct, ev_kGo_rt, ev_iter, ev_kIter_l, ev_kIter_t, ev_kIter_s, ev_rng1, ev_rng2, ev_enum, ev_kEnum_l, ev_kEnum_t,
  ev_var, ev_varO, celL_l, asL_ref, asL_lst, ev_c, ev_bin, ev_kBin, ev_kBin2, ev_un, ev_kUn, ev_nilA, ev_consA, ev_kCons, ev_kCons2, ev_tup, ev_lst, ev_lstC, ev_kTup, ev_kLst, ev_kLstC, ev_callB, ev_kCallB, ev_call, ev_kCall, ev_ifE, ev_kIfE_t, ev_kIfE_f, ev_andV, ev_orV, ev_notV, ev_kAndV_t, ev_kAndV_f, ev_kOrV_t, ev_kOrV_f, ev_kNotV, ev_and, ev_or, ev_not, ev_kAnd_t, ev_kAnd_f, ev_kOr_t, ev_kOr_f, ev_kNot, ev_tru, ev_b, ev_kTru_bl, ev_kTru_lst, ev_kTru_tup, ev_kTru_ref, ev_truO, ev_kB, ev_yes,
  ev_chain, ev_kCh0, ev_kCh1, ev_kCh2_t, ev_kCh2_f, ev_kCh3, ev_sl, ev_kSl1, ev_kSl2, ev_kSl3, ev_part, ev_kPart, ev_noPart, ev_fld, ev_kFld, ev_fldO, ev_lm, ev_kLm, ev_lmO, ev_kLm2, g_app, g_clear, ev_setIx, ev_kSetIx3, ev_setO, ev_kSetIx1, ev_kSetIx2,
  bind_ok, bind_bad, liftM_some, liftM_none, noex_ok, noex_bad, g_ixT, g_ixL, g_ixR, g_add_i, g_sub, g_lt, g_le, g_gt, g_ge, g_is_n, g_isnot_n, g_is_i, g_isnot_i, g_is_t, g_isnot_t, g_eq, g_ne, eq_int, eq_str, eq_bl, eq_nn, eq_ni, eq_in, eq_t2, g_lenT, g_lenL, g_lenR, g_slT, g_slL, g_slS, at0, at1, at2, at3, at4, atm1,
  ev_setFld, ev_kSetFld1, ev_make, ev_kMake, ev_kMake2, ev_meth, ev_kMeth2, ev_lenO, ev_kLenO, ev_reprO, ev_kReprO, ev_kReprO2, ev_fmt, ev_js_nil, ev_js_cons, g_listC, g_tupleR, ev_forS, ev_kForS, ev_iter2, ev_enum2, ev_kIter2_l, ev_kIter2_t, ev_kIter2_s, ev_kEnum2_l, ev_kEnum2_t, ev_lc, ev_kLc, ev_kLcEnd, ev_lc_nil, ev_lc_cons, ev_lcO, ev_kLcT_t, ev_kLcT_f, ev_kLcE, wipeE, g_isi_n, g_isi_b, g_isi_i, g_isi_s, g_isi_t, g_isi_l, isA_ii, isA_ib, isA_it, isA_il, isA_bi, isA_bb, isA_bt, isA_bll, isA_ni, isA_nb, isA_nt, isA_nl, isA_si, isA_sb, isA_st, isA_sl, isA_tt, isA_tl, isA_ti, isA_tb, isA_lt, isA_ll, isA_li, isA_lb, g_neg, g_all, bls_nil, bls_cons, List.all_cons, List.all_nil, id_eq, Bool.and_true, Bool.true_and, Nat.reduceLT,
  app_at, app_set, atn2, atn3, atn4, ar1, ar2, nc0, nc1, nc2, nc3, nc4, nc5, Int.reduceEq, Int.reduceNeg, Int.reduceLT, Int.reduceLE, w_tt, w_to, w_tn, w_ot, w_oo, w_on, w_nt, w_no, w_nn, w_et, w_eo, sl_13, sl_03, sl_1_2, sl_1_3, sl_1_4, sl_03b, sl_03c, tgName, tgTup, tgAll,
  List.length_cons, List.length_nil, List.map_cons, List.map_nil, List.cons_append, List.nil_append, List.getElem?_cons_zero, List.getElem?_cons_succ, List.set_cons_zero, List.set_cons_succ, List.replicate, Option.map_some, Option.map_none, Option.bind_some, Option.bind_none, Bool.not_true, Bool.not_false, and_self, true_and, and_true, Bool.false_eq_true, decide_true, decide_false, reduceIte, Nat.reduceAdd, Nat.reduceSub, Nat.reduceLeDiff, Nat.zero_add, List.isEmpty_cons, List.isEmpty_nil, p1, p2, p3, p4, gp, gm1, gm2, gm3, gm4, gm5, gmd, gdv])
def bgBody : DS := (dSet 1 (dBin gMod (dBin gAdd (dBin gAdd (dBin gMul (dVar 1) (dC (.int 39373))) (dBin gMod (dVar 2) (dC (.int 2147483563)))) (dC (.int 29))) (dC (.int 2147483563))))
theorem cut_ints (ns : List Int) (lo hi : Option Int) : Ip.cutD (ns.map D.int) lo hi = (Ip.cutD ns lo hi).map D.int := by
  unfold Ip.cutD
  simp only [List.length_map, List.map_drop, List.map_take]
theorem cut_le {α : Type} (ns : List α) (lo hi : Option Int) : (Ip.cutD ns lo hi).length ≤ ns.length := by
  unfold Ip.cutD
  simp only [List.length_take, List.length_drop]
  omega
theorem g_listL (l : List D) (M : Sto) : gList [.lst l] M = some (.lst l, M) := rfl
theorem bag_ok (ns : List Int) (h : ns.length ≤ 63) : ∃ l, F__law_bag [.scr ns] [] = .ok (.ref 0) [.lst l] ∧ BagOk l := by
  have hl := cut_le ns none (some 63)
  generalize hk : Ip.cutD ns none (some 63) = ks at hl
  obtain ⟨e, M', h1, h2, m, a, h3, hm, hm'⟩ := forS_inv (t := tgName 2) (fb := bgBody) (src := .items (ks.map D.int)) ks.length (fun i env M' => M' = [] ∧ ∃ m a, env = [some (.scr ns), some (.int m), a] ∧ 0 ≤ m ∧ m < 2147483563)
    (fun env M' _ => by show some _ = _; simp) (fun i env M' hi ⟨e, m, a, e2, hm, hm'⟩ => by
      subst e e2
      refine ⟨.int ks[i], _, _, _, by show some _ = _; simp [hi], rfl, ?_, rfl, (m * 39373 + ks[i] % 2147483563 + 29) % 2147483563, some (.int ks[i]), rfl, Int.emod_nonneg _ (by decide), Int.emod_lt_of_pos _ (by decide)⟩
      show bgBody [some (.scr ns), some (.int m), some (.int ks[i])] [] = _
      unfold bgBody
      walk_at "evm_bea555") ks.length 0 20000000 [some (.scr ns), some (.int 3804), none] [] (by simp) (by omega) ⟨rfl, 3804, none, rfl, by decide, by decide⟩
  subst h2 h3
  refine ⟨bagD ks 0 0 m 0, ?_, ks, 0, 0, m, 0, rfl, by decide, by decide, hm, hm', by decide⟩
  unfold F__law_bag B__law_bag
  walk_at "evm_bea555"
  rw [cut_ints, hk]
  rw [show (dSet 1 _ : DS) = bgBody from rfl, h1]
  walk_at "evm_bea555"
  rw [cut_ints, hk, g_listL]
  walk_at "evm_bea555"
  rfl
section
set_option Elab.async false
set_option linter.all false
set_option maxRecDepth 100000
set_option maxHeartbeats 4000000
structure SeqV (x : D) (l : List D) (M : Sto) (ty : String) : Prop where
  ty_ : tyD x M = some ty
  len : gLen [x] M = some (.int (l.length : Nat), M)
  ix : ∀ (i : Nat) (d : D), l[i]? = some d → gIx x (.int (i : Nat)) M = some (d, M)
theorem seq_tup (l : List D) (M : Sto) : SeqV (.tup l) l M "tuple" := ⟨rfl, rfl, fun i d h => by rw [g_ixT, atI_nat h]; rfl⟩
theorem seq_lst (l : List D) (M : Sto) : SeqV (.lst l) l M "list" := ⟨rfl, rfl, fun i d h => by rw [g_ixL, atI_nat h]; rfl⟩
theorem isi_of {x : D} {l : List D} {M : Sto} {ty : String} (h : SeqV x l M ty) (T : String) : gIsi T x M = (isA ty T).map fun b => (.bl b, M) := by
  unfold gIsi
  rw [h.ty_]
theorem isi2_of {x : D} {l : List D} {M : Sto} {ty : String} (h : SeqV x l M ty) (T U : String) (b c : Bool) (hb : isA ty T = some b) (hc : isA ty U = some c) : gIsi2 T U x M = some (.bl (b || c), M) := by
  unfold gIsi2
  rw [h.ty_]
  simp only [hb, hc]
def lkE (k : Nat) : DE := dCall (F__law_like k) (dConsA (dBin gIx (dVar 0) (dVar 2)) (dConsA (dBin gIx (dVar 1) (dVar 2)) dNilA))
theorem like_lc (k : Nat) (x y : D) (as bs : List D) (M : Sto) (ty : String) (hx : SeqV x as M ty) (hy : SeqV y bs M ty) (hl : as.length = bs.length) (hs : bs.length ≤ 1000)
    (h : ∀ (i : Nat) (a b : D), as[i]? = some a → bs[i]? = some b → F__law_like k [a, b] M = .ok (.bl true) M) :
    lcGo (tgName 2) dYes (lkE k) (rngD 0 bs.length) [] [some x, some y, none] M = .ok ((rngD 0 bs.length).map fun _ => D.bl true) M := by
  have := lc_map [some x, some y, none] M (tgName 2) (lkE k) (fun _ => .bl true) (rngD 0 bs.length) [] (fun d hd => by
      unfold rngD at hd
      rw [List.mem_map] at hd
      obtain ⟨i, hi, rfl⟩ := hd
      have hi' : i < bs.length := List.mem_range.mp hi
      have e0 : (0 : Int) + (i : Nat) = (i : Nat) := by omega
      rw [e0]
      refine ⟨_, rfl, ?_⟩
      have h1 := hx.ix i as[i] (List.getElem?_eq_getElem (by omega))
      have h2 := hy.ix i bs[i] (List.getElem?_eq_getElem hi')
      have h3 := h i as[i] bs[i] (List.getElem?_eq_getElem (by omega)) (List.getElem?_eq_getElem hi')
      show lkE k [some x, some y, some (.int (i : Nat))] M = _
      unfold lkE
      walk_at "evm_bea555"
      rw [h1]
      walk_at "evm_bea555"
      rw [h2]
      walk_at "evm_bea555"
      rw [h3]
      walk_at "evm_bea555") (by rw [rngD, List.length_map, List.length_range, List.length_nil]; omega)
  rw [this, List.nil_append]
theorem bls_rep (n : Nat) : bls ((rngD 0 n).map fun _ => D.bl true) = some (List.replicate n true) := by
  have g : ∀ n : Nat, bls (List.replicate n (D.bl true)) = some (List.replicate n true) := fun n => by
    induction n with
    | zero => rfl
    | succ n ih => rw [List.replicate_succ, bls_cons, ih]; rfl
  rw [← g]
  congr 1
  rw [List.eq_replicate_iff]
  constructor
  · rw [List.length_map, rngD, List.length_map, List.length_range]
  · intro b hb
    rw [List.mem_map] at hb
    obtain ⟨_, _, e⟩ := hb
    exact e.symm
theorem in62_len {n : Nat} (h : n ≤ 1000000) : in62 ((n : Nat) : Int) = true := by
  unfold in62
  simp only [Bool.and_eq_true, decide_eq_true_eq]
  constructor <;> omega
theorem all_rep (n : Nat) : (List.replicate n true).all id = true := by
  rw [List.all_eq_true]
  intro b hb
  rw [List.mem_replicate] at hb
  rw [hb.2]; rfl
theorem rng1_of (fe : DE) (n : Nat) (env : En) (M : Sto) (h : fe env M = .ok (.int (n : Nat)) M) (hn : n ≤ 1000000) : dRng1 (dConsA fe dNilA) env M = .ok (rngD 0 n) M := by
  rw [ev_rng1, ev_consA, h, bind_ok, ev_kCons, ev_nilA, bind_ok, ev_kCons2, bind_ok, ev_kRng1 _ _ (in62_len hn), Int.toNat_natCast]
theorem len_of {x : D} {l : List D} {M : Sto} {ty : String} (h : SeqV x l M ty) (env : En) {v : Nat} (hv : env[v]? = some (some x)) : dCallB gLen (dConsA (dVar v) dNilA) env M = .ok (.int (l.length : Nat)) M := by
  rw [ev_callB, ev_consA, ev_var, hv, ev_varO, bind_ok, ev_kCons, ev_nilA, bind_ok, ev_kCons2, bind_ok, ev_kCallB, h.len, liftM_some]
theorem like_main (k : Nat) (x y : D) (as bs : List D) (M : Sto) (ty : String) (hx : SeqV x as M ty) (hy : SeqV y bs M ty) (hl : as.length = bs.length) (hs : bs.length ≤ 1000)
    (hlc : lcGo (tgName 2) dYes (lkE k) (rngD 0 bs.length) [] [some x, some y, none] M = .ok ((rngD 0 bs.length).map fun _ => D.bl true) M) (b c : Bool) (h1 : isA ty "tuple" = some b) (h2 : isA ty "list" = some c) (h3 : (b || c) = true) : F__law_like (k + 1) [x, y] M = .ok (.bl true) M := by
  have hin := in62_len (show bs.length ≤ 1000000 by omega)
  have ht : ((bs.length : Nat) : Int).toNat = bs.length := Int.toNat_natCast _
  have hq := all_rep bs.length
  show runF 3 2 (B__law_like (F__law_like k)) [x, y] M = _
  unfold B__law_like
  walk_at "evm_bea555"
  rw [isi2_of hy "tuple" "list" b c h1 h2, h3]
  walk_at "evm_bea555"
  rw [isi_of hx, h1]
  walk_at "evm_bea555"
  rw [isi_of hy, h1]
  walk_at "evm_bea555"
  rw [isi_of hx, h2]
  walk_at "evm_bea555"
  rw [isi_of hy, h2]
  walk_at "evm_bea555"
  rw [hx.len]
  walk_at "evm_bea555"
  rw [hy.len]
  walk_at "evm_bea555"
  rw [hl, decide_eq_true rfl, ev_kAndV_t, ev_callB, ev_consA, ev_lc, rng1_of _ bs.length _ M (len_of hy _ rfl) (by omega), bind_ok, ev_kLc]
  rw [show wipeE [some x, some y, none] [2] = [some x, some y, none] from rfl, show (dCall (F__law_like k) _ : DE) = lkE k from rfl, hlc]
  walk_at "evm_bea555"
  rw [bls_rep]
  walk_at "evm_bea555"
  rw [hq]
theorem like_seq (k : Nat) (x y : D) (as bs : List D) (M : Sto) (ty : String) (ht : ty = "tuple" ∨ ty = "list") (hx : SeqV x as M ty) (hy : SeqV y bs M ty) (hl : as.length = bs.length) (hs : bs.length ≤ 1000)
    (h : ∀ (i : Nat) (a b : D), as[i]? = some a → bs[i]? = some b → F__law_like k [a, b] M = .ok (.bl true) M) : F__law_like (k + 1) [x, y] M = .ok (.bl true) M := by
  have hlc := like_lc k x y as bs M ty hx hy hl hs h
  rcases ht with rfl | rfl
  · exact like_main k x y as bs M _ hx hy hl hs hlc true false isA_tt isA_tl rfl
  · exact like_main k x y as bs M _ hx hy hl hs hlc false true isA_lt isA_ll rfl
theorem like_int (k : Nat) (i : Int) (M : Sto) : F__law_like (k + 1) [.int i, .int i] M = .ok (.bl true) M := by
  show runF 3 2 (B__law_like (F__law_like k)) _ M = _
  unfold B__law_like
  walk_at "evm_bea555"
  rw [show gIsi2 "tuple" "list" (.int i) M = some (.bl false, M) by unfold gIsi2 tyD; simp only [isA_it, isA_il]; rfl]
  walk_at "evm_bea555"
theorem like_str (k : Nat) (s : Str) (M : Sto) : F__law_like (k + 1) [.str s, .str s] M = .ok (.bl true) M := by
  show runF 3 2 (B__law_like (F__law_like k)) _ M = _
  unfold B__law_like
  walk_at "evm_bea555"
  rw [show gIsi2 "tuple" "list" (.str s) M = some (.bl false, M) by unfold gIsi2 tyD; simp only [isA_st, isA_sl]; rfl]
  walk_at "evm_bea555"
  rw [show gIs false (.str s) .non M = some (.bl false, M) from rfl]
  walk_at "evm_bea555"
  rw [show gIs false (.str s) .non M = some (.bl false, M) from rfl]
  walk_at "evm_bea555"
theorem like_non (k : Nat) (M : Sto) : F__law_like (k + 1) [.non, .non] M = .ok (.bl true) M := by
  show runF 3 2 (B__law_like (F__law_like k)) _ M = _
  unfold B__law_like
  walk_at "evm_bea555"
  rw [show gIsi2 "tuple" "list" .non M = some (.bl false, M) by unfold gIsi2 tyD; simp only [isA_nt, isA_nl]; rfl]
  walk_at "evm_bea555"
end
section
set_option Elab.async false
set_option linter.all false
set_option maxRecDepth 100000
set_option maxHeartbeats 1000000
theorem ft__law_pull (n : Int) : FB F__law_pull [en n] (Pr.pull n) := fun b G hb hG => ⟨fun Q E ⟨h0, h1, q⟩ => by
  obtain ⟨r, l', e, r0, r1, hb'⟩ := pull_ok b G n hb h0 (by omega)
  rw [show F__law_pull (.ref 0 :: [en n]) (.lst b :: G) = .ok (.int r) (.lst l' :: G) from e]
  exact ⟨r, q r r0 r1, rfl, l', hb', rfl⟩⟩
theorem ft__law_pullB (n : Int) : FB F__law_pull [en n] (Pr.pullB n) := fun b G hb hG => ⟨fun Q E ⟨h0, h1, q⟩ => by
  obtain ⟨r, l', e, r0, r1, hb'⟩ := pull_ok b G n hb h0 h1
  rw [show F__law_pull (.ref 0 :: [en n]) (.lst b :: G) = .ok (.int r) (.lst l' :: G) from e]
  exact ⟨r, q r r0 r1, rfl, l', hb', rfl⟩⟩
def mkLay (qs : List Pc) : Lay := ⟨qs, stsF 0 qs.dropLast⟩
def t_Layout (q : Sq Pc) : Pr Lay := fun Q _ => valid q.l ∧ (∀ p ∈ (nf q.l).dropLast, isOpn p = false) ∧ q.l.length ≤ 1000000 ∧ (nf q.l).length ≤ 60 ∧ Q (mkLay (nf q.l))
theorem ft_Layout (q : Sq Pc) : FM "Layout" F_Layout___init__ [en q] (t_Layout q) := fun M hM => ⟨fun Q E ⟨h1, h2, h3, h4, z⟩ => by
  have hx : isSeq (en q) q.l M := by
    obtain ⟨t, l⟩ := q
    cases t
    · exact .inl rfl
    · exact .inr (.inl rfl)
  rw [make_eq' (en q) q.l (nf q.l) M hx h1 rfl h2 h3 h4 hM]
  exact ⟨mkLay (nf q.l), z, rfl, rfl⟩⟩
end
section
set_option Elab.async false
set_option linter.all false
set_option maxRecDepth 100000
set_option maxHeartbeats 1000000
theorem like_bl' (k : Nat) (b : Bool) (M : Sto) : F__law_like (k + 1) [.bl b, .bl b] M = .ok (.bl true) M := by
  show runF 3 2 (B__law_like (F__law_like k)) _ M = _
  unfold B__law_like
  cases b
  · walk_at "evm_bea555"
    rfl
  · walk_at "evm_bea555"
    rfl
theorem lkDs_get : ∀ {k : Nat} {l : List D} {i : Nat} {d : D}, lkDs k l = true → l[i]? = some d → lkD k d = true
  | _, [], _, _, _, h => by simp at h
  | k, x :: l, 0, d, h, e => by
    simp only [lkDs, Bool.and_eq_true] at h
    have : x = d := by simpa using e
    rw [← this]; exact h.1
  | k, x :: l, i + 1, d, h, e => by
    simp only [lkDs, Bool.and_eq_true] at h
    exact lkDs_get h.2 (by simpa using e)
theorem like_D : ∀ (k : Nat) (d : D) (M : Sto), lkD k d = true → F__law_like k [d, d] M = .ok (.bl true) M
  | 0, d, M, h => by simp [lkD] at h
  | k + 1, d, M, h => by
    cases d with
    | non => exact like_non k M
    | bl b => exact like_bl' k b M
    | int i => exact like_int k i M
    | str s => exact like_str k s M
    | tup l =>
      simp only [lkD, Bool.and_eq_true, decide_eq_true_eq] at h
      exact like_seq k _ _ l l M "tuple" (.inl rfl) (seq_tup l M) (seq_tup l M) rfl h.1 fun i a b ha hb => by
        rw [ha] at hb; cases hb
        exact like_D k a M (lkDs_get h.2 ha)
    | lst l =>
      simp only [lkD, Bool.and_eq_true, decide_eq_true_eq] at h
      exact like_seq k _ _ l l M "list" (.inr rfl) (seq_lst l M) (seq_lst l M) rfl h.1 fun i a b ha hb => by
        rw [ha] at hb; cases hb
        exact like_D k a M (lkDs_get h.2 ha)
    | _ => simp [lkD] at h
theorem ft__law_like {α β : Type} [Enc α] [Enc β] (k : Nat) (a : α) (b : β) : FP (F__law_like k) [en a, en b] (lk k a b) := fun M _ => ⟨fun Q E ⟨e, h, q⟩ => by
  rw [← e, like_D k (en a) M h]
  exact ⟨true, q, rfl, rfl⟩⟩
end
section
set_option Elab.async false
set_option linter.all false
set_option maxRecDepth 100000
set_option maxHeartbeats 4000000
def adj (R : Pc → Pc → Prop) : List Pc → Prop
  | [] => True
  | p :: r => (∀ q, r.head? = some q → R p q) ∧ adj R r
theorem adj_app {R : Pc → Pc → Prop} : ∀ (l m : List Pc), adj R l → adj R m → (∀ x y, l.getLast? = some x → m.head? = some y → R x y) → adj R (l ++ m)
  | [], m, _, hm, _ => by simpa using hm
  | p :: r, m, hl, hm, h => by
    refine ⟨fun q hq => ?_, adj_app r m hl.2 hm fun x y hx hy => ?_⟩
    · cases r with
      | nil => exact h p q rfl (by simpa using hq)
      | cons s r => exact hl.1 q (by simpa using hq)
    · cases r with
      | nil => cases hx
      | cons s r => exact h x y (by simpa using hx) hy
theorem adj_left {R : Pc → Pc → Prop} : ∀ (l m : List Pc), adj R (l ++ m) → adj R l
  | [], m, _ => trivial
  | p :: r, m, h => ⟨fun q hq => h.1 q (by cases r with
      | nil => cases hq
      | cons s r => simpa using hq), adj_left r m h.2⟩
theorem adj_mid {R : Pc → Pc → Prop} : ∀ (l : List Pc) (y : Pc) (m : List Pc) (x : Pc), adj R (l ++ y :: m) → l.getLast? = some x → R x y
  | [], y, m, x, _, hx => by cases hx
  | p :: r, y, m, x, h, hx => by
    cases r with
    | nil => cases hx; exact h.1 y rfl
    | cons s r => exact adj_mid (s :: r) y m x h.2 (by simpa using hx)
abbrev mfT (p q : Pc) : Prop := mf p q = true
abbrev jnN (p q : Pc) : Prop := jn p q = none
def okp (l : List Pc) : Prop := (∀ p ∈ l, pok p) ∧ adj mfT l
theorem okp_nil : okp [] := ⟨fun _ h => (by cases h), trivial⟩
theorem okp_app {l m : List Pc} (hl : okp l) (hm : okp m) (h : ∀ x y, l.getLast? = some x → m.head? = some y → mf x y = true) : okp (l ++ m) :=
  ⟨fun p hp => (List.mem_append.mp hp).elim (hl.1 p) (hm.1 p), adj_app l m hl.2 hm.2 h⟩
theorem okp_one {p : Pc} (h : pok p) : okp [p] := ⟨fun q hq => by rw [List.mem_singleton.mp hq]; exact h, fun q hq => (by cases hq), trivial⟩
theorem okp_two {p q : Pc} (h : pok p) (h' : pok q) (hm : mf p q = true) : okp [p, q] :=
  okp_app (l := [p]) (m := [q]) (okp_one h) (okp_one h') fun x y hx hy => by cases hx; cases hy; exact hm
theorem okp_snoc {l : List Pc} {q : Pc} (hl : okp l) (hq : pok q) (h : ∀ x, l.getLast? = some x → mf x q = true) : okp (l ++ [q]) :=
  okp_app hl (okp_one hq) fun x y hx hy => by cases hy; exact h x hx
theorem okp_left {l m : List Pc} (h : okp (l ++ m)) : okp l := ⟨fun p hp => h.1 p (List.mem_append.mpr (.inl hp)), adj_left l m h.2⟩
theorem chain_of : ∀ (r : List Pc) (p : Pc), (∀ q ∈ r, pok q) → adj mfT (p :: r) → chain p r
  | [], _, _, _ => trivial
  | s :: r, p, h, ha => ⟨h s List.mem_cons_self, ha.1 s rfl, chain_of r s (fun q hq => h q (List.mem_cons_of_mem _ hq)) ha.2⟩
theorem lastOf_eq : ∀ (r : List Pc) (p : Pc), (p :: r).getLast? = some (lastOf p r)
  | [], p => rfl
  | s :: r, p => by
    have := lastOf_eq r s
    simpa [lastOf] using this
theorem valid_of {l : List Pc} {a : Int} (h : okp l) (hl : l.getLast? = some (.opn a)) : valid l := by
  cases l with
  | nil => cases hl
  | cons p r =>
    refine ⟨h.1 p List.mem_cons_self, chain_of r p (fun q hq => h.1 q (List.mem_cons_of_mem _ hq)) h.2, ?_⟩
    rw [lastOf_eq] at hl
    cases hl' : lastOf p r <;> rw [hl'] at hl <;> first | rfl | (cases hl; done)
theorem jn_pok {l q r : Pc} (h : jn l q = some r) (hl : pok l) (hq : pok q) : pok r := by
  cases l <;> cases q <;> simp only [jn] at h <;> first | (cases h; done) | skip
  · cases h; simp only [pok] at *; omega
  · split at h <;> cases h; simp only [pok] at *; omega
  · split at h <;> cases h; simp only [pok] at *; omega
  · split at h <;> cases h; simp only [pok] at *; omega
theorem jn_pre {l q r : Pc} (h : jn l q = some r) (x : Pc) : mf x r = mf x l := by
  cases l <;> cases q <;> simp only [jn] at h <;> first | (cases h; done) | skip
  · cases h; cases x <;> rfl
  · split at h <;> cases h; cases x <;> rfl
  · split at h <;> cases h; cases x <;> rfl
  · split at h <;> cases h; cases x <;> rfl
theorem jn_post {l q r : Pc} (h : jn l q = some r) (x : Pc) : mf r x = mf q x := by
  cases l <;> cases q <;> simp only [jn] at h <;> first | (cases h; done) | skip
  · cases h; cases x <;> rfl
  · split at h <;> cases h; cases x <;> rfl
  · split at h <;> cases h; cases x <;> rfl
  · split at h <;> cases h; rename_i hc; rw [hc.1, hc.2]; cases x <;> rfl
theorem jn_pre_n {l q r : Pc} (h : jn l q = some r) (x : Pc) (hx : jn x l = none) : jn x r = none := by
  cases l <;> cases q <;> simp only [jn] at h <;> first | (cases h; done) | skip
  · cases h; cases x <;> first | rfl | (cases hx; done)
  · split at h <;> cases h; cases x <;> first | rfl | (simp only [jn] at hx ⊢; split at hx <;> simp_all)
  · split at h <;> cases h; cases x <;> first | rfl | (simp only [jn] at hx ⊢; split at hx <;> simp_all)
  · split at h <;> cases h; cases x <;> first | rfl | (simp only [jn] at hx ⊢; split at hx <;> simp_all)
theorem nfS_none {acc : List Pc} {q : Pc} (h : ∀ l, acc.getLast? = some l → jn l q = none) : nfS acc q = acc ++ [q] := by
  unfold nfS
  cases hl : acc.getLast? with
  | none => rfl
  | some l => simp only [h l hl]
theorem nfS_some {acc : List Pc} {l q r : Pc} (h : jn l q = some r) : nfS (acc ++ [l]) q = acc ++ [r] := by
  unfold nfS
  simp only [List.getLast?_append, List.getLast?_singleton, Option.some_or, h, List.dropLast_concat]
theorem snoc_of {l : List Pc} {x : Pc} (h : l.getLast? = some x) : ∃ m, l = m ++ [x] := by
  have hne : l ≠ [] := fun e => by rw [e] at h; cases h
  refine ⟨l.dropLast, ?_⟩
  have := List.dropLast_concat_getLast hne
  rw [List.getLast?_eq_some_getLast hne] at h
  cases h
  exact this.symm
/-- what the rows so far and their normal form have in common -/
structure NF (ps acc : List Pc) : Prop where
  ok : okp acc
  nrm : adj jnN acc
  post : ∀ x y, ps.getLast? = some x → acc.getLast? = some y → ∀ q, mf y q = mf x q
  emp : ps = [] ↔ acc = []
theorem NF.nil : NF [] [] := ⟨okp_nil, trivial, fun _ _ h => (by cases h), Iff.rfl⟩
theorem NF.step {ps acc : List Pc} {q : Pc} (h : NF ps acc) (hq : pok q) (hm : ∀ x, ps.getLast? = some x → mf x q = true) : NF (ps ++ [q]) (nfS acc q) := by
  have hy : ∀ y, acc.getLast? = some y → mf y q = true := fun y hy => by
    cases hp : ps.getLast? with
    | none =>
      rw [List.getLast?_eq_none_iff] at hp
      rw [h.emp.mp hp] at hy; cases hy
    | some x => rw [h.post x y hp hy]; exact hm x hp
  by_cases hj : ∀ l, acc.getLast? = some l → jn l q = none
  · rw [nfS_none hj]
    refine ⟨okp_snoc h.ok hq hy, adj_app _ _ h.nrm ⟨fun _ z => (by cases z), trivial⟩ fun x y hx hy => (by cases hy; exact hj x hx), fun x y hx hy => ?_, by simp⟩
    simp at hx hy
    subst hx hy
    exact fun _ => rfl
  · obtain ⟨l, hl, r, hr⟩ : ∃ l, acc.getLast? = some l ∧ ∃ r, jn l q = some r := by
      cases hl : acc.getLast? with
      | none => exact absurd (fun l z => by rw [hl] at z; cases z) hj
      | some l => cases hr : jn l q with
        | none => exact absurd (fun l' z => by rw [hl] at z; cases z; exact hr) hj
        | some r => exact ⟨l, rfl, r, hr⟩
    obtain ⟨m, rfl⟩ := snoc_of hl
    rw [nfS_some hr]
    have okm := okp_left h.ok
    refine ⟨okp_snoc okm (jn_pok hr (h.ok.1 l (by simp)) hq) fun x hx => ?_, adj_app _ _ (adj_left _ _ h.nrm) ⟨fun _ z => (by cases z), trivial⟩ fun x y hx hy => ?_, fun x y hx hy => ?_, by simp⟩
    · rw [jn_pre hr]; exact adj_mid m l [] x h.ok.2 hx
    · cases hy; exact jn_pre_n hr x (adj_mid m l [] x h.nrm hx)
    · simp at hx hy
      subst hx hy
      exact jn_post hr
theorem NF.run : ∀ (qs ps acc : List Pc), NF ps acc → okp (ps ++ qs) → NF (ps ++ qs) (qs.foldl nfS acc)
  | [], ps, acc, h, _ => by simpa using h
  | q :: qs, ps, acc, h, ho => by
    have e : ps ++ q :: qs = (ps ++ [q]) ++ qs := by simp
    rw [e] at ho ⊢
    refine NF.run qs (ps ++ [q]) (nfS acc q) (h.step (ho.1 q (by simp)) fun x hx => ?_) ho
    exact adj_mid ps q [] x (okp_left ho).2 hx
theorem nf_NF {ps : List Pc} (h : okp ps) : NF ps (nf ps) := NF.run ps [] [] NF.nil (by simpa using h)
theorem mf_opnr (x : Pc) (a b : Int) : mf x (.opn a) = mf x (.old a b) := by cases x <;> rfl
theorem jn_opnr (x : Pc) (a b : Int) (h : jn x (.old a b) = none) : jn x (.opn a) = none := by
  cases x <;> first | rfl | (simp only [jn] at h ⊢; split at h <;> simp_all)
theorem opnL_ok {m : List Pc} {a b : Int} (h : okp (m ++ [.old a b])) (hn : adj jnN (m ++ [.old a b])) : okp (m ++ [.opn a]) ∧ adj jnN (m ++ [.opn a]) := by
  refine ⟨okp_snoc (okp_left h) ?_ fun x hx => ?_, adj_app _ _ (adj_left _ _ hn) ⟨fun _ z => (by cases z), trivial⟩ fun x y hx hy => ?_⟩
  · have := h.1 (.old a b) (by simp)
    exact this.1
  · rw [mf_opnr x a b]; exact adj_mid m _ [] x h.2 hx
  · cases hy; exact jn_opnr x a b (adj_mid m _ [] x hn hx)
theorem nfS_old (acc : List Pc) (c d : Int) : ∃ m a b, nfS acc (.old c d) = m ++ [.old a b] := by
  by_cases hj : ∀ l, acc.getLast? = some l → jn l (.old c d) = none
  · exact ⟨acc, c, d, nfS_none hj⟩
  · obtain ⟨l, hl, r, hr⟩ : ∃ l, acc.getLast? = some l ∧ ∃ r, jn l (.old c d) = some r := by
      cases hl : acc.getLast? with
      | none => exact absurd (fun l z => by rw [hl] at z; cases z) hj
      | some l => cases hr : jn l (.old c d) with
        | none => exact absurd (fun l' z => by rw [hl] at z; cases z; exact hr) hj
        | some r => exact ⟨l, rfl, r, hr⟩
    obtain ⟨m, rfl⟩ := snoc_of hl
    rw [nfS_some hr]
    cases l <;> simp only [jn] at hr <;> first | (cases hr; done) | skip
    split at hr <;> cases hr
    exact ⟨m, _, _, rfl⟩
theorem nf_old {ps : List Pc} {c d : Int} (h : ps.getLast? = some (.old c d)) : ∃ m a b, nf ps = m ++ [.old a b] := by
  obtain ⟨m, rfl⟩ := snoc_of h
  unfold nf
  rw [List.foldl_append]
  exact nfS_old _ c d
/-- one piece, or two that make it -/
def splits (p : Pc) (gs : List Pc) : Prop := gs = [p] ∨ ∃ a b, gs = [a, b] ∧ jn a b = some p ∧ pok a ∧ pok b ∧ mf a b = true
structure SC (P gs : List Pc) : Prop where
  ok : okp gs
  nf_ : nf gs = P
  post : ∀ x y, P.getLast? = some x → gs.getLast? = some y → ∀ q, mf y q = mf x q
  emp : P = [] ↔ gs = []
  opn : ∀ a, P.getLast? = some (.opn a) → ∃ b, gs.getLast? = some (.opn b)
theorem SC.nil : SC [] [] := ⟨okp_nil, rfl, fun _ _ h => (by cases h), Iff.rfl, fun _ h => (by cases h)⟩
theorem mf_jn_pre {a b p : Pc} (h : jn a b = some p) (x : Pc) (hx : mf x p = true) : mf x a = true := by rw [← jn_pre h]; exact hx
theorem jn_jn_pre {a b p : Pc} (h : jn a b = some p) (x : Pc) (hx : jn x p = none) : jn x a = none := by
  cases a <;> cases b <;> simp only [jn] at h <;> first | (cases h; done) | skip
  · cases h; cases x <;> first | rfl | (cases hx; done)
  · split at h <;> cases h; cases x <;> first | rfl | (simp only [jn] at hx ⊢; split at hx <;> simp_all)
  · split at h <;> cases h; cases x <;> first | rfl | (simp only [jn] at hx ⊢; split at hx <;> simp_all)
  · split at h <;> cases h; cases x <;> first | rfl | (simp only [jn] at hx ⊢; split at hx <;> simp_all)
theorem SC.step {P gs hs : List Pc} {p : Pc} (h : SC P gs) (hP : okp (P ++ [p])) (hN : adj jnN (P ++ [p])) (hs_ : splits p hs) : SC (P ++ [p]) (gs ++ hs) := by
  have hmf : ∀ y, gs.getLast? = some y → mf y p = true := fun y hy => by
    cases hp : P.getLast? with
    | none =>
      rw [List.getLast?_eq_none_iff] at hp
      rw [h.emp.mp hp] at hy; cases hy
    | some x => rw [h.post x y hp hy]; exact adj_mid P p [] x hP.2 hp
  have hjn : ∀ x, P.getLast? = some x → jn x p = none := fun x hx => adj_mid P p [] x hN hx
  have hnf : nf (gs ++ hs) = hs.foldl nfS P := by
    have := h.nf_
    unfold nf at this ⊢
    rw [List.foldl_append, this]
  rcases hs_ with rfl | ⟨a, b, rfl, hj, pa, pb, mab⟩
  · refine ⟨okp_snoc h.ok (hP.1 p (by simp)) hmf, ?_, fun x y hx hy => ?_, by simp, fun a ha => ?_⟩
    · rw [hnf]; exact nfS_none hjn
    · simp at hx hy; subst hx hy; exact fun _ => rfl
    · simp at ha; exact ⟨a, by simp [ha]⟩
  · refine ⟨okp_app h.ok (okp_two pa pb mab) fun x y hx hy => ?_, ?_, fun x y hx hy => ?_, by simp, fun c hc => ?_⟩
    · cases hy; exact mf_jn_pre hj x (hmf x hx)
    · rw [hnf]
      show nfS (nfS P a) b = _
      rw [nfS_none fun x hx => jn_jn_pre hj x (hjn x hx), nfS_some hj]
    · simp at hx hy
      subst hx hy
      exact fun q => (jn_post hj q).symm
    · simp at hc
      subst hc
      cases a <;> cases b <;> simp only [jn] at hj <;> first | (cases hj; done) | skip
      · split at hj <;> cases hj
      · exact ⟨_, by simp; rfl⟩
      · split at hj <;> cases hj
end
section
set_option Elab.async false
set_option linter.all false
set_option maxRecDepth 100000
set_option maxHeartbeats 4000000
def rd : Rw → D
  | none => .non
  | some (a, b) => .tup [.int a, .int b]
def pcOf : Rw → Pc
  | none => .top 1
  | some (a, b) => if a = b then .old a a else .new a b 1
theorem sOk_t : PyData.strOk (Str.ofString "top") = true := by decide +kernel
theorem sOk_o : PyData.strOk (Str.ofString "old") = true := by decide +kernel
theorem sOk_n : PyData.strOk (Str.ofString "new") = true := by decide +kernel
theorem sOk_e : PyData.strOk (Str.ofString "") = true := by decide +kernel
theorem eq_t33 (s t : Str) (a b c d : Int) (M : Sto) (hs : PyData.strOk s = true) (ht : PyData.strOk t = true) : eqD (.tup [.str s, .int a, .int b]) (.tup [.str t, .int c, .int d]) M = some (decide (s = t) && decide (a = c) && decide (b = d)) := by
  simp [eqD, toV, pyM, toPy, toPys, SeqAt.shaped, PyData.canLay0, PyData.canLayAll0, PyData.depth, PyData.depthAll, PyData.eqv, PyData.eqvAll, Bool.and_true, hs, ht]
  by_cases h0 : s = t <;> by_cases h1 : a = c <;> by_cases h2 : b = d <;> simp [h0, h1, h2]
theorem eq_t23 (s t : Str) (a c d : Int) (M : Sto) (hs : PyData.strOk s = true) (ht : PyData.strOk t = true) : eqD (.tup [.str s, .int a]) (.tup [.str t, .int c, .int d]) M = some false := by
  simp [eqD, toV, pyM, toPy, toPys, SeqAt.shaped, PyData.canLay0, PyData.canLayAll0, PyData.depth, PyData.depthAll, PyData.eqv, PyData.eqvAll, Bool.and_true, hs, ht]
theorem toPys_pcs : ∀ ps : List Pc, ∃ qs, toPys (ps.map Pc.d) = some qs ∧ PyData.canLayAll0 qs = true ∧ PyData.depthAll qs ≤ 3 ∧ qs.isEmpty = ps.isEmpty
  | [] => ⟨[], rfl, rfl, by simp [PyData.depthAll], rfl⟩
  | p :: ps => by
    obtain ⟨qs, h1, h2, h3, h4⟩ := toPys_pcs ps
    have hp : ∃ q, toPy p.d = some q ∧ PyData.canLay0 q = true ∧ PyData.depth q ≤ 3 := by
      cases p <;> exact ⟨_, rfl, by simp [PyData.canLay0, PyData.canLayAll0, sOk_t, sOk_o, sOk_n], by simp [PyData.depth, PyData.depthAll]⟩
    obtain ⟨q, q1, q2, q3⟩ := hp
    refine ⟨q :: qs, by simp only [List.map_cons, toPys, q1, h1], by simp [PyData.canLayAll0, q2, h2], by simp [PyData.depthAll]; omega, rfl⟩
theorem eq_pcs (ps : List Pc) (M : Sto) : eqD (.lst (ps.map Pc.d)) (.lst []) M = some ps.isEmpty := by
  obtain ⟨qs, h1, h2, h3, h4⟩ := toPys_pcs ps
  have hd : PyData.depth (.list qs) ≤ 64 := by simp [PyData.depth]; omega
  unfold eqD
  simp only [toV, pyM, toPy, toPys, h1, Option.map_some]
  simp only [SeqAt.shaped, PyData.canLay0, h2, hd, decide_true, PyData.canLayAll0]
  cases ps with
  | nil => cases qs with
    | nil => simp [PyData.eqv, PyData.eqvAll, PyData.depth, PyData.depthAll]
    | cons q qs => simp at h4
  | cons p ps => cases qs with
    | nil => simp at h4
    | cons q qs => simp [PyData.eqv, PyData.eqvAll, PyData.depth, PyData.depthAll]
def lastD (acc : List Pc) : D := match acc.getLast? with
  | some l => l.d
  | none => .tup [.str "", .int 0, .int 0, .int 0]
def rlA : DS := (dSet 3 (dIfE (dB (dBin (gEq true) (dVar 1) (dLst dNilA))) (dBin gIx (dVar 1) (dUn gNeg (dC (.int 1)))) (dTup (dConsA (dC (.str "")) (dConsA (dC (.int 0)) (dConsA (dC (.int 0)) (dConsA (dC (.int 0)) dNilA)))))))
def rlB : DS := (dIf (dB (dBin (gIs false) (dVar 2) (dC .non))) (dSeq (dPar 5 6 (dConsA (dTup (dConsA (dC (.str "top")) (dConsA (dC (.int 1)) dNilA))) (dConsA (dTup (dConsA (dC (.str "top")) (dConsA (dBin gAdd (dBin gIx (dVar 3) (dC (.int 1))) (dC (.int 1))) dNilA))) dNilA)))
      (dSet 4 (dBin (gEq false) (dBin gIx (dVar 3) (dC (.int 0))) (dC (.str "top"))))) (dIf (dB (dBin (gEq false) (dBin gIx (dVar 2) (dC (.int 0))) (dBin gIx (dVar 2) (dC (.int 1))))) (dSeq (dPar 5 6 (dConsA (dTup (dConsA (dC (.str "old")) (dConsA (dBin gIx (dVar 2) (dC (.int 0))) (dConsA (dBin gIx (dVar 2) (dC (.int 0))) dNilA)))) (dConsA (dTup (dConsA (dC (.str "old")) (dConsA (dBin gIx (dVar 3) (dC (.int 1))) (dConsA (dBin gIx (dVar 2) (dC (.int 0))) dNilA)))) dNilA)))
      (dSet 4 (dAndV (dBin (gEq false) (dBin gIx (dVar 3) (dC (.int 0))) (dC (.str "old"))) (dBin (gEq false) (dBin gAdd (dBin gIx (dVar 3) (dC (.int 2))) (dC (.int 1))) (dBin gIx (dVar 2) (dC (.int 0))))))) (dSeq (dPar 5 6 (dConsA (dTup (dConsA (dC (.str "new")) (dConsA (dBin gIx (dVar 2) (dC (.int 0))) (dConsA (dBin gIx (dVar 2) (dC (.int 1))) (dConsA (dC (.int 1)) dNilA))))) (dConsA (dTup (dConsA (dC (.str "new")) (dConsA (dBin gIx (dVar 2) (dC (.int 0))) (dConsA (dBin gIx (dVar 2) (dC (.int 1))) (dConsA (dBin gAdd (dBin gIx (dVar 3) (dUn gNeg (dC (.int 1)))) (dC (.int 1))) dNilA))))) dNilA)))
      (dSet 4 (dBin (gEq false) (dSl (dVar 3) dNoPart (dPart (dC (.int 3)))) (dSl (dVar 5) dNoPart (dPart (dC (.int 3)))))))))
def rlC : DS := (dSet 1 (dIfE (dTru (dVar 4)) (dBin gAdd (dSl (dVar 1) dNoPart (dPart (dUn gNeg (dC (.int 1))))) (dLst (dConsA (dVar 6) dNilA))) (dBin gAdd (dVar 1) (dLst (dConsA (dVar 5) dNilA)))))
theorem rlA_ok (X R : D) (acc : List Pc) (c3 c4 c5 c6 : Option D) (M : Sto) : rlA [some X, some (.lst (acc.map Pc.d)), some R, c3, c4, c5, c6] M = .ok (.nx [some X, some (.lst (acc.map Pc.d)), some R, some (lastD acc), c4, c5, c6]) M := by
  unfold rlA
  walk_at "evm_bea555"
  rw [eq_pcs]
  cases h : acc.getLast? with
  | none =>
    rw [List.getLast?_eq_none_iff] at h
    subst h
    walk_at "evm_bea555"
    rfl
  | some l =>
    obtain ⟨m, rfl⟩ := snoc_of h
    have e : (m ++ [l]).isEmpty = false := by simp
    rw [e]
    walk_at "evm_bea555"
    rw [List.map_append, List.map_cons, List.map_nil, atm1]
    walk_at "evm_bea555"
    unfold lastD
    rw [h]
/-- what the middle part finds -/
def RlB (acc : List Pc) (row : Rw) (same : Bool) (both : D) : Prop :=
  (same = true → ∃ l r, acc.getLast? = some l ∧ jn l (pcOf row) = some r ∧ both = r.d) ∧ (same = false → ∀ l, acc.getLast? = some l → jn l (pcOf row) = none)
theorem rlB_ok (X Y : D) (acc : List Pc) (row : Rw) (c4 c5 c6 : Option D) (M : Sto) (ha : ∀ l, acc.getLast? = some l → isOpn l = false) :
    ∃ same both, rlB [some X, some Y, some (rd row), some (lastD acc), c4, c5, c6] M = .ok (.nx [some X, some Y, some (rd row), some (lastD acc), some (.bl same), some (pcOf row).d, some both]) M ∧ RlB acc row same both := by
  cases h : acc.getLast? with
  | none =>
    have e : lastD acc = .tup [.str "", .int 0, .int 0, .int 0] := by unfold lastD; rw [h]
    rw [e]
    have hn : ∀ both, RlB acc row false both := fun both => ⟨fun z => (by cases z), fun _ l hl => by rw [h] at hl; cases hl⟩
    cases row with
    | none =>
      refine ⟨false, .tup [.str "top", .int (0 + 1)], ?_, hn _⟩
      simp only [rd, pcOf, Pc.d]
      unfold rlB
      walk_at "evm_bea555"
    | some ab =>
      obtain ⟨a, b⟩ := ab
      by_cases hab : a = b
      · subst hab
        refine ⟨false, .tup [.str "old", .int 0, .int a], ?_, hn _⟩
        simp only [rd, pcOf, if_true, Pc.d]
        unfold rlB
        walk_at "evm_bea555"
      · refine ⟨false, .tup [.str "new", .int a, .int b, .int (0 + 1)], ?_, hn _⟩
        simp only [rd, pcOf, hab, if_false, Pc.d]
        unfold rlB
        walk_at "evm_bea555"
        simp only [hab, decide_false]
        walk_at "evm_bea555"
        rw [eq_t33 _ _ _ _ _ _ _ sOk_e sOk_n]
        walk_at "evm_bea555"
        rfl
  | some l =>
    have e : lastD acc = l.d := by unfold lastD; rw [h]
    have ho := ha l h
    rw [e]
    have hn : ∀ both, jn l (pcOf row) = none → RlB acc row false both := fun both z => ⟨fun z => (by cases z), fun _ l' hl => by rw [h] at hl; cases hl; exact z⟩
    have hy : ∀ r, jn l (pcOf row) = some r → RlB acc row true r.d := fun r z => ⟨fun _ => ⟨l, r, h, z, rfl⟩, fun z => (by cases z)⟩
    cases row with
    | none =>
      cases l with
      | top n =>
        refine ⟨true, Pc.d _, ?_, hy (.top (n + 1)) rfl⟩
        simp only [rd, pcOf, Pc.d]
        unfold rlB
        walk_at "evm_bea555"
      | old a b =>
        refine ⟨false, .tup [.str "top", .int (a + 1)], ?_, hn _ rfl⟩
        simp only [rd, pcOf, Pc.d]
        unfold rlB
        walk_at "evm_bea555"
      | opn a => cases ho
      | new a b n =>
        refine ⟨false, .tup [.str "top", .int (a + 1)], ?_, hn _ rfl⟩
        simp only [rd, pcOf, Pc.d]
        unfold rlB
        walk_at "evm_bea555"
    | some ab =>
      obtain ⟨a, b⟩ := ab
      by_cases hab : a = b
      · subst hab
        have ep : pcOf (some (a, a)) = .old a a := if_pos rfl
        rw [ep] at hn hy ⊢
        cases l with
        | top n =>
          refine ⟨false, .tup [.str "old", .int n, .int a], ?_, hn _ rfl⟩
          simp only [rd, Pc.d]
          unfold rlB
          walk_at "evm_bea555"
        | old c d =>
          by_cases hd : d + 1 = a
          · refine ⟨true, Pc.d _, ?_, hy (.old c a) (by simp only [jn, hd, if_true])⟩
            simp only [rd, Pc.d]
            unfold rlB
            walk_at "evm_bea555"
            simp only [hd, decide_true]
          · refine ⟨false, .tup [.str "old", .int c, .int a], ?_, hn _ (by simp only [jn, hd, if_false])⟩
            simp only [rd, Pc.d]
            unfold rlB
            walk_at "evm_bea555"
            simp only [hd, decide_false]
        | opn a => cases ho
        | new c d n =>
          refine ⟨false, .tup [.str "old", .int c, .int a], ?_, hn _ rfl⟩
          simp only [rd, Pc.d]
          unfold rlB
          walk_at "evm_bea555"
      · have ep : pcOf (some (a, b)) = .new a b 1 := if_neg hab
        rw [ep] at hn hy ⊢
        cases l with
        | top n =>
          refine ⟨false, .tup [.str "new", .int a, .int b, .int (n + 1)], ?_, hn _ rfl⟩
          simp only [rd, Pc.d]
          unfold rlB
          walk_at "evm_bea555"
          simp only [hab, decide_false]
          walk_at "evm_bea555"
          rw [eq_t23 _ _ _ _ _ _ sOk_t sOk_n]
          walk_at "evm_bea555"
        | old c d =>
          refine ⟨false, .tup [.str "new", .int a, .int b, .int (d + 1)], ?_, hn _ rfl⟩
          simp only [rd, Pc.d]
          unfold rlB
          walk_at "evm_bea555"
          simp only [hab, decide_false]
          walk_at "evm_bea555"
          rw [eq_t33 _ _ _ _ _ _ _ sOk_o sOk_n]
          walk_at "evm_bea555"
          rfl
        | opn a => cases ho
        | new c d n =>
          by_cases hd : c = a ∧ d = b
          · obtain ⟨rfl, rfl⟩ := hd
            refine ⟨true, Pc.d _, ?_, hy (.new c d (n + 1)) (by simp only [jn, and_self, if_true])⟩
            simp only [rd, Pc.d]
            unfold rlB
            walk_at "evm_bea555"
            simp only [hab, decide_false]
            walk_at "evm_bea555"
            rw [eq_t33 _ _ _ _ _ _ _ sOk_n sOk_n]
            walk_at "evm_bea555"
          · refine ⟨false, .tup [.str "new", .int a, .int b, .int (n + 1)], ?_, hn _ (by simp only [jn, hd, if_false])⟩
            simp only [rd, Pc.d]
            unfold rlB
            walk_at "evm_bea555"
            simp only [hab, decide_false]
            walk_at "evm_bea555"
            rw [eq_t33 _ _ _ _ _ _ _ sOk_n sOk_n]
            have : (decide (Str.ofString "new" = Str.ofString "new") && decide (c = a) && decide (d = b)) = false := by
              rw [w_nn]
              by_cases h1 : c = a
              · have h2 : ¬ d = b := fun z => hd ⟨h1, z⟩
                simp [h2]
              · simp [h1]
            rw [this]
            walk_at "evm_bea555"
theorem rlC_ok (X R l5 both : D) (acc : List Pc) (row : Rw) (same : Bool) (M : Sto) (h : RlB acc row same both) (hl : acc.length ≤ 1000) :
    rlC [some X, some (.lst (acc.map Pc.d)), some R, some l5, some (.bl same), some (pcOf row).d, some both] M = .ok (.nx [some X, some (.lst ((nfS acc (pcOf row)).map Pc.d)), some R, some l5, some (.bl same), some (pcOf row).d, some both]) M := by
  unfold rlC
  cases same with
  | true =>
    obtain ⟨l, r, h1, h2, rfl⟩ := h.1 rfl
    obtain ⟨m, rfl⟩ := snoc_of h1
    rw [nfS_some h2]
    walk_at "evm_bea555"
    rw [cut_m1, List.map_append, List.map_cons, List.map_nil, List.dropLast_concat, g_add_l (h := by simp at hl ⊢; omega)]
    walk_at "evm_bea555"
    rw [List.map_append, List.map_cons, List.map_nil]
  | false =>
    rw [nfS_none (h.2 rfl)]
    walk_at "evm_bea555"
    rw [g_add_l (h := by simp at hl ⊢; omega)]
    walk_at "evm_bea555"
    rw [List.map_append, List.map_cons, List.map_nil]
def rlBody : DS := dSeq rlA (dSeq rlB rlC)
theorem rl_step (X : D) (acc : List Pc) (row : Rw) (c3 c4 c5 c6 : Option D) (M : Sto) (ha : ∀ l, acc.getLast? = some l → isOpn l = false) (hl : acc.length ≤ 1000) :
    ∃ d3 d4 d5 d6, rlBody [some X, some (.lst (acc.map Pc.d)), some (rd row), c3, c4, c5, c6] M = .ok (.nx [some X, some (.lst ((nfS acc (pcOf row)).map Pc.d)), some (rd row), d3, d4, d5, d6]) M := by
  obtain ⟨same, both, e, hb⟩ := rlB_ok X (.lst (acc.map Pc.d)) acc row c4 c5 c6 M ha
  refine ⟨some (lastD acc), some (.bl same), some (pcOf row).d, some both, ?_⟩
  unfold rlBody
  rw [ev_seq, rlA_ok, bind_ok, ev_kSeq_nx, ev_seq, e, bind_ok, ev_kSeq_nx, rlC_ok (h := hb) (hl := hl)]
theorem pcOf_opn (r : Rw) : isOpn (pcOf r) = false := by
  cases r with
  | none => rfl
  | some ab => obtain ⟨a, b⟩ := ab; unfold pcOf; simp only; split <;> rfl
theorem rl_loop (X : D) (M : Sto) : ∀ (rows : List Rw) (acc : List Pc) (c2 c3 c4 c5 c6 : Option D), (∀ l, acc.getLast? = some l → isOpn l = false) → acc.length + rows.length ≤ 1000 →
    ∃ d2 d3 d4 d5 d6, forGo (tgName 2) rlBody (rows.map rd) [some X, some (.lst (acc.map Pc.d)), c2, c3, c4, c5, c6] M = .ok (.nx [some X, some (.lst (((rows.map pcOf).foldl nfS acc).map Pc.d)), d2, d3, d4, d5, d6]) M
  | [], acc, c2, c3, c4, c5, c6, _, _ => ⟨c2, c3, c4, c5, c6, rfl⟩
  | r :: rows, acc, c2, c3, c4, c5, c6, ha, hl => by
    simp only [List.length_cons] at hl
    obtain ⟨d3, d4, d5, d6, e⟩ := rl_step X acc r c3 c4 c5 c6 M ha (by omega)
    obtain ⟨x, hx, ho⟩ := nfS_last acc (pcOf r)
    have hlen := nfS_len acc (pcOf r)
    obtain ⟨f2, f3, f4, f5, f6, e2⟩ := rl_loop X M rows (nfS acc (pcOf r)) (some (rd r)) d3 d4 d5 d6 (fun l hl => by rw [hx] at hl; cases hl; rw [ho, pcOf_opn]) (by omega)
    refine ⟨f2, f3, f4, f5, f6, ?_⟩
    rw [List.map_cons, ev_go_cons]
    show goO _ _ _ (some [some X, some (.lst (acc.map Pc.d)), some (rd r), c3, c4, c5, c6]) M = _
    rw [ev_goO, e, bind_ok, ev_kGo_nx, e2]
    rfl
theorem rolled_eq (rows : List Rw) (c d : Int) (M : Sto) (h : (rows.map pcOf).getLast? = some (.old c d)) (hl : rows.length ≤ 1000) :
    ∃ m a b, nf (rows.map pcOf) = m ++ [.old a b] ∧ F__law_rolled [.lst (rows.map rd)] M = .ok (.lst ((m ++ [Pc.opn a]).map Pc.d)) M := by
  obtain ⟨m, a, b, hn⟩ := nf_old h
  refine ⟨m, a, b, hn, ?_⟩
  obtain ⟨d2, d3, d4, d5, d6, e⟩ := rl_loop (.lst (rows.map rd)) M rows [] none none none none none (fun l hl => by cases hl) (by simpa using hl)
  have hlen : (m ++ [Pc.old a b]).length ≤ 1000 := by
    have := nf_len (rows.map pcOf) []
    rw [show (rows.map pcOf).foldl nfS [] = m ++ [Pc.old a b] from hn] at this
    simp only [List.length_map, List.length_nil] at this
    omega
  rw [show (rows.map pcOf).foldl nfS [] = m ++ [Pc.old a b] from hn] at e
  have hi := forS_items (tgName 2) rlBody (rows.map rd) 20000000 0 [some (.lst (rows.map rd)), some (.lst (([] : List Pc).map Pc.d)), none, none, none, none, none] M (by simp; omega) (by omega)
  rw [List.drop_zero] at hi
  unfold F__law_rolled
  rw [show B__law_rolled = dSeq (dSet 1 (dLst dNilA)) (dSeq (dForS (tgName 2) (dIter2 (dVar 0)) rlBody) (dRet (dBin gAdd (dSl (dVar 1) dNoPart (dPart (dUn gNeg (dC (.int 1))))) (dLst (dConsA (dTup (dConsA (dC (.str "old")) (dConsA (dBin gIx (dBin gIx (dVar 1) (dUn gNeg (dC (.int 1)))) (dC (.int 1))) (dConsA (dC .non) dNilA)))) dNilA))))) from rfl]
  walk_at "evm_bea555"
  rw [show forS (tgName 2) rlBody (.items (rows.map rd)) 20000000 0 [some (.lst (rows.map rd)), some (.lst []), none, none, none, none, none] M = _ from hi, e]
  walk_at "evm_bea555"
  rw [cut_m1, List.map_append, List.map_cons, List.map_nil, List.dropLast_concat, atm1]
  simp only [Pc.d]
  walk_at "evm_bea555"
  rw [g_add_l (h := by simp at hlen ⊢; omega)]
  walk_at "evm_bea555"
  rw [List.map_append, List.map_cons, List.map_nil]
  rfl
end
section
set_option Elab.async false
set_option linter.all false
set_option maxRecDepth 100000
set_option maxHeartbeats 1000000
theorem rd_en (r : Rw) : rd r = en r := by cases r <;> rfl
theorem rd_map (rows : List Rw) : rows.map rd = rows.map en := List.map_congr_left fun r _ => rd_en r
def t__law_rolled (rows : List Rw) : Pr (List Pc) := fun Q _ => (∃ c d, (rows.map pcOf).getLast? = some (.old c d)) ∧ rows.length ≤ 1000 ∧ ∀ m a b, nf (rows.map pcOf) = m ++ [.old a b] → Q (m ++ [.opn a])
theorem ft__law_rolled (rows : List Rw) : FP F__law_rolled [en rows] (t__law_rolled rows) := fun M hM => ⟨fun Q E ⟨⟨c, d, h⟩, hl, q⟩ => by
  obtain ⟨m, a, b, hn, e⟩ := rolled_eq rows c d M h hl
  rw [show en rows = D.lst (rows.map rd) by rw [rd_map]; rfl, e]
  exact ⟨_, q m a b hn, rfl, rfl⟩⟩
end
section
set_option Elab.async false
set_option linter.all false
set_option maxRecDepth 100000
set_option maxHeartbeats 4000000
theorem of_ok (l L : List D) (G : Sto) (hl : BagOk l) (hL : L ≠ []) (hs : L.length < 1073741824) :
    ∃ d l', F__law_of [.ref 0, .lst L] (.lst l :: G) = .ok d (.lst l' :: G) ∧ d ∈ L ∧ BagOk l' := by
  have h0 : 0 < L.length := List.length_pos_iff.mpr hL
  obtain ⟨r, l', e, r0, r1, hb⟩ := pull_ok l G (L.length : Nat) hl (by omega) (by omega)
  obtain ⟨k, rfl⟩ : ∃ k : Nat, r = k := ⟨r.toNat, by omega⟩
  have hr : k < L.length := by omega
  refine ⟨L[k], l', ?_, List.getElem_mem _, hb⟩
  have ea : atI L (k : Int) = some L[k] := atI_nat (by simp [hr])
  unfold F__law_of B__law_of
  walk_at "evm_621bba"
  rw [e]
  walk_at "evm_621bba"
  rw [ea]
  walk_at "evm_621bba"
end
section
set_option Elab.async false
set_option linter.all false
set_option maxRecDepth 100000
set_option maxHeartbeats 1000000
theorem ft__law_of {α : Type} [Enc α] (l : List α) : FB F__law_of [en l] (Pr.of l) := fun b G hb hG => ⟨fun Q E ⟨h0, h1, q⟩ => by
  obtain ⟨d, l', e, hd, hb'⟩ := of_ok b (l.map en) G hb (by simpa using h0) (by simpa using h1)
  obtain ⟨x, hx, rfl⟩ := List.mem_map.mp hd
  rw [show F__law_of (.ref 0 :: [en l]) (.lst b :: G) = .ok (en x) (.lst l' :: G) from e]
  exact ⟨x, q x hx, rfl, l', hb', rfl⟩⟩
end
section
set_option Elab.async false
set_option linter.all false
set_option maxRecDepth 100000
set_option maxHeartbeats 1000000
theorem ft_plain : FP F_Layout_plain [.cls "Layout"] (Pr.ok (mkLay [.opn 0])) := fun M hM => by
  have hv : valid [Pc.opn 0] := ⟨by show (0 : Int) ≤ 0; decide, trivial, rfl⟩
  have e := make_eq' (.tup ([Pc.opn 0].map Pc.d)) [.opn 0] [.opn 0] M (.inr (.inl rfl)) hv rfl (fun q hq => by cases hq) (by simp) (by simp) hM
  have e2 : F_Layout_plain [.cls "Layout"] M = .ok (en (mkLay [.opn 0])) M := by
    unfold F_Layout_plain B_Layout_plain
    rw [ev_runF _ 1 1 _ [.cls "Layout"] rfl, ev_ret, ev_makeV _ _ 0 "Layout" _ _ rfl, ev_make, ev_consA, ev_c, bind_ok, ev_kCons, ev_nilA, bind_ok, ev_kCons2, bind_ok]
    rw [show D.tup [.tup [.str "old", .int 0, .non]] = .tup ([Pc.opn 0].map Pc.d) from rfl, e, bind_ok, ev_kRet, bind_ok, ev_kRun_rt]
    rfl
  rw [e2]
  exact .ok ⟨rfl, rfl⟩
end
section
set_option Elab.async false
set_option linter.all false
set_option maxRecDepth 100000
set_option maxHeartbeats 1000000
def t__law_any_rows (p_most : Int) : Pr (List (Option (Int × Int))) :=
  ((((Pr.of ([(0 : Int), (0 : Int), (1 : Int), (3 : Int)] : (List Int))).bind fun (b4 : Int) => (rep ([(none : (Option (Int × Int)))] : (List (Option (Int × Int)))) b4)).bind fun (a7 : (List (Option (Int × Int)))) => (Pr.ok ((T4.mk a7 (0 : Int) (0 : Int) (-(1 : Int))) : (T4 (List (Option (Int × Int))) Int Int Int)))).bind fun (u10 : (T4 (List (Option (Int × Int))) Int Int Int)) =>
  ((((Pr.pull (p_most + (1 : Int))).bind fun (n15 : Int) => Pr.need (sm n15) (Pr.ok (rngI 0 (Int.toNat n15)))).bind fun (l79 : List Int) => Pr.forM l79 (u10.p3, (u10.p4, (u10.p2, u10.p1))) (fun (x17 : Int) (s16 : (Int × (Int × (Int × (List (Option (Int × Int))))))) =>
  ((((Pr.pull (3 : Int)).bind fun (a22 : Int) => (Pr.ok (decide (a22 = (0 : Int))))).bind fun c => if c then (((Pr.of ([(0 : Int), (0 : Int), (1 : Int), (2 : Int)] : (List Int))).bind fun (b33 : Int) => (Pr.ok ((max (max s16.2.2.1 s16.1) (s16.2.1 + (1 : Int))) + b33))).bind fun (first_34 : Int) =>
  (((Pr.of ([(0 : Int), (0 : Int), (1 : Int), (2 : Int)] : (List Int))).bind fun (b40 : Int) => (Pr.ok (first_34 + b40))).bind fun (last_41 : Int) =>
  ((((Pr.need (sm first_34 ∧ sm (last_41 + (1 : Int))) (Pr.ok (rngI first_34 (Int.toNat ((last_41 + (1 : Int)) - first_34))))).bind fun (l45 : List Int) => Pr.need (l45.length ≤ 16777216) (Pr.ok ((l45.filter fun (x44 : Int) => true).map fun (x44 : Int) => (some ((x44, x44) : (Int × Int)))))).bind fun (b47 : (List (Option (Int × Int)))) => (cat s16.2.2.2 b47)).bind fun (rows_48 : (List (Option (Int × Int)))) =>
  (Pr.ok (last_41, (last_41, (last_41, rows_48))))))) else (((Pr.of ([(0 : Int), (0 : Int), (1 : Int), (2 : Int)] : (List Int))).bind fun (b56 : Int) => (Pr.ok (s16.2.2.1 + b56))).bind fun (low_57 : Int) =>
  (((Pr.of ([(0 : Int), (0 : Int), (1 : Int), (3 : Int)] : (List Int))).bind fun (b65 : Int) => (Pr.ok ((if (low_57 + (1 : Int)) > s16.1 then (low_57 + (1 : Int)) else s16.1) + b65))).bind fun (high_66 : Int) =>
  ((((Pr.of ([(1 : Int), (1 : Int), (2 : Int), (3 : Int)] : (List Int))).bind fun (b72 : Int) => (rep ([(some ((low_57, high_66) : (Int × Int)))] : (List (Option (Int × Int)))) b72)).bind fun (b74 : (List (Option (Int × Int)))) => (cat s16.2.2.2 b74)).bind fun (rows_75 : (List (Option (Int × Int)))) =>
  (Pr.ok (high_66, (s16.2.1, (low_57, rows_75)))))))).bind fun (s24 : (Int × (Int × (Int × (List (Option (Int × Int))))))) =>
  (Pr.ok (s24.1, (s24.2.1, (s24.2.2.1, s24.2.2.2))))))).bind fun (s16 : (Int × (Int × (Int × (List (Option (Int × Int))))))) =>
  (((Pr.of ([(0 : Int), (0 : Int), (1 : Int), (2 : Int)] : (List Int))).bind fun (b86 : Int) => (Pr.ok ((max (max s16.2.2.1 s16.1) (s16.2.1 + (1 : Int))) + b86))).bind fun (first_87 : Int) =>
  (((Pr.need (sm first_87 ∧ sm (first_87 + (9 : Int))) (Pr.ok (rngI first_87 (Int.toNat ((first_87 + (9 : Int)) - first_87))))).bind fun (l91 : List Int) => Pr.need (l91.length ≤ 16777216) (Pr.ok ((l91.filter fun (x90 : Int) => true).map fun (x90 : Int) => (some ((x90, x90) : (Int × Int)))))).bind fun (b93 : (List (Option (Int × Int)))) => (cat s16.2.2.2 b93)))))
theorem ft__law_any_rows (p_most : Int) : FB F__law_any_rows [(en (α := Int) p_most)] (t__law_any_rows p_most) := run_b (env0 := [some (.ref 0), some (en (α := Int) p_most), none, none, none, none, none, none, none]) rfl rfl (fun G M hM => by
  unfold B__law_any_rows t__law_any_rows
  exact (seq_asgx (env1 := fun (u10 : (T4 (List (Option (Int × Int))) Int Int Int)) => [some (.ref 0), some (en (α := Int) p_most), none, none, some (en (α := (List (Option (Int × Int)))) u10.p1), some (en (α := Int) u10.p2), some (en (α := Int) u10.p3), some (en (α := Int) u10.p4), none]) (fun M5 h6 => (arg_e (bin_pe (γ := (List (Option (Int × Int)))) (lst_v (av_cons (x := (en (α := (Option (Int × Int))) (none : (Option (Int × Int))))) pv_c av_nil)) (fun M1 h2 => (arg_p (pv (d := .ref 0) rfl) h2 (arg_p (lst_v (av_cons (x := (en (α := Int) (0 : Int))) pv_c (av_cons (x := (en (α := Int) (0 : Int))) pv_c (av_cons (x := (en (α := Int) (1 : Int))) pv_c (av_cons (x := (en (α := Int) (3 : Int))) pv_c av_nil))))) h2 (arg_nil (callB (ft__law_of ([(0 : Int), (0 : Int), (1 : Int), (3 : Int)] : (List Int))) h2))))) (fun b4 => (gs_rep (l := ([(none : (Option (Int × Int)))] : (List (Option (Int × Int))))) (k := b4)))) h6 (fun (a7 : (List (Option (Int × Int)))) M8 h9 => (arg_p pv_c h9 (arg_p pv_c h9 (arg_p (un_v (z := (en (α := Int) (-(1 : Int)))) pv_c (fun M _ => rfl)) h9 (arg_nil (seq_end (mk := D.tup) (a := ((T4.mk a7 (0 : Int) (0 : Int) (-(1 : Int))) : (T4 (List (Option (Int × Int))) Int Int Int))) rfl h9)))))))) (fun _ => rfl) hM (fun (u10 : (T4 (List (Option (Int × Int))) Int Int Int)) M11 h12 =>
  (seq_nx (k := fun (s16 : (Int × (Int × (Int × (List (Option (Int × Int))))))) => (((Pr.of ([(0 : Int), (0 : Int), (1 : Int), (2 : Int)] : (List Int))).bind fun (b86 : Int) => (Pr.ok ((max (max s16.2.2.1 s16.1) (s16.2.1 + (1 : Int))) + b86))).bind fun (first_87 : Int) =>
  (((Pr.need (sm first_87 ∧ sm (first_87 + (9 : Int))) (Pr.ok (rngI first_87 (Int.toNat ((first_87 + (9 : Int)) - first_87))))).bind fun (l91 : List Int) => Pr.need (l91.length ≤ 16777216) (Pr.ok ((l91.filter fun (x90 : Int) => true).map fun (x90 : Int) => (some ((x90, x90) : (Int × Int)))))).bind fun (b93 : (List (Option (Int × Int)))) => (cat s16.2.2.2 b93)))) (for_nx (enc := D.int) (s := (u10.p3, (u10.p4, (u10.p2, u10.p1)))) (body := (fun (x17 : Int) (s16 : (Int × (Int × (Int × (List (Option (Int × Int))))))) =>
  ((((Pr.pull (3 : Int)).bind fun (a22 : Int) => (Pr.ok (decide (a22 = (0 : Int))))).bind fun c => if c then (((Pr.of ([(0 : Int), (0 : Int), (1 : Int), (2 : Int)] : (List Int))).bind fun (b33 : Int) => (Pr.ok ((max (max s16.2.2.1 s16.1) (s16.2.1 + (1 : Int))) + b33))).bind fun (first_34 : Int) =>
  (((Pr.of ([(0 : Int), (0 : Int), (1 : Int), (2 : Int)] : (List Int))).bind fun (b40 : Int) => (Pr.ok (first_34 + b40))).bind fun (last_41 : Int) =>
  ((((Pr.need (sm first_34 ∧ sm (last_41 + (1 : Int))) (Pr.ok (rngI first_34 (Int.toNat ((last_41 + (1 : Int)) - first_34))))).bind fun (l45 : List Int) => Pr.need (l45.length ≤ 16777216) (Pr.ok ((l45.filter fun (x44 : Int) => true).map fun (x44 : Int) => (some ((x44, x44) : (Int × Int)))))).bind fun (b47 : (List (Option (Int × Int)))) => (cat s16.2.2.2 b47)).bind fun (rows_48 : (List (Option (Int × Int)))) =>
  (Pr.ok (last_41, (last_41, (last_41, rows_48))))))) else (((Pr.of ([(0 : Int), (0 : Int), (1 : Int), (2 : Int)] : (List Int))).bind fun (b56 : Int) => (Pr.ok (s16.2.2.1 + b56))).bind fun (low_57 : Int) =>
  (((Pr.of ([(0 : Int), (0 : Int), (1 : Int), (3 : Int)] : (List Int))).bind fun (b65 : Int) => (Pr.ok ((if (low_57 + (1 : Int)) > s16.1 then (low_57 + (1 : Int)) else s16.1) + b65))).bind fun (high_66 : Int) =>
  ((((Pr.of ([(1 : Int), (1 : Int), (2 : Int), (3 : Int)] : (List Int))).bind fun (b72 : Int) => (rep ([(some ((low_57, high_66) : (Int × Int)))] : (List (Option (Int × Int)))) b72)).bind fun (b74 : (List (Option (Int × Int)))) => (cat s16.2.2.2 b74)).bind fun (rows_75 : (List (Option (Int × Int)))) =>
  (Pr.ok (high_66, (s16.2.1, (low_57, rows_75)))))))).bind fun (s24 : (Int × (Int × (Int × (List (Option (Int × Int))))))) =>
  (Pr.ok (s24.1, (s24.2.1, (s24.2.2.1, s24.2.2.2))))))) (I := (fun (s16 : (Int × (Int × (Int × (List (Option (Int × Int))))))) (env : En) (M : Sto) => ∃ o18 : Option D, ∃ o19 : Option D, env = [some (.ref 0), some (en (α := Int) p_most), o19, o18, some (en (α := (List (Option (Int × Int)))) s16.2.2.2), some (en (α := Int) s16.2.2.1), some (en (α := Int) s16.1), some (en (α := Int) s16.2.1), none] ∧ (SB G) M)) (rng1_x (fun M13 h14 => (arg_p (pv (d := .ref 0) rfl) h14 (arg_p (bin_v (z := (en (α := Int) (p_most + (1 : Int)))) (pv (d := (en (α := Int) p_most)) rfl) pv_c (fun M _ => rfl)) h14 (arg_nil (callB (ft__law_pull (p_most + (1 : Int))) h14)))))) h12 (fun M h => ⟨_, _, rfl, h⟩)
  (fun x17 s16 env M ⟨o18, o19, he, hM⟩ => by subst he; exact ⟨[some (.ref 0), some (en (α := Int) p_most), some (en (α := Int) x17), o18, some (en (α := (List (Option (Int × Int)))) s16.2.2.2), some (en (α := Int) s16.2.2.1), some (en (α := Int) s16.1), some (en (α := Int) s16.2.1), none], rfl, (last_of (seq_nx (σ := (Int × (Int × (Int × (List (Option (Int × Int))))))) (I := (fun (s24 : (Int × (Int × (Int × (List (Option (Int × Int))))))) (env : En) (M : Sto) => ∃ o25 : Option D, env = [some (.ref 0), some (en (α := Int) p_most), some (en (α := Int) x17), o25, some (en (α := (List (Option (Int × Int)))) s24.2.2.2), some (en (α := Int) s24.2.2.1), some (en (α := Int) s24.1), some (en (α := Int) s24.2.1), none] ∧ (SB G) M)) (if_nxx (b_x (bin_ep (γ := Bool) (fun M20 h21 => (arg_p (pv (d := .ref 0) rfl) h21 (arg_p pv_c h21 (arg_nil (callB (ft__law_pull (3 : Int)) h21))))) pv_c (fun a22 => (gs_ok (c := (decide (a22 = (0 : Int)))) fun M _ => geqI _ _ M)))) hM (fun M26 h27 => (seq_setx (env1 := fun (first_34 : Int) => [some (.ref 0), some (en (α := Int) p_most), some (en (α := Int) x17), some (en (α := Int) first_34), some (en (α := (List (Option (Int × Int)))) s16.2.2.2), some (en (α := Int) s16.2.2.1), some (en (α := Int) s16.1), some (en (α := Int) s16.2.1), none]) (fun _ => rfl) (bin_pe (γ := Int) (callB_v (z := (en (α := Int) (max (max s16.2.2.1 s16.1) (s16.2.1 + (1 : Int))))) (av_cons (x := (en (α := Int) s16.2.2.1)) (pv (d := (en (α := Int) s16.2.2.1)) rfl) (av_cons (x := (en (α := Int) s16.1)) (pv (d := (en (α := Int) s16.1)) rfl) (av_cons (x := (en (α := Int) (s16.2.1 + (1 : Int)))) (bin_v (z := (en (α := Int) (s16.2.1 + (1 : Int)))) (pv (d := (en (α := Int) s16.2.1)) rfl) pv_c (fun M _ => rfl)) av_nil))) (fun _ _ => rfl)) (fun M30 h31 => (arg_p (pv (d := .ref 0) rfl) h31 (arg_p (lst_v (av_cons (x := (en (α := Int) (0 : Int))) pv_c (av_cons (x := (en (α := Int) (0 : Int))) pv_c (av_cons (x := (en (α := Int) (1 : Int))) pv_c (av_cons (x := (en (α := Int) (2 : Int))) pv_c av_nil))))) h31 (arg_nil (callB (ft__law_of ([(0 : Int), (0 : Int), (1 : Int), (2 : Int)] : (List Int))) h31))))) (fun b33 => (gs_ok (c := ((max (max s16.2.2.1 s16.1) (s16.2.1 + (1 : Int))) + b33)) fun M _ => rfl))) h27 (fun (first_34 : Int) M35 h36 =>
  (seq_setx (env1 := fun (last_41 : Int) => [some (.ref 0), some (en (α := Int) p_most), some (en (α := Int) x17), some (en (α := Int) first_34), some (en (α := (List (Option (Int × Int)))) s16.2.2.2), some (en (α := Int) s16.2.2.1), some (en (α := Int) s16.1), some (en (α := Int) last_41), none]) (fun _ => rfl) (bin_pe (γ := Int) (pv (d := (en (α := Int) first_34)) rfl) (fun M37 h38 => (arg_p (pv (d := .ref 0) rfl) h38 (arg_p (lst_v (av_cons (x := (en (α := Int) (0 : Int))) pv_c (av_cons (x := (en (α := Int) (0 : Int))) pv_c (av_cons (x := (en (α := Int) (1 : Int))) pv_c (av_cons (x := (en (α := Int) (2 : Int))) pv_c av_nil))))) h38 (arg_nil (callB (ft__law_of ([(0 : Int), (0 : Int), (1 : Int), (2 : Int)] : (List Int))) h38))))) (fun b40 => (gs_ok (c := (first_34 + b40)) fun M _ => rfl))) h36 (fun (last_41 : Int) M42 h43 =>
  (seq_setx (env1 := fun (rows_48 : (List (Option (Int × Int)))) => [some (.ref 0), some (en (α := Int) p_most), some (en (α := Int) x17), some (en (α := Int) first_34), some (en (α := (List (Option (Int × Int)))) rows_48), some (en (α := Int) s16.2.2.1), some (en (α := Int) s16.1), some (en (α := Int) last_41), none]) (fun _ => rfl) (bin_pe (γ := (List (Option (Int × Int)))) (pv (d := (en (α := (List (Option (Int × Int)))) s16.2.2.2)) rfl) (lc_v (enc := D.int) (c := fun (x44 : Int) => true) (g := fun (x44 : Int) => (some ((x44, x44) : (Int × Int)))) (rng2_v (m := first_34) (n := (last_41 + (1 : Int))) (pv (d := (en (α := Int) first_34)) rfl) (bin_v (z := (en (α := Int) (last_41 + (1 : Int)))) (pv (d := (en (α := Int) last_41)) rfl) pv_c (fun M _ => rfl))) (fun x44 => ⟨[some (.ref 0), some (en (α := Int) p_most), some (en (α := Int) x17), some (en (α := Int) first_34), some (en (α := (List (Option (Int × Int)))) s16.2.2.2), some (en (α := Int) s16.2.2.1), some (en (α := Int) s16.1), some (en (α := Int) last_41), some (en (α := Int) x44)], rfl, yes_tv, (tup_v (av_cons (x := (en (α := Int) x44)) (pv (d := (en (α := Int) x44)) rfl) (av_cons (x := (en (α := Int) x44)) (pv (d := (en (α := Int) x44)) rfl) av_nil)))⟩)) (fun b47 => (gs_cat (a := s16.2.2.2) (b := b47)))) h43 (fun (rows_48 : (List (Option (Int × Int)))) M49 h50 =>
  (last_of (seq_par (arg_p (pv (d := (en (α := Int) last_41)) rfl) h50 (arg_p (pv (d := (en (α := Int) last_41)) rfl) h50 (arg_nil (par_end (env1 := [some (.ref 0), some (en (α := Int) p_most), some (en (α := Int) x17), some (en (α := Int) first_34), some (en (α := (List (Option (Int × Int)))) rows_48), some (en (α := Int) last_41), some (en (α := Int) last_41), some (en (α := Int) last_41), none]) rfl (skip_end ⟨_, rfl, _, rfl, h50⟩)))))))))))))) (fun M51 h52 => (seq_setx (env1 := fun (low_57 : Int) => [some (.ref 0), some (en (α := Int) p_most), some (en (α := Int) x17), o18, some (en (α := (List (Option (Int × Int)))) s16.2.2.2), some (en (α := Int) low_57), some (en (α := Int) s16.1), some (en (α := Int) s16.2.1), none]) (fun _ => rfl) (bin_pe (γ := Int) (pv (d := (en (α := Int) s16.2.2.1)) rfl) (fun M53 h54 => (arg_p (pv (d := .ref 0) rfl) h54 (arg_p (lst_v (av_cons (x := (en (α := Int) (0 : Int))) pv_c (av_cons (x := (en (α := Int) (0 : Int))) pv_c (av_cons (x := (en (α := Int) (1 : Int))) pv_c (av_cons (x := (en (α := Int) (2 : Int))) pv_c av_nil))))) h54 (arg_nil (callB (ft__law_of ([(0 : Int), (0 : Int), (1 : Int), (2 : Int)] : (List Int))) h54))))) (fun b56 => (gs_ok (c := (s16.2.2.1 + b56)) fun M _ => rfl))) h52 (fun (low_57 : Int) M58 h59 =>
  (seq_setx (env1 := fun (high_66 : Int) => [some (.ref 0), some (en (α := Int) p_most), some (en (α := Int) x17), o18, some (en (α := (List (Option (Int × Int)))) s16.2.2.2), some (en (α := Int) low_57), some (en (α := Int) high_66), some (en (α := Int) s16.2.1), none]) (fun _ => rfl) (bin_pe (γ := Int) (callB_v (z := (en (α := Int) (if (low_57 + (1 : Int)) > s16.1 then (low_57 + (1 : Int)) else s16.1))) (av_cons (x := (en (α := Int) s16.1)) (pv (d := (en (α := Int) s16.1)) rfl) (av_cons (x := (en (α := Int) (low_57 + (1 : Int)))) (bin_v (z := (en (α := Int) (low_57 + (1 : Int)))) (pv (d := (en (α := Int) low_57)) rfl) pv_c (fun M _ => rfl)) av_nil)) (fun _ _ => rfl)) (fun M62 h63 => (arg_p (pv (d := .ref 0) rfl) h63 (arg_p (lst_v (av_cons (x := (en (α := Int) (0 : Int))) pv_c (av_cons (x := (en (α := Int) (0 : Int))) pv_c (av_cons (x := (en (α := Int) (1 : Int))) pv_c (av_cons (x := (en (α := Int) (3 : Int))) pv_c av_nil))))) h63 (arg_nil (callB (ft__law_of ([(0 : Int), (0 : Int), (1 : Int), (3 : Int)] : (List Int))) h63))))) (fun b65 => (gs_ok (c := ((if (low_57 + (1 : Int)) > s16.1 then (low_57 + (1 : Int)) else s16.1) + b65)) fun M _ => rfl))) h59 (fun (high_66 : Int) M67 h68 =>
  (last_of (seq_setx (env1 := fun (rows_75 : (List (Option (Int × Int)))) => [some (.ref 0), some (en (α := Int) p_most), some (en (α := Int) x17), o18, some (en (α := (List (Option (Int × Int)))) rows_75), some (en (α := Int) low_57), some (en (α := Int) high_66), some (en (α := Int) s16.2.1), none]) (fun _ => rfl) (bin_pe (γ := (List (Option (Int × Int)))) (pv (d := (en (α := (List (Option (Int × Int)))) s16.2.2.2)) rfl) (bin_pe (γ := (List (Option (Int × Int)))) (lst_v (av_cons (x := (en (α := (Option (Int × Int))) (some ((low_57, high_66) : (Int × Int))))) (tup_v (av_cons (x := (en (α := Int) low_57)) (pv (d := (en (α := Int) low_57)) rfl) (av_cons (x := (en (α := Int) high_66)) (pv (d := (en (α := Int) high_66)) rfl) av_nil))) av_nil)) (fun M69 h70 => (arg_p (pv (d := .ref 0) rfl) h70 (arg_p (lst_v (av_cons (x := (en (α := Int) (1 : Int))) pv_c (av_cons (x := (en (α := Int) (1 : Int))) pv_c (av_cons (x := (en (α := Int) (2 : Int))) pv_c (av_cons (x := (en (α := Int) (3 : Int))) pv_c av_nil))))) h70 (arg_nil (callB (ft__law_of ([(1 : Int), (1 : Int), (2 : Int), (3 : Int)] : (List Int))) h70))))) (fun b72 => (gs_rep (l := ([(some ((low_57, high_66) : (Int × Int)))] : (List (Option (Int × Int))))) (k := b72)))) (fun b74 => (gs_cat (a := s16.2.2.2) (b := b74)))) h68 (fun (rows_75 : (List (Option (Int × Int)))) M76 h77 =>
  (skip_end ⟨_, rfl, _, rfl, h77⟩))))))))))
  (fun s24 env M ⟨o25, he, h78⟩ => by subst he; exact (skip_end ⟨_, Or.inl rfl, _, _, rfl, h78⟩))))⟩))
  (fun s16 env M ⟨o18, o19, he, h80⟩ => by subst he; exact (seq_setx (env1 := fun (first_87 : Int) => [some (.ref 0), some (en (α := Int) p_most), o19, some (en (α := Int) first_87), some (en (α := (List (Option (Int × Int)))) s16.2.2.2), some (en (α := Int) s16.2.2.1), some (en (α := Int) s16.1), some (en (α := Int) s16.2.1), none]) (fun _ => rfl) (bin_pe (γ := Int) (callB_v (z := (en (α := Int) (max (max s16.2.2.1 s16.1) (s16.2.1 + (1 : Int))))) (av_cons (x := (en (α := Int) s16.2.2.1)) (pv (d := (en (α := Int) s16.2.2.1)) rfl) (av_cons (x := (en (α := Int) s16.1)) (pv (d := (en (α := Int) s16.1)) rfl) (av_cons (x := (en (α := Int) (s16.2.1 + (1 : Int)))) (bin_v (z := (en (α := Int) (s16.2.1 + (1 : Int)))) (pv (d := (en (α := Int) s16.2.1)) rfl) pv_c (fun M _ => rfl)) av_nil))) (fun _ _ => rfl)) (fun M83 h84 => (arg_p (pv (d := .ref 0) rfl) h84 (arg_p (lst_v (av_cons (x := (en (α := Int) (0 : Int))) pv_c (av_cons (x := (en (α := Int) (0 : Int))) pv_c (av_cons (x := (en (α := Int) (1 : Int))) pv_c (av_cons (x := (en (α := Int) (2 : Int))) pv_c av_nil))))) h84 (arg_nil (callB (ft__law_of ([(0 : Int), (0 : Int), (1 : Int), (2 : Int)] : (List Int))) h84))))) (fun b86 => (gs_ok (c := ((max (max s16.2.2.1 s16.1) (s16.2.1 + (1 : Int))) + b86)) fun M _ => rfl))) h80 (fun (first_87 : Int) M88 h89 =>
  (last_of (seq_retx' (bin_pe (γ := (List (Option (Int × Int)))) (pv (d := (en (α := (List (Option (Int × Int)))) s16.2.2.2)) rfl) (lc_v (enc := D.int) (c := fun (x90 : Int) => true) (g := fun (x90 : Int) => (some ((x90, x90) : (Int × Int)))) (rng2_v (m := first_87) (n := (first_87 + (9 : Int))) (pv (d := (en (α := Int) first_87)) rfl) (bin_v (z := (en (α := Int) (first_87 + (9 : Int)))) (pv (d := (en (α := Int) first_87)) rfl) pv_c (fun M _ => rfl))) (fun x90 => ⟨[some (.ref 0), some (en (α := Int) p_most), o19, some (en (α := Int) first_87), some (en (α := (List (Option (Int × Int)))) s16.2.2.2), some (en (α := Int) s16.2.2.1), some (en (α := Int) s16.1), some (en (α := Int) s16.2.1), some (en (α := Int) x90)], rfl, yes_tv, (tup_v (av_cons (x := (en (α := Int) x90)) (pv (d := (en (α := Int) x90)) rfl) (av_cons (x := (en (α := Int) x90)) (pv (d := (en (α := Int) x90)) rfl) av_nil)))⟩)) (fun b93 => (gs_cat (a := s16.2.2.2) (b := b93)))) h89 (fun r94 M95 h96 => ⟨rfl, h96⟩))))))))))
def t__law_piece_text (p_piece : Pc) : Pr Str :=
  (if p_piece.isTop then ((Pr.need (p_piece.f1.natAbs.log2 < 1920) (Pr.ok (strI p_piece.f1))).bind fun (b4 : Str) => (op2 (α := Str) (β := Str) (γ := Str) gAdd ("top " : Str) b4)) else
  (if p_piece.isNew then ((((((Pr.need (p_piece.f1.natAbs.log2 < 1920) (Pr.ok (strI p_piece.f1))).bind fun (b11 : Str) => (op2 (α := Str) (β := Str) (γ := Str) gAdd ("new " : Str) b11)).bind fun (a12 : Str) => (op2 (α := Str) (β := Str) (γ := Str) gAdd a12 ("-" : Str))).bind fun (a20 : Str) => ((p_piece.f2.bind fun (a16 : (Option Int)) => cast (α := (Option Int)) (β := Int) a16).bind fun (a17 : Int) => (Pr.need (a17.natAbs.log2 < 1920) (Pr.ok (strI a17)))).bind fun (b21 : Str) => (op2 (α := Str) (β := Str) (γ := Str) gAdd a20 b21)).bind fun (a22 : Str) => (op2 (α := Str) (β := Str) (γ := Str) gAdd a22 (" x" : Str))).bind fun (a29 : Str) => (p_piece.f3.bind fun (a26 : Int) => (Pr.need (a26.natAbs.log2 < 1920) (Pr.ok (strI a26)))).bind fun (b30 : Str) => (op2 (α := Str) (β := Str) (γ := Str) gAdd a29 b30)) else
  ((p_piece.f2.bind fun (a34 : (Option Int)) => (Pr.ok a34.isNone)).bind fun c => if c then (((Pr.need (p_piece.f1.natAbs.log2 < 1920) (Pr.ok (strI p_piece.f1))).bind fun (b41 : Str) => (op2 (α := Str) (β := Str) (γ := Str) gAdd ("old " : Str) b41)).bind fun (a42 : Str) => (op2 (α := Str) (β := Str) (γ := Str) gAdd a42 ("-" : Str))) else
  (((Pr.need (p_piece.f1.natAbs.log2 < 1920) (Pr.ok (strI p_piece.f1))).bind fun (b52 : Str) => (op2 (α := Str) (β := Str) (γ := Str) gAdd ("old " : Str) b52)).bind fun (a63 : Str) => ((p_piece.f2.bind fun (b54 : (Option Int)) => (op2 (α := Int) (β := (Option Int)) (γ := Bool) (gEq false) p_piece.f1 b54)).bind fun c => if c then (Pr.ok ("" : Str)) else (((p_piece.f2.bind fun (a57 : (Option Int)) => cast (α := (Option Int)) (β := Int) a57).bind fun (a58 : Int) => (Pr.need (a58.natAbs.log2 < 1920) (Pr.ok (strI a58)))).bind fun (b62 : Str) => (op2 (α := Str) (β := Str) (γ := Str) gAdd ("-" : Str) b62))).bind fun (b64 : Str) => (op2 (α := Str) (β := Str) (γ := Str) gAdd a63 b64)))))
theorem ft__law_piece_text (p_piece : Pc) : FP F__law_piece_text [(en (α := Pc) p_piece)] (t__law_piece_text p_piece) := run_p (env0 := [some (en (α := Pc) p_piece)]) rfl rfl (fun M0 M hM => by
  unfold B__law_piece_text t__law_piece_text
  exact (seq_if (b_v (word_v (p := p_piece) (pv (d := (en (α := Pc) p_piece)) rfl)).1) hM (seq_retx' (bin_pe (γ := Str) pv_c (fun M1 h2 => (arg_p (f1_v (p := p_piece) (pv (d := (en (α := Pc) p_piece)) rfl)) h2 (arg_nil (.need fun hl => callB_end (c := strI p_piece.f1) h2 (fun M _ => gStrI_v hl M))))) (fun b4 => (gs_op2 (α := Str) (β := Str) (γ := Str) (a := ("top " : Str)) (b := b4)))) hM (fun r5 M6 h7 => ⟨rfl, h7⟩))
  (seq_skip (seq_if (b_v (word_v (p := p_piece) (pv (d := (en (α := Pc) p_piece)) rfl)).2.2) hM (seq_retx' (bin_ee (γ := Str) (bin_ep (γ := Str) (bin_ee (γ := Str) (bin_ep (γ := Str) (bin_pe (γ := Str) pv_c (fun M8 h9 => (arg_p (f1_v (p := p_piece) (pv (d := (en (α := Pc) p_piece)) rfl)) h9 (arg_nil (.need fun hl => callB_end (c := strI p_piece.f1) h9 (fun M _ => gStrI_v hl M))))) (fun b11 => (gs_op2 (α := Str) (β := Str) (γ := Str) (a := ("new " : Str)) (b := b11)))) pv_c (fun a12 => (gs_op2 (α := Str) (β := Str) (γ := Str) (a := a12) (b := ("-" : Str))))) (fun M14 h15 => (arg_e (PX.cast (α := (Option Int)) (β := Int) (f2_x (p := p_piece) (pv (d := (en (α := Pc) p_piece)) rfl))) h15 (fun (a17 : Int) M18 h19 => (arg_nil (.need fun hl => callB_end (c := strI a17) h19 (fun M _ => gStrI_v hl M)))))) (fun a20 b21 => (gs_op2 (α := Str) (β := Str) (γ := Str) (a := a20) (b := b21)))) pv_c (fun a22 => (gs_op2 (α := Str) (β := Str) (γ := Str) (a := a22) (b := (" x" : Str))))) (fun M24 h25 => (arg_e (f3_x (p := p_piece) (pv (d := (en (α := Pc) p_piece)) rfl)) h25 (fun (a26 : Int) M27 h28 => (arg_nil (.need fun hl => callB_end (c := strI a26) h28 (fun M _ => gStrI_v hl M)))))) (fun a29 b30 => (gs_op2 (α := Str) (β := Str) (γ := Str) (a := a29) (b := b30)))) hM (fun r31 M32 h33 => ⟨rfl, h33⟩))
  (seq_skip (seq_ifx (b_x (bin_ep (γ := Bool) (f2_x (p := p_piece) (pv (d := (en (α := Pc) p_piece)) rfl)) pv_c (fun a34 => (gs_is (o := a34))))) hM (fun M36 h37 => (seq_retx' (bin_ep (γ := Str) (bin_pe (γ := Str) pv_c (fun M38 h39 => (arg_p (f1_v (p := p_piece) (pv (d := (en (α := Pc) p_piece)) rfl)) h39 (arg_nil (.need fun hl => callB_end (c := strI p_piece.f1) h39 (fun M _ => gStrI_v hl M))))) (fun b41 => (gs_op2 (α := Str) (β := Str) (γ := Str) (a := ("old " : Str)) (b := b41)))) pv_c (fun a42 => (gs_op2 (α := Str) (β := Str) (γ := Str) (a := a42) (b := ("-" : Str))))) h37 (fun r44 M45 h46 => ⟨rfl, h46⟩)))
  (fun M47 h48 => (seq_skip (last_of (seq_retx' (bin_ee (γ := Str) (bin_pe (γ := Str) pv_c (fun M49 h50 => (arg_p (f1_v (p := p_piece) (pv (d := (en (α := Pc) p_piece)) rfl)) h50 (arg_nil (.need fun hl => callB_end (c := strI p_piece.f1) h50 (fun M _ => gStrI_v hl M))))) (fun b52 => (gs_op2 (α := Str) (β := Str) (γ := Str) (a := ("old " : Str)) (b := b52)))) (ifE_x (α := Str) (b_x (bin_pe (γ := Bool) (f1_v (p := p_piece) (pv (d := (en (α := Pc) p_piece)) rfl)) (f2_x (p := p_piece) (pv (d := (en (α := Pc) p_piece)) rfl)) (fun b54 => (gs_op2 (α := Int) (β := (Option Int)) (γ := Bool) (a := p_piece.f1) (b := b54))))) (PV.px (a := ("" : Str)) pv_c) (bin_pe (γ := Str) pv_c (fun M55 h56 => (arg_e (PX.cast (α := (Option Int)) (β := Int) (f2_x (p := p_piece) (pv (d := (en (α := Pc) p_piece)) rfl))) h56 (fun (a58 : Int) M59 h60 => (arg_nil (.need fun hl => callB_end (c := strI a58) h60 (fun M _ => gStrI_v hl M)))))) (fun b62 => (gs_op2 (α := Str) (β := Str) (γ := Str) (a := ("-" : Str)) (b := b62))))) (fun a63 b64 => (gs_op2 (α := Str) (β := Str) (γ := Str) (a := a63) (b := b64)))) h48 (fun r65 M66 h67 => ⟨rfl, h67⟩)))))))))))
def t__law_layout_text (p_pieces : (List Pc)) : Pr Str :=
  ((Pr.need (p_pieces.length ≤ 16777216) (Pr.lcM p_pieces (fun (x3 : Pc) => (Pr.ok true)) (fun (x3 : Pc) => (t__law_piece_text x3)))).bind fun (l7 : List Str) => Pr.need (joiOk ("; " : Str) l7) (Pr.ok (Txt.join ("; " : Str) l7)))
theorem ft__law_layout_text (p_pieces : (List Pc)) : FH F__law_layout_text (fun xh => [xh]) p_pieces (t__law_layout_text p_pieces) := run_h (env0 := fun xh => [some xh, none]) (fun _ => rfl) (fun _ => rfl) (fun xh M0 M hM => by
  unfold B__law_layout_text t__law_layout_text
  exact (last_of (seq_retx' (join_x (a := ("; " : Str)) pv_c (lcH_x (S := (SH xh (List.map en p_pieces) M0)) (x := xh) (l := p_pieces) (enc := (en (α := Pc))) (c := fun (x3 : Pc) => (Pr.ok true)) (g := fun (x3 : Pc) => (t__law_piece_text x3)) rfl (fun M hM => hM.sq) (fun x3 => ⟨[some xh, some (en (α := Pc) x3)], rfl, (TV.tx yes_tv), (fun M4 h5 => (arg_p (pv (d := (en (α := Pc) x3)) rfl) h5 (arg_nil (callP (ft__law_piece_text x3) h5))))⟩))) hM (fun r8 M9 h10 => ⟨rfl, h10⟩))))
def t_read_number (p_text : Str) : Pr (Option Int) :=
  ((if (!(Txt.isdigit p_text)) then Pr.ok true else ((Pr.need (p_text.length ≤ 16777216) (Pr.ok ((p_text.length : Nat) : Int))).bind fun (a5 : Int) => (Pr.ok (decide (a5 > (18 : Int)))))).bind fun c => if c then (Pr.ok (none : (Option Int))) else
  ((((op2 (α := Str) (β := Int) (γ := Str) gIxS p_text (0 : Int)).bind fun (a13 : Str) => (Pr.ok (decide (a13 = ("0" : Str))))).bind fun a => if a then (Pr.ok (!decide (p_text = ("0" : Str)))) else Pr.ok false).bind fun c => if c then (Pr.ok (none : (Option Int))) else
  ((Pr.need (p_text.length ≤ 640) (optP (PySem.intText? p_text))).bind fun (a21 : Int) => cast (α := Int) (β := (Option Int)) a21)))
theorem ft_read_number (p_text : Str) : FP F_read_number [(en (α := Str) p_text)] (t_read_number p_text) := run_p (env0 := [some (en (α := Str) p_text)]) rfl rfl (fun M0 M hM => by
  unfold B_read_number t_read_number
  exact (seq_ifx (or_tpx (not_tv (tru_v (isdig_v (a := p_text) (pv (d := (en (α := Str) p_text)) rfl)) (fun _ _ => rfl))) (b_x (bin_ep (γ := Bool) (fun M3 h4 => (arg_p (pv (d := (en (α := Str) p_text)) rfl) h4 (arg_nil (.need fun hl => callB_end (c := ((p_text.length : Nat) : Int)) h4 (fun M _ => gLenS_v hl M))))) pv_c (fun a5 => (gs_ok (c := (decide (a5 > (18 : Int)))) fun M _ => rfl))))) hM (fun M7 h8 => (seq_ret (x := (en (α := (Option Int)) (none : (Option Int)))) pv_c h8 ⟨rfl, h8⟩))
  (fun M9 h10 => (seq_skip (seq_ifx (and_tx (b_x (bin_ep (γ := Bool) (bin_pp (γ := Str) (P := (op2 (α := Str) (β := Int) (γ := Str) gIxS p_text (0 : Int))) (pv (d := (en (α := Str) p_text)) rfl) pv_c (gs_op2 (α := Str) (β := Int) (γ := Str) (a := p_text) (b := (0 : Int)))) pv_c (fun a13 => (gs_ok (c := (decide (a13 = ("0" : Str)))) fun M _ => w_eq _ _ M)))) (TV.tx (b_v (bin_v (z := (en (α := Bool) (!decide (p_text = ("0" : Str))))) (pv (d := (en (α := Str) p_text)) rfl) pv_c (fun M _ => w_ne _ _ M))))) h10 (fun M15 h16 => (seq_ret (x := (en (α := (Option Int)) (none : (Option Int)))) pv_c h16 ⟨rfl, h16⟩))
  (fun M17 h18 => (seq_skip (last_of (seq_retx' (PX.cast (α := Int) (β := (Option Int)) (fun M19 h20 => (arg_p (pv (d := (en (α := Str) p_text)) rfl) h20 (arg_nil (intT_end (z := p_text) h20))))) h18 (fun r22 M23 h24 => ⟨rfl, h24⟩))))))))))
def t_read_top (p_text : Str) : Pr (Option Pc) :=
  ((t_read_number p_text).bind fun (count_3 : (Option Int)) =>
  (if count_3.isNone then (Pr.ok (none : (Option Pc))) else (cast (α := (Str × (Option Int))) (β := (Option Pc)) ((("top" : Str), count_3) : (Str × (Option Int))))))
theorem ft_read_top (p_text : Str) : FP F_read_top [(en (α := Str) p_text)] (t_read_top p_text) := run_p (env0 := [some (en (α := Str) p_text), none]) rfl rfl (fun M0 M hM => by
  unfold B_read_top t_read_top
  exact (seq_setx (env1 := fun (count_3 : (Option Int)) => [some (en (α := Str) p_text), some (en (α := (Option Int)) count_3)]) (fun _ => rfl) (fun M1 h2 => (arg_p (pv (d := (en (α := Str) p_text)) rfl) h2 (arg_nil (callP (ft_read_number p_text) h2)))) hM (fun (count_3 : (Option Int)) M4 h5 =>
  (last_of (seq_retx' (ifE_t (α := (Option Pc)) (b_v (is_v (o := count_3) (pv (d := (en (α := (Option Int)) count_3)) rfl) pv_c)) (PV.px (a := (none : (Option Pc))) pv_c) (PV.cast (α := (Str × (Option Int))) (β := (Option Pc)) (a := ((("top" : Str), count_3) : (Str × (Option Int)))) (tup_v (av_cons (x := (en (α := Str) ("top" : Str))) pv_c (av_cons (x := (en (α := (Option Int)) count_3)) (pv (d := (en (α := (Option Int)) count_3)) rfl) av_nil))))) h5 (fun r6 M7 h8 => ⟨rfl, h8⟩))))))
def t_read_old (p_text : Str) : Pr (Option Pc) :=
  ((Pr.need (partC p_text ("-" : Str)) (Pr.ok (⟨(Txt.partition p_text ("-" : Str)).1, (Txt.partition p_text ("-" : Str)).2.1, (Txt.partition p_text ("-" : Str)).2.2⟩ : T3 Str Str Str))).bind fun (u3 : (T3 Str Str Str)) =>
  ((t_read_number u3.p1).bind fun (first_8 : (Option Int)) =>
  (if first_8.isNone then (Pr.ok (none : (Option Pc))) else
  (if (decide (u3.p2 = ("" : Str))) then (cast (α := (T3 Str (Option Int) (Option Int))) (β := (Option Pc)) ((T3.mk ("old" : Str) first_8 first_8) : (T3 Str (Option Int) (Option Int)))) else
  (if (decide (u3.p3 = ("" : Str))) then (cast (α := (T3 Str (Option Int) Unit)) (β := (Option Pc)) ((T3.mk ("old" : Str) first_8 ()) : (T3 Str (Option Int) Unit))) else
  ((t_read_number u3.p3).bind fun (last_19 : (Option Int)) =>
  (if (last_19.isNone || (decide (last_19 = first_8))) then (Pr.ok (none : (Option Pc))) else
  (cast (α := (T3 Str (Option Int) (Option Int))) (β := (Option Pc)) ((T3.mk ("old" : Str) first_8 last_19) : (T3 Str (Option Int) (Option Int)))))))))))
theorem ft_read_old (p_text : Str) : FP F_read_old [(en (α := Str) p_text)] (t_read_old p_text) := run_p (env0 := [some (en (α := Str) p_text), none, none, none, none, none]) rfl rfl (fun M0 M hM => by
  unfold B_read_old t_read_old
  exact (seq_asgx (env1 := fun (u3 : (T3 Str Str Str)) => [some (en (α := Str) p_text), none, none, some (en (α := Str) u3.p1), some (en (α := Str) u3.p2), some (en (α := Str) u3.p3)]) (part_x (a := p_text) (b := ("-" : Str)) (pv (d := (en (α := Str) p_text)) rfl) pv_c) (fun _ => rfl) hM (fun (u3 : (T3 Str Str Str)) M4 h5 =>
  (seq_setx (env1 := fun (first_8 : (Option Int)) => [some (en (α := Str) p_text), some (en (α := (Option Int)) first_8), none, some (en (α := Str) u3.p1), some (en (α := Str) u3.p2), some (en (α := Str) u3.p3)]) (fun _ => rfl) (fun M6 h7 => (arg_p (pv (d := (en (α := Str) u3.p1)) rfl) h7 (arg_nil (callP (ft_read_number u3.p1) h7)))) h5 (fun (first_8 : (Option Int)) M9 h10 =>
  (seq_if (b_v (is_v (o := first_8) (pv (d := (en (α := (Option Int)) first_8)) rfl) pv_c)) h10 (seq_ret (x := (en (α := (Option Pc)) (none : (Option Pc)))) pv_c h10 ⟨rfl, h10⟩)
  (seq_skip (seq_if (b_v (bin_v (z := (en (α := Bool) (decide (u3.p2 = ("" : Str))))) (pv (d := (en (α := Str) u3.p2)) rfl) pv_c (fun M _ => w_eq _ _ M))) h10 (seq_retx' (PV.cast (α := (T3 Str (Option Int) (Option Int))) (β := (Option Pc)) (a := ((T3.mk ("old" : Str) first_8 first_8) : (T3 Str (Option Int) (Option Int)))) (tup_v (av_cons (x := (en (α := Str) ("old" : Str))) pv_c (av_cons (x := (en (α := (Option Int)) first_8)) (pv (d := (en (α := (Option Int)) first_8)) rfl) (av_cons (x := (en (α := (Option Int)) first_8)) (pv (d := (en (α := (Option Int)) first_8)) rfl) av_nil))))) h10 (fun r11 M12 h13 => ⟨rfl, h13⟩))
  (seq_skip (seq_if (b_v (bin_v (z := (en (α := Bool) (decide (u3.p3 = ("" : Str))))) (pv (d := (en (α := Str) u3.p3)) rfl) pv_c (fun M _ => w_eq _ _ M))) h10 (seq_retx' (PV.cast (α := (T3 Str (Option Int) Unit)) (β := (Option Pc)) (a := ((T3.mk ("old" : Str) first_8 ()) : (T3 Str (Option Int) Unit))) (tup_v (av_cons (x := (en (α := Str) ("old" : Str))) pv_c (av_cons (x := (en (α := (Option Int)) first_8)) (pv (d := (en (α := (Option Int)) first_8)) rfl) (av_cons (x := (en (α := Unit) ())) pv_c av_nil))))) h10 (fun r14 M15 h16 => ⟨rfl, h16⟩))
  (seq_skip (seq_setx (env1 := fun (last_19 : (Option Int)) => [some (en (α := Str) p_text), some (en (α := (Option Int)) first_8), some (en (α := (Option Int)) last_19), some (en (α := Str) u3.p1), some (en (α := Str) u3.p2), some (en (α := Str) u3.p3)]) (fun _ => rfl) (fun M17 h18 => (arg_p (pv (d := (en (α := Str) u3.p3)) rfl) h18 (arg_nil (callP (ft_read_number u3.p3) h18)))) h10 (fun (last_19 : (Option Int)) M20 h21 =>
  (seq_if (or_tv (b_v (is_v (o := last_19) (pv (d := (en (α := (Option Int)) last_19)) rfl) pv_c)) (b_v (bin_v (z := (en (α := Bool) (decide (last_19 = first_8)))) (pv (d := (en (α := (Option Int)) last_19)) rfl) (pv (d := (en (α := (Option Int)) first_8)) rfl) (fun M _ => geqT (α := (Option Int)) last_19 first_8 M)))) h21 (seq_ret (x := (en (α := (Option Pc)) (none : (Option Pc)))) pv_c h21 ⟨rfl, h21⟩)
  (seq_skip (last_of (seq_retx' (PV.cast (α := (T3 Str (Option Int) (Option Int))) (β := (Option Pc)) (a := ((T3.mk ("old" : Str) first_8 last_19) : (T3 Str (Option Int) (Option Int)))) (tup_v (av_cons (x := (en (α := Str) ("old" : Str))) pv_c (av_cons (x := (en (α := (Option Int)) first_8)) (pv (d := (en (α := (Option Int)) first_8)) rfl) (av_cons (x := (en (α := (Option Int)) last_19)) (pv (d := (en (α := (Option Int)) last_19)) rfl) av_nil))))) h21 (fun r22 M23 h24 => ⟨rfl, h24⟩))))))))))))))))))
def t_read_new (p_label : Str) (p_times : Str) : Pr (Option Pc) :=
  ((Pr.need (partC p_label ("-" : Str)) (Pr.ok (⟨(Txt.partition p_label ("-" : Str)).1, (Txt.partition p_label ("-" : Str)).2.1, (Txt.partition p_label ("-" : Str)).2.2⟩ : T3 Str Str Str))).bind fun (u3 : (T3 Str Str Str)) =>
  (((t_read_number u3.p1).bind fun (a17 : (Option Int)) => ((t_read_number u3.p3).bind fun (a20 : (Option Int)) => (((Pr.need (p_times.length ≤ 16777216) (Pr.ok (cutS p_times (some (1 : Int)) none))).bind fun (a12 : Str) => (t_read_number a12)).bind fun (a23 : (Option Int)) => (Pr.ok ((T3.mk a17 a20 a23) : (T3 (Option Int) (Option Int) (Option Int))))))).bind fun (number_26 : (T3 (Option Int) (Option Int) (Option Int))) =>
  ((((Pr.need (p_times.length ≤ 16777216) (Pr.ok (cutS p_times none (some (1 : Int))))).bind fun (a29 : Str) => (Pr.ok (!decide (a29 = ("x" : Str))))).bind fun a => if a then Pr.ok true else (op2 (α := (Option Int)) (β := (T3 (Option Int) (Option Int) (Option Int))) (γ := Bool) (gIn false) (none : (Option Int)) number_26)).bind fun c => if c then (Pr.ok (none : (Option Pc))) else
  (op2 (α := Da) (β := (T3 (Option Int) (Option Int) (Option Int))) (γ := (Option Pc)) gAdd (tup1 ("new" : Str)) number_26))))
theorem ft_read_new (p_label : Str) (p_times : Str) : FP F_read_new [(en (α := Str) p_label), (en (α := Str) p_times)] (t_read_new p_label p_times) := run_p (env0 := [some (en (α := Str) p_label), some (en (α := Str) p_times), none, none, none, none]) rfl rfl (fun M0 M hM => by
  unfold B_read_new t_read_new
  exact (seq_asgx (env1 := fun (u3 : (T3 Str Str Str)) => [some (en (α := Str) p_label), some (en (α := Str) p_times), none, some (en (α := Str) u3.p1), some (en (α := Str) u3.p2), some (en (α := Str) u3.p3)]) (part_x (a := p_label) (b := ("-" : Str)) (pv (d := (en (α := Str) p_label)) rfl) pv_c) (fun _ => rfl) hM (fun (u3 : (T3 Str Str Str)) M4 h5 =>
  (seq_setx (env1 := fun (number_26 : (T3 (Option Int) (Option Int) (Option Int))) => [some (en (α := Str) p_label), some (en (α := Str) p_times), some (en (α := (T3 (Option Int) (Option Int) (Option Int))) number_26), some (en (α := Str) u3.p1), some (en (α := Str) u3.p2), some (en (α := Str) u3.p3)]) (fun _ => rfl) (fun M15 h16 => (arg_e (fun M6 h7 => (arg_p (pv (d := (en (α := Str) u3.p1)) rfl) h7 (arg_nil (callP (ft_read_number u3.p1) h7)))) h16 (fun (a17 : (Option Int)) M18 h19 => (arg_e (fun M8 h9 => (arg_p (pv (d := (en (α := Str) u3.p3)) rfl) h9 (arg_nil (callP (ft_read_number u3.p3) h9)))) h19 (fun (a20 : (Option Int)) M21 h22 => (arg_e (fun M10 h11 => (arg_e (slS_x (a := p_times) (pv (d := (en (α := Str) p_times)) rfl) (ov_s (i := (1 : Int)) pv_c) ov_n) h11 (fun (a12 : Str) M13 h14 => (arg_nil (callP (ft_read_number a12) h14))))) h22 (fun (a23 : (Option Int)) M24 h25 => (arg_nil (seq_end (mk := D.tup) (a := ((T3.mk a17 a20 a23) : (T3 (Option Int) (Option Int) (Option Int)))) rfl h25))))))))) h5 (fun (number_26 : (T3 (Option Int) (Option Int) (Option Int))) M27 h28 =>
  (seq_ifx (or_tx (b_x (bin_ep (γ := Bool) (slS_x (a := p_times) (pv (d := (en (α := Str) p_times)) rfl) ov_n (ov_s (i := (1 : Int)) pv_c)) pv_c (fun a29 => (gs_ok (c := (!decide (a29 = ("x" : Str)))) fun M _ => w_ne _ _ M)))) (b_x (bin_pp (γ := Bool) (P := (op2 (α := (Option Int)) (β := (T3 (Option Int) (Option Int) (Option Int))) (γ := Bool) (gIn false) (none : (Option Int)) number_26)) pv_c (pv (d := (en (α := (T3 (Option Int) (Option Int) (Option Int))) number_26)) rfl) (gs_op2 (α := (Option Int)) (β := (T3 (Option Int) (Option Int) (Option Int))) (γ := Bool) (a := (none : (Option Int))) (b := number_26))))) h28 (fun M33 h34 => (seq_ret (x := (en (α := (Option Pc)) (none : (Option Pc)))) pv_c h34 ⟨rfl, h34⟩))
  (fun M35 h36 => (seq_skip (last_of (seq_retx' (bin_pp (γ := (Option Pc)) (P := (op2 (α := Da) (β := (T3 (Option Int) (Option Int) (Option Int))) (γ := (Option Pc)) gAdd (tup1 ("new" : Str)) number_26)) (tup_v (av_cons pv_c av_nil)) (pv (d := (en (α := (T3 (Option Int) (Option Int) (Option Int))) number_26)) rfl) (gs_op2 (α := Da) (β := (T3 (Option Int) (Option Int) (Option Int))) (γ := (Option Pc)) (a := (tup1 ("new" : Str))) (b := number_26))) h36 (fun r39 M40 h41 => ⟨rfl, h41⟩)))))))))))
def t_read_piece (p_text : Str) : Pr (Option Pc) :=
  (((Pr.need (splOk p_text (" " : Str)) (Pr.ok (Txt.split p_text (" " : Str)))).bind uncons).bind fun (u3 : (Str × List Str)) =>
  (if ((decide (u3.1 = ("top" : Str))) && (decide (((u3.2.length : Nat) : Int) = (1 : Int)))) then ((idx u3.2 (0 : Int)).bind fun (a10 : Str) => (t_read_top a10)) else
  (if ((decide (u3.1 = ("old" : Str))) && (decide (((u3.2.length : Nat) : Int) = (1 : Int)))) then ((idx u3.2 (0 : Int)).bind fun (a20 : Str) => (t_read_old a20)) else
  (if ((decide (u3.1 = ("new" : Str))) && (decide (((u3.2.length : Nat) : Int) = (2 : Int)))) then ((idx u3.2 (0 : Int)).bind fun (a30 : Str) => ((idx u3.2 (1 : Int)).bind fun (a33 : Str) => (t_read_new a30 a33))) else
  (Pr.ok (none : (Option Pc)))))))
theorem ft_read_piece (p_text : Str) : FP F_read_piece [(en (α := Str) p_text)] (t_read_piece p_text) := run_p (env0 := [some (en (α := Str) p_text), none, none]) rfl rfl (fun M0 M hM => by
  unfold B_read_piece t_read_piece
  exact (seq_star (env1 := fun (u3 : (Str × List Str)) => [some (en (α := Str) p_text), some (en (α := Str) u3.1), some (en (α := (List Str)) u3.2)]) (split_v (a := p_text) (b := (" " : Str)) (pv (d := (en (α := Str) p_text)) rfl) pv_c) (fun _ => rfl) hM (fun (u3 : (Str × List Str)) M4 h5 =>
  (seq_if (and_tv (b_v (bin_v (z := (en (α := Bool) (decide (u3.1 = ("top" : Str))))) (pv (d := (en (α := Str) u3.1)) rfl) pv_c (fun M _ => w_eq _ _ M))) (b_v (bin_v (z := (en (α := Bool) (decide (((u3.2.length : Nat) : Int) = (1 : Int))))) (len_L (l := u3.2) (lv_v (l := List.map (en (α := Str)) u3.2) (pv (d := (en (α := (List Str)) u3.2)) rfl))) pv_c (fun M _ => geqI _ _ M)))) h5 (seq_retx' (fun M8 h9 => (arg_e (ix_l (l := u3.2) (lv_v (l := List.map (en (α := Str)) u3.2) (pv (d := (en (α := (List Str)) u3.2)) rfl)) pv_c) h9 (fun (a10 : Str) M11 h12 => (arg_nil (callP (ft_read_top a10) h12))))) h5 (fun r13 M14 h15 => ⟨rfl, h15⟩))
  (seq_skip (seq_if (and_tv (b_v (bin_v (z := (en (α := Bool) (decide (u3.1 = ("old" : Str))))) (pv (d := (en (α := Str) u3.1)) rfl) pv_c (fun M _ => w_eq _ _ M))) (b_v (bin_v (z := (en (α := Bool) (decide (((u3.2.length : Nat) : Int) = (1 : Int))))) (len_L (l := u3.2) (lv_v (l := List.map (en (α := Str)) u3.2) (pv (d := (en (α := (List Str)) u3.2)) rfl))) pv_c (fun M _ => geqI _ _ M)))) h5 (seq_retx' (fun M18 h19 => (arg_e (ix_l (l := u3.2) (lv_v (l := List.map (en (α := Str)) u3.2) (pv (d := (en (α := (List Str)) u3.2)) rfl)) pv_c) h19 (fun (a20 : Str) M21 h22 => (arg_nil (callP (ft_read_old a20) h22))))) h5 (fun r23 M24 h25 => ⟨rfl, h25⟩))
  (seq_skip (seq_if (and_tv (b_v (bin_v (z := (en (α := Bool) (decide (u3.1 = ("new" : Str))))) (pv (d := (en (α := Str) u3.1)) rfl) pv_c (fun M _ => w_eq _ _ M))) (b_v (bin_v (z := (en (α := Bool) (decide (((u3.2.length : Nat) : Int) = (2 : Int))))) (len_L (l := u3.2) (lv_v (l := List.map (en (α := Str)) u3.2) (pv (d := (en (α := (List Str)) u3.2)) rfl))) pv_c (fun M _ => geqI _ _ M)))) h5 (seq_retx' (fun M28 h29 => (arg_e (ix_l (l := u3.2) (lv_v (l := List.map (en (α := Str)) u3.2) (pv (d := (en (α := (List Str)) u3.2)) rfl)) pv_c) h29 (fun (a30 : Str) M31 h32 => (arg_e (ix_l (l := u3.2) (lv_v (l := List.map (en (α := Str)) u3.2) (pv (d := (en (α := (List Str)) u3.2)) rfl)) pv_c) h32 (fun (a33 : Str) M34 h35 => (arg_nil (callP (ft_read_new a30 a33) h35))))))) h5 (fun r36 M37 h38 => ⟨rfl, h38⟩))
  (seq_skip (last_of (seq_ret (x := (en (α := (Option Pc)) (none : (Option Pc)))) pv_c h5 ⟨rfl, h5⟩)))))))))))
def t_Layout_pieces (p_self : Lay) : Pr (List Pc) :=
  (Pr.ok p_self.parts)
theorem ft_Layout_pieces (p_self : Lay) : FP F_Layout_pieces [(en (α := Lay) p_self)] (t_Layout_pieces p_self) := run_p (env0 := [some (en (α := Lay) p_self)]) rfl rfl (fun M0 M hM => by
  unfold B_Layout_pieces t_Layout_pieces
  exact (last_of (seq_ret (x := (en (α := (List Pc)) p_self.parts)) (callB_v (z := (en (α := (List Pc)) p_self.parts)) (av_cons (x := (en (α := (List Pc)) p_self.parts)) (lay_parts (pv (d := (en (α := Lay) p_self)) rfl)) av_nil) (fun _ _ => rfl)) hM ⟨rfl, hM⟩)))
def t_Layout_read (p_text : Str) : Pr Lay :=
  (((Pr.need (splOk p_text ("; " : Str)) (Pr.ok (Txt.split p_text ("; " : Str)))).bind fun (l6 : List Str) => Pr.need (l6.length ≤ 16777216) (Pr.lcM l6 (fun (x3 : Str) => (Pr.ok true)) (fun (x3 : Str) => (t_read_piece x3)))).bind fun (writte_7 : (List (Option Pc))) =>
  (if (if false then !inT (none : (Option Pc)) writte_7 else inT (none : (Option Pc)) writte_7) then Pr.bad else
  (((cast (α := (List (Option Pc))) (β := (Sq Pc)) writte_7).bind fun (a12 : (Sq Pc)) => (t_Layout a12)).bind fun (v15 : Lay) =>
  ((((t_Layout_pieces v15).bind fun l => (lim l).bind fun l => Pr.ok (enumI 0 l)).bind fun (l30 : List (Int × Pc)) => Pr.forM l30 () (fun (x21 : (Int × Pc)) (s20 : Unit) =>
  (((idx writte_7 x21.1).bind fun (b25 : (Option Pc)) => (op2 (α := Pc) (β := (Option Pc)) (γ := Bool) (gEq true) x21.2 b25)).bind fun c => if c then Pr.bad else
  (Pr.ok ())))).bind fun (s20 : Unit) =>
  (Pr.ok v15)))))
theorem ft_Layout_read (p_text : Str) : FP F_Layout_read [.cls "Layout", (en (α := Str) p_text)] (t_Layout_read p_text) := run_p (env0 := [some (.cls "Layout"), some (en (α := Str) p_text), none, none, none, none]) rfl rfl (fun M0 M hM => by
  unfold B_Layout_read t_Layout_read
  exact (seq_setx (env1 := fun (writte_7 : (List (Option Pc))) => [some (.cls "Layout"), some (en (α := Str) p_text), some (en (α := (List (Option Pc))) writte_7), none, none, none]) (fun _ => rfl) (lc_x (enc := (en (α := Str))) (c := fun (x3 : Str) => (Pr.ok true)) (g := fun (x3 : Str) => (t_read_piece x3)) (iter_x (split_v (a := p_text) (b := ("; " : Str)) (pv (d := (en (α := Str) p_text)) rfl) pv_c)) (fun x3 => ⟨[some (.cls "Layout"), some (en (α := Str) p_text), none, none, none, some (en (α := Str) x3)], rfl, (TV.tx yes_tv), (fun M4 h5 => (arg_p (pv (d := (en (α := Str) x3)) rfl) h5 (arg_nil (callP (ft_read_piece x3) h5))))⟩)) hM (fun (writte_7 : (List (Option Pc))) M8 h9 =>
  (seq_if (b_v (in_vT (l := writte_7) (x := (none : (Option Pc))) false pv_c (pv (d := (en (α := (List (Option Pc))) writte_7)) rfl))) h9 seq_never
  (seq_skip (seq_setN (env1 := fun (v15 : Lay) => [some (.cls "Layout"), some (en (α := Str) p_text), some (en (α := (List (Option Pc))) writte_7), some (en (α := Lay) v15), none, none]) (fun _ => rfl) (makeV_x (fun M10 h11 => (arg_e (PV.cast (α := (List (Option Pc))) (β := (Sq Pc)) (a := writte_7) (pv (d := (en (α := (List (Option Pc))) writte_7)) rfl)) h11 (fun (a12 : (Sq Pc)) M13 h14 => (arg_nil (makeP (ft_Layout a12) h14)))))) h9 (fun (v15 : Lay) M16 h17 =>
  (seq_nx (k := fun (s20 : Unit) => (Pr.ok v15)) (forS_nx (enc := (en (α := (Int × Pc)))) (s := ()) (body := (fun (x21 : (Int × Pc)) (s20 : Unit) =>
  (((idx writte_7 x21.1).bind fun (b25 : (Option Pc)) => (op2 (α := Pc) (β := (Option Pc)) (γ := Bool) (gEq true) x21.2 b25)).bind fun c => if c then Pr.bad else
  (Pr.ok ())))) (I := (fun (s20 : Unit) (env : En) (M : Sto) => ∃ o22 : Option D, ∃ o23 : Option D, env = [some (.cls "Layout"), some (en (α := Str) p_text), some (en (α := (List (Option Pc))) writte_7), some (en (α := Lay) v15), o22, o23] ∧ (S0 M0) M)) (j_enum_x (fun M18 h19 => meth_p (lay_ob (a := v15)) (lk_no (by decide +kernel) (by decide +kernel) _ _) (pv (d := (en (α := Lay) v15)) rfl) h19 (arg_nil (callP (ft_Layout_pieces v15) h19)))) h17 (fun M h => ⟨_, _, rfl, h⟩)
  (fun x21 s20 env M ⟨o22, o23, he, hM⟩ => by subst he; exact ⟨[some (.cls "Layout"), some (en (α := Str) p_text), some (en (α := (List (Option Pc))) writte_7), some (en (α := Lay) v15), some (en (α := Int) x21.1), some (en (α := Pc) x21.2)], rfl, (last_of (seq_ifx (b_x (bin_pe (γ := Bool) (pv (d := (en (α := Pc) x21.2)) rfl) (ix_l (l := writte_7) (lv_v (l := List.map (en (α := (Option Pc))) writte_7) (pv (d := (en (α := (List (Option Pc))) writte_7)) rfl)) (pv (d := (en (α := Int) x21.1)) rfl)) (fun b25 => (gs_op2 (α := Pc) (β := (Option Pc)) (γ := Bool) (a := x21.2) (b := b25))))) hM (fun M26 h27 => seq_never)
  (fun M28 h29 => (seq_skip (skip_end ⟨_, Or.inl rfl, _, _, rfl, h29⟩)))))⟩))
  (fun s20 env M ⟨o22, o23, he, h31⟩ => by subst he; exact (last_of (seq_ret (x := (en (α := Lay) v15)) (pv (d := (en (α := Lay) v15)) rfl) h31 ⟨rfl, h31⟩)))))))))))
def t_piece_text (p_piece : Pc) : Pr Str :=
  (if p_piece.isTop then (Pr.need ((Str.empty ++ ("top " : Str)).length ≤ 16777216) ((Pr.ok p_piece.f1).bind fun (i1 : Int) => Pr.need (i1.natAbs.log2 < 1920 ∧ ((Str.empty ++ ("top " : Str)) ++ strI i1).length ≤ 16777216) (Pr.ok ((Str.empty ++ ("top " : Str)) ++ strI i1)))) else
  (if p_piece.isNew then (Pr.need ((Str.empty ++ ("new " : Str)).length ≤ 16777216) ((Pr.ok p_piece.f1).bind fun (i5 : Int) => Pr.need (i5.natAbs.log2 < 1920 ∧ ((Str.empty ++ ("new " : Str)) ++ strI i5).length ≤ 16777216) (Pr.need ((((Str.empty ++ ("new " : Str)) ++ strI i5) ++ ("-" : Str)).length ≤ 16777216) ((p_piece.f2.bind fun (a7 : (Option Int)) => cast (α := (Option Int)) (β := Int) a7).bind fun (i6 : Int) => Pr.need (i6.natAbs.log2 < 1920 ∧ ((((Str.empty ++ ("new " : Str)) ++ strI i5) ++ ("-" : Str)) ++ strI i6).length ≤ 16777216) (Pr.need ((((((Str.empty ++ ("new " : Str)) ++ strI i5) ++ ("-" : Str)) ++ strI i6) ++ (" x" : Str)).length ≤ 16777216) (p_piece.f3.bind fun (i8 : Int) => Pr.need (i8.natAbs.log2 < 1920 ∧ ((((((Str.empty ++ ("new " : Str)) ++ strI i5) ++ ("-" : Str)) ++ strI i6) ++ (" x" : Str)) ++ strI i8).length ≤ 16777216) (Pr.ok ((((((Str.empty ++ ("new " : Str)) ++ strI i5) ++ ("-" : Str)) ++ strI i6) ++ (" x" : Str)) ++ strI i8)))))))) else
  ((p_piece.f2.bind fun (a12 : (Option Int)) => (Pr.ok a12.isNone)).bind fun c => if c then (Pr.need ((Str.empty ++ ("old " : Str)).length ≤ 16777216) ((Pr.ok p_piece.f1).bind fun (i16 : Int) => Pr.need (i16.natAbs.log2 < 1920 ∧ ((Str.empty ++ ("old " : Str)) ++ strI i16).length ≤ 16777216) (Pr.need ((((Str.empty ++ ("old " : Str)) ++ strI i16) ++ ("-" : Str)).length ≤ 16777216) (Pr.ok (((Str.empty ++ ("old " : Str)) ++ strI i16) ++ ("-" : Str)))))) else
  ((p_piece.f2.bind fun (b23 : (Option Int)) => (op2 (α := Int) (β := (Option Int)) (γ := Bool) (gEq false) p_piece.f1 b23)).bind fun c => if c then (Pr.need ((Str.empty ++ ("old " : Str)).length ≤ 16777216) ((Pr.ok p_piece.f1).bind fun (i26 : Int) => Pr.need (i26.natAbs.log2 < 1920 ∧ ((Str.empty ++ ("old " : Str)) ++ strI i26).length ≤ 16777216) (Pr.ok ((Str.empty ++ ("old " : Str)) ++ strI i26)))) else
  (Pr.need ((Str.empty ++ ("old " : Str)).length ≤ 16777216) ((Pr.ok p_piece.f1).bind fun (i32 : Int) => Pr.need (i32.natAbs.log2 < 1920 ∧ ((Str.empty ++ ("old " : Str)) ++ strI i32).length ≤ 16777216) (Pr.need ((((Str.empty ++ ("old " : Str)) ++ strI i32) ++ ("-" : Str)).length ≤ 16777216) ((p_piece.f2.bind fun (a34 : (Option Int)) => cast (α := (Option Int)) (β := Int) a34).bind fun (i33 : Int) => Pr.need (i33.natAbs.log2 < 1920 ∧ ((((Str.empty ++ ("old " : Str)) ++ strI i32) ++ ("-" : Str)) ++ strI i33).length ≤ 16777216) (Pr.ok ((((Str.empty ++ ("old " : Str)) ++ strI i32) ++ ("-" : Str)) ++ strI i33))))))))))
theorem ft_piece_text (p_piece : Pc) : FP F_piece_text [(en (α := Pc) p_piece)] (t_piece_text p_piece) := run_p (env0 := [some (en (α := Pc) p_piece)]) rfl rfl (fun M0 M hM => by
  unfold B_piece_text t_piece_text
  exact (seq_if (b_v (word_v (p := p_piece) (pv (d := (en (α := Pc) p_piece)) rfl)).1) hM (seq_retx' (jx_c (s := ("top " : Str)) pv_c (jx_i (PV.px (a := p_piece.f1) (f1_v (p := p_piece) (pv (d := (en (α := Pc) p_piece)) rfl))) (fun i1 => jx_nil))) hM (fun r2 M3 h4 => ⟨rfl, h4⟩))
  (seq_skip (seq_if (b_v (word_v (p := p_piece) (pv (d := (en (α := Pc) p_piece)) rfl)).2.2) hM (seq_retx' (jx_c (s := ("new " : Str)) pv_c (jx_i (PV.px (a := p_piece.f1) (f1_v (p := p_piece) (pv (d := (en (α := Pc) p_piece)) rfl))) (fun i5 => (jx_c (s := ("-" : Str)) pv_c (jx_i (PX.cast (α := (Option Int)) (β := Int) (f2_x (p := p_piece) (pv (d := (en (α := Pc) p_piece)) rfl))) (fun i6 => (jx_c (s := (" x" : Str)) pv_c (jx_i (f3_x (p := p_piece) (pv (d := (en (α := Pc) p_piece)) rfl)) (fun i8 => jx_nil))))))))) hM (fun r9 M10 h11 => ⟨rfl, h11⟩))
  (seq_skip (seq_ifx (b_x (bin_ep (γ := Bool) (f2_x (p := p_piece) (pv (d := (en (α := Pc) p_piece)) rfl)) pv_c (fun a12 => (gs_is (o := a12))))) hM (fun M14 h15 => (seq_retx' (jx_c (s := ("old " : Str)) pv_c (jx_i (PV.px (a := p_piece.f1) (f1_v (p := p_piece) (pv (d := (en (α := Pc) p_piece)) rfl))) (fun i16 => (jx_c (s := ("-" : Str)) pv_c jx_nil)))) h15 (fun r17 M18 h19 => ⟨rfl, h19⟩)))
  (fun M20 h21 => (seq_skip (seq_ifx (b_x (bin_pe (γ := Bool) (f1_v (p := p_piece) (pv (d := (en (α := Pc) p_piece)) rfl)) (f2_x (p := p_piece) (pv (d := (en (α := Pc) p_piece)) rfl)) (fun b23 => (gs_op2 (α := Int) (β := (Option Int)) (γ := Bool) (a := p_piece.f1) (b := b23))))) h21 (fun M24 h25 => (seq_retx' (jx_c (s := ("old " : Str)) pv_c (jx_i (PV.px (a := p_piece.f1) (f1_v (p := p_piece) (pv (d := (en (α := Pc) p_piece)) rfl))) (fun i26 => jx_nil))) h25 (fun r27 M28 h29 => ⟨rfl, h29⟩)))
  (fun M30 h31 => (seq_skip (last_of (seq_retx' (jx_c (s := ("old " : Str)) pv_c (jx_i (PV.px (a := p_piece.f1) (f1_v (p := p_piece) (pv (d := (en (α := Pc) p_piece)) rfl))) (fun i32 => (jx_c (s := ("-" : Str)) pv_c (jx_i (PX.cast (α := (Option Int)) (β := Int) (f2_x (p := p_piece) (pv (d := (en (α := Pc) p_piece)) rfl))) (fun i33 => jx_nil)))))) h31 (fun r35 M36 h37 => ⟨rfl, h37⟩))))))))))))))
def t_Layout___str__ (p_self : Lay) : Pr Str :=
  (((Pr.ok p_self.parts).bind fun (l6 : List Pc) => Pr.need (l6.length ≤ 16777216) (Pr.lcM l6 (fun (x3 : Pc) => (Pr.ok true)) (fun (x3 : Pc) => (t_piece_text x3)))).bind fun (l7 : List Str) => Pr.need (joiOk ("; " : Str) l7) (Pr.ok (Txt.join ("; " : Str) l7)))
theorem ft_Layout___str__ (p_self : Lay) : FP F_Layout___str__ [(en (α := Lay) p_self)] (t_Layout___str__ p_self) := run_p (env0 := [some (en (α := Lay) p_self), none]) rfl rfl (fun M0 M hM => by
  unfold B_Layout___str__ t_Layout___str__
  exact (last_of (seq_retx' (join_x (a := ("; " : Str)) pv_c (lc_x (enc := (en (α := Pc))) (c := fun (x3 : Pc) => (Pr.ok true)) (g := fun (x3 : Pc) => (t_piece_text x3)) (iter_v (l := p_self.parts) (lay_parts (pv (d := (en (α := Lay) p_self)) rfl))) (fun x3 => ⟨[some (en (α := Lay) p_self), some (en (α := Pc) x3)], rfl, (TV.tx yes_tv), (fun M4 h5 => (arg_p (pv (d := (en (α := Pc) x3)) rfl) h5 (arg_nil (callP (ft_piece_text x3) h5))))⟩))) hM (fun r8 M9 h10 => ⟨rfl, h10⟩))))
def t_layout_text (p_layout : Lay) : Pr Str :=
  ((Pr.ok p_layout).bind fun (a3 : Lay) => t_Layout___str__ a3)
theorem ft_layout_text (p_layout : Lay) : FP F_layout_text [(en (α := Lay) p_layout)] (t_layout_text p_layout) := run_p (env0 := [some (en (α := Lay) p_layout)]) rfl rfl (fun M0 M hM => by
  unfold B_layout_text t_layout_text
  exact (last_of (seq_retx' (reprO_xx (fun _ => lay_ob) (fun a3 => ft_Layout___str__ a3) (PV.px (a := p_layout) (pv (d := (en (α := Lay) p_layout)) rfl))) hM (fun r4 M5 h6 => ⟨rfl, h6⟩))))
def t_Layout___eq__ (p_self : Lay) (p_other : Lay) : Pr Bool :=
  (Pr.ok (true && (decide (p_self.parts = p_other.parts))))
theorem ft_Layout___eq__ (p_self : Lay) (p_other : Lay) : FP F_Layout___eq__ [(en (α := Lay) p_self), (en (α := Lay) p_other)] (t_Layout___eq__ p_self p_other) := run_p (env0 := [some (en (α := Lay) p_self), some (en (α := Lay) p_other)]) rfl rfl (fun M0 M hM => by
  unfold B_Layout___eq__ t_Layout___eq__
  exact (last_of (seq_ret (x := (en (α := Bool) (true && (decide (p_self.parts = p_other.parts))))) (andV_v (isiL_v (a := p_other) (pv (d := (en (α := Lay) p_other)) rfl)) (bin_v (z := (en (α := Bool) (decide (p_self.parts = p_other.parts)))) (lay_parts (pv (d := (en (α := Lay) p_self)) rfl)) (lay_parts (pv (d := (en (α := Lay) p_other)) rfl)) (fun M _ => geqT (α := (List Pc)) p_self.parts p_other.parts M))) hM ⟨rfl, hM⟩)))
def t_law : Pr Bool :=
  (Pr.flow ((Pr.need (sm (4 : Int)) (Pr.ok (rngI 0 (Int.toNat (4 : Int))))).bind fun (l137 : List Int) => Pr.forF (ρ := Bool) l137 () (fun (x2 : Int) (s1 : Unit) =>
  (((t__law_any_rows (7 : Int)).bind fun (a13 : (List (Option (Int × Int)))) => (t__law_rolled a13)).bind fun (pieces_16 : (List Pc)) =>
  ((((Pr.pull (2 : Int)).bind fun (a21 : Int) => (Pr.ok (decide (a21 = (0 : Int))))).bind fun c => if c then (((Pr.need (sm (4 : Int)) (Pr.ok (rngI 0 (Int.toNat (4 : Int))))).bind fun (l35 : List Int) => Pr.need (l35.length ≤ 16777216) (Pr.lcM l35 (fun (x30 : Int) => (Pr.ok true)) (fun (x30 : Int) => ((Pr.pullB (100000000000000000 : Int)).bind fun (a33 : Int) => (Pr.ok (a33 + (100 : Int))))))).bind fun (far_36 : (List Int)) =>
  (((((idx far_36 (0 : Int)).bind fun (a41 : Int) => (Pr.ok (Pc.top a41))).bind fun (a66 : Pc) => (((idx far_36 (1 : Int)).bind fun (a48 : Int) => (((idx far_36 (1 : Int)).bind fun (a44 : Int) => (idx far_36 (2 : Int)).bind fun (b45 : Int) => (Pr.ok (a44 + b45))).bind fun (a51 : Int) => (Pr.ok (Pc.old a48 a51)))).bind fun (a69 : Pc) => ((((idx far_36 (1 : Int)).bind fun (a54 : Int) => (idx far_36 (2 : Int)).bind fun (b55 : Int) => (Pr.ok (a54 + b55))).bind fun (a58 : Int) => ((idx far_36 (3 : Int)).bind fun (a61 : Int) => (Pr.ok (Pc.new a58 ((1000000000000000000 : Int) - (2 : Int)) a61)))).bind fun (a72 : Pc) => (Pr.ok ([a66, a69, a72] : (List Pc)))))).bind fun (l75 : (List Pc)) => Pr.need (l75.length < 16777216) (Pr.ok (l75 ++ [(Pc.opn ((1000000000000000000 : Int) - (1 : Int)))]))).bind fun (v76 : (List Pc)) =>
  (Pr.ok v76))) else (Pr.ok pieces_16)).bind fun (s23 : (List Pc)) =>
  ((t__law_layout_text s23).bind fun (text_85 : Str) =>
  (Pr.flow ((Pr.need (sm (2 : Int)) (Pr.ok (rngI 0 (Int.toNat (2 : Int))))).bind fun (l134 : List Int) => Pr.forF (ρ := Bool) l134 () (fun (x89 : Int) (s88 : Unit) =>
  ((t_Layout_read text_85).bind fun (layout_94 : Lay) =>
  ((((((Pr.ok layout_94).bind fun (a101 : Lay) => t_Layout___str__ a101).bind fun (a106 : Str) => ((t_layout_text layout_94).bind fun (a109 : Str) => (Pr.ok ([a106, a109] : (List Str))))).bind fun (a112 : (List Str)) => (lk (α := (List Str)) (β := (List Str)) 4 a112 ([text_85, text_85] : (List Str)))).bind fun b => Pr.ok (!b)).bind fun c => if c then (Pr.ok (FlT.rt false)) else
  ((((t_Layout (Sq.mk false s23)).bind fun (b122 : Lay) => ((t_Layout___eq__ layout_94 b122).bind fun c => Pr.ok (if true then !c else c))).bind fun a => if a then Pr.ok true else (((t_Layout_pieces layout_94).bind fun (a127 : (List Pc)) => (lk (α := (List Pc)) (β := (List Pc)) 4 a127 s23)).bind fun b => Pr.ok (!b))).bind fun c => if c then (Pr.ok (FlT.rt false)) else
  (Pr.ok (FlT.nx ()))))))) (fun (s88 : Unit) =>
  (Pr.ok (FlT.nx ()))) (fun (r136 : Bool) => (FlT.rt r136)))))))) (fun (s1 : Unit) =>
  ((((Pr.ok (mkLay [Pc.opn 0])).bind fun (a143 : Lay) => t_Layout___str__ a143).bind fun (a144 : Str) => (Pr.ok (decide (a144 = ("old 0-" : Str))))).bind fun a => if a then ((t_Layout_read ("old 0-" : Str)).bind fun (a150 : Lay) => (Pr.ok (mkLay [Pc.opn 0])).bind fun (b151 : Lay) => ((t_Layout___eq__ a150 b151).bind fun c => Pr.ok (if false then !c else c))) else Pr.ok false)) (fun (r155 : Bool) => r155))
theorem ft_law (ns : List Int) (hn : ns.length ≤ 63) : Sat (B_law [some (.scr ns), none, none, none, none, none, none, none, none] []) t_law (fun a fl M' => fl = .rt (en a) ∧ SB [] M') NX := by
  unfold B_law t_law
  exact seq_bag (env1 := [some (.scr ns), some (.ref 0), none, none, none, none, none, none, none]) (bag_ok ns hn) rfl rfl (fun M h0 => by
  have hM := h0
  exact (seq_fl (w := fun (r155 : Bool) => r155) (k := fun (s1 : Unit) => ((((Pr.ok (mkLay [Pc.opn 0])).bind fun (a143 : Lay) => t_Layout___str__ a143).bind fun (a144 : Str) => (Pr.ok (decide (a144 = ("old 0-" : Str))))).bind fun a => if a then ((t_Layout_read ("old 0-" : Str)).bind fun (a150 : Lay) => (Pr.ok (mkLay [Pc.opn 0])).bind fun (b151 : Lay) => ((t_Layout___eq__ a150 b151).bind fun c => Pr.ok (if false then !c else c))) else Pr.ok false)) (for_fl (enc := D.int) (s := ()) (body := (fun (x2 : Int) (s1 : Unit) =>
  (((t__law_any_rows (7 : Int)).bind fun (a13 : (List (Option (Int × Int)))) => (t__law_rolled a13)).bind fun (pieces_16 : (List Pc)) =>
  ((((Pr.pull (2 : Int)).bind fun (a21 : Int) => (Pr.ok (decide (a21 = (0 : Int))))).bind fun c => if c then (((Pr.need (sm (4 : Int)) (Pr.ok (rngI 0 (Int.toNat (4 : Int))))).bind fun (l35 : List Int) => Pr.need (l35.length ≤ 16777216) (Pr.lcM l35 (fun (x30 : Int) => (Pr.ok true)) (fun (x30 : Int) => ((Pr.pullB (100000000000000000 : Int)).bind fun (a33 : Int) => (Pr.ok (a33 + (100 : Int))))))).bind fun (far_36 : (List Int)) =>
  (((((idx far_36 (0 : Int)).bind fun (a41 : Int) => (Pr.ok (Pc.top a41))).bind fun (a66 : Pc) => (((idx far_36 (1 : Int)).bind fun (a48 : Int) => (((idx far_36 (1 : Int)).bind fun (a44 : Int) => (idx far_36 (2 : Int)).bind fun (b45 : Int) => (Pr.ok (a44 + b45))).bind fun (a51 : Int) => (Pr.ok (Pc.old a48 a51)))).bind fun (a69 : Pc) => ((((idx far_36 (1 : Int)).bind fun (a54 : Int) => (idx far_36 (2 : Int)).bind fun (b55 : Int) => (Pr.ok (a54 + b55))).bind fun (a58 : Int) => ((idx far_36 (3 : Int)).bind fun (a61 : Int) => (Pr.ok (Pc.new a58 ((1000000000000000000 : Int) - (2 : Int)) a61)))).bind fun (a72 : Pc) => (Pr.ok ([a66, a69, a72] : (List Pc)))))).bind fun (l75 : (List Pc)) => Pr.need (l75.length < 16777216) (Pr.ok (l75 ++ [(Pc.opn ((1000000000000000000 : Int) - (1 : Int)))]))).bind fun (v76 : (List Pc)) =>
  (Pr.ok v76))) else (Pr.ok pieces_16)).bind fun (s23 : (List Pc)) =>
  ((t__law_layout_text s23).bind fun (text_85 : Str) =>
  (Pr.flow ((Pr.need (sm (2 : Int)) (Pr.ok (rngI 0 (Int.toNat (2 : Int))))).bind fun (l134 : List Int) => Pr.forF (ρ := Bool) l134 () (fun (x89 : Int) (s88 : Unit) =>
  ((t_Layout_read text_85).bind fun (layout_94 : Lay) =>
  ((((((Pr.ok layout_94).bind fun (a101 : Lay) => t_Layout___str__ a101).bind fun (a106 : Str) => ((t_layout_text layout_94).bind fun (a109 : Str) => (Pr.ok ([a106, a109] : (List Str))))).bind fun (a112 : (List Str)) => (lk (α := (List Str)) (β := (List Str)) 4 a112 ([text_85, text_85] : (List Str)))).bind fun b => Pr.ok (!b)).bind fun c => if c then (Pr.ok (FlT.rt false)) else
  ((((t_Layout (Sq.mk false s23)).bind fun (b122 : Lay) => ((t_Layout___eq__ layout_94 b122).bind fun c => Pr.ok (if true then !c else c))).bind fun a => if a then Pr.ok true else (((t_Layout_pieces layout_94).bind fun (a127 : (List Pc)) => (lk (α := (List Pc)) (β := (List Pc)) 4 a127 s23)).bind fun b => Pr.ok (!b))).bind fun c => if c then (Pr.ok (FlT.rt false)) else
  (Pr.ok (FlT.nx ()))))))) (fun (s88 : Unit) =>
  (Pr.ok (FlT.nx ()))) (fun (r136 : Bool) => (FlT.rt r136)))))))) (I := (fun (s1 : Unit) (env : En) (M : Sto) => ∃ o3 : Option D, ∃ o4 : Option D, ∃ o5 : Option D, ∃ o6 : Option D, ∃ o7 : Option D, ∃ o8 : Option D, env = [some (.scr ns), some (.ref 0), o8, o6, o7, o3, o4, o5, none] ∧ (SB []) M)) (R := fun (r : Bool) d M => d = en r ∧ SB [] M) (rng1_v (n := (4 : Int)) pv_c) hM (fun M h => ⟨_, _, _, _, _, _, rfl, h⟩)
  (fun x2 s1 env M ⟨o3, o4, o5, o6, o7, o8, he, hM⟩ => by subst he; exact ⟨[some (.scr ns), some (.ref 0), some (en (α := Int) x2), o6, o7, o3, o4, o5, none], rfl, (seq_setx (env1 := fun (pieces_16 : (List Pc)) => [some (.scr ns), some (.ref 0), some (en (α := Int) x2), some (en (α := (List Pc)) pieces_16), o7, o3, o4, o5, none]) (fun _ => rfl) (fun M9 h10 => (arg_e (fun M11 h12 => (arg_p (pv (d := .ref 0) rfl) h12 (arg_p pv_c h12 (arg_nil (callB (ft__law_any_rows (7 : Int)) h12))))) h10 (fun (a13 : (List (Option (Int × Int)))) M14 h15 => (arg_nil (callP (ft__law_rolled a13) h15))))) hM (fun (pieces_16 : (List Pc)) M17 h18 =>
  (seq_nx (σ := (List Pc)) (I := (fun (s23 : (List Pc)) (env : En) (M : Sto) => ∃ o24 : Option D, ∃ o25 : Option D, ∃ o26 : Option D, ∃ o27 : Option D, env = [some (.scr ns), some (.ref 0), some (en (α := Int) x2), some (en (α := (List Pc)) s23), o27, o24, o25, o26, none] ∧ (SB []) M)) (if_nxx (b_x (bin_ep (γ := Bool) (fun M19 h20 => (arg_p (pv (d := .ref 0) rfl) h20 (arg_p pv_c h20 (arg_nil (callB (ft__law_pull (2 : Int)) h20))))) pv_c (fun a21 => (gs_ok (c := (decide (a21 = (0 : Int)))) fun M _ => geqI _ _ M)))) h18 (fun M28 h29 => (seq_setx (env1 := fun (far_36 : (List Int)) => [some (.scr ns), some (.ref 0), some (en (α := Int) x2), some (en (α := (List Pc)) pieces_16), o7, o3, some (en (α := (List Int)) far_36), o5, none]) (fun _ => rfl) (lc_x (enc := D.int) (c := fun (x30 : Int) => (Pr.ok true)) (g := fun (x30 : Int) => ((Pr.pullB (100000000000000000 : Int)).bind fun (a33 : Int) => (Pr.ok (a33 + (100 : Int))))) (rng1_v (n := (4 : Int)) pv_c) (fun x30 => ⟨[some (.scr ns), some (.ref 0), some (en (α := Int) x2), some (en (α := (List Pc)) pieces_16), o7, o3, o4, o5, some (en (α := Int) x30)], rfl, (TV.tx yes_tv), (bin_ep (γ := Int) (fun M31 h32 => (arg_p (pv (d := .ref 0) rfl) h32 (arg_p (bin_v (z := .int 100000000000000000) pv_c pv_c (fun M _ => by simp [gPow, gIntC])) h32 (arg_nil (callB (ft__law_pullB (100000000000000000 : Int)) h32))))) pv_c (fun a33 => (gs_ok (c := (a33 + (100 : Int))) fun M _ => rfl)))⟩)) h29 (fun (far_36 : (List Int)) M37 h38 =>
  (seq_lstAppK (x := (Pc.opn ((1000000000000000000 : Int) - (1 : Int)))) (env1 := fun (us79 : En) (v76 : (List Pc)) => [some (.scr ns), some (.ref 0), some (en (α := Int) x2), some (en (α := (List Pc)) v76), (List.getD us79 4 none), (List.getD us79 5 none), some (en (α := (List Int)) far_36), (List.getD us79 7 none), none]) sb_len sb_pos (by simp) (fun M64 h65 => (arg_e (fun M39 h40 => (arg_p pv_c h40 (arg_e (ix_l (l := far_36) (lv_v (l := List.map (en (α := Int)) far_36) (pv (d := (en (α := (List Int)) far_36)) rfl)) pv_c) h40 (fun (a41 : Int) M42 h43 => (arg_nil (seq_end (mk := D.tup) (a := (Pc.top a41)) rfl h43)))))) h65 (fun (a66 : Pc) M67 h68 => (arg_e (fun M46 h47 => (arg_p pv_c h47 (arg_e (ix_l (l := far_36) (lv_v (l := List.map (en (α := Int)) far_36) (pv (d := (en (α := (List Int)) far_36)) rfl)) pv_c) h47 (fun (a48 : Int) M49 h50 => (arg_e (bin_ee (γ := Int) (ix_l (l := far_36) (lv_v (l := List.map (en (α := Int)) far_36) (pv (d := (en (α := (List Int)) far_36)) rfl)) pv_c) (ix_l (l := far_36) (lv_v (l := List.map (en (α := Int)) far_36) (pv (d := (en (α := (List Int)) far_36)) rfl)) pv_c) (fun a44 b45 => (gs_ok (c := (a44 + b45)) fun M _ => rfl))) h50 (fun (a51 : Int) M52 h53 => (arg_nil (seq_end (mk := D.tup) (a := (Pc.old a48 a51)) rfl h53)))))))) h68 (fun (a69 : Pc) M70 h71 => (arg_e (fun M56 h57 => (arg_p pv_c h57 (arg_e (bin_ee (γ := Int) (ix_l (l := far_36) (lv_v (l := List.map (en (α := Int)) far_36) (pv (d := (en (α := (List Int)) far_36)) rfl)) pv_c) (ix_l (l := far_36) (lv_v (l := List.map (en (α := Int)) far_36) (pv (d := (en (α := (List Int)) far_36)) rfl)) pv_c) (fun a54 b55 => (gs_ok (c := (a54 + b55)) fun M _ => rfl))) h57 (fun (a58 : Int) M59 h60 => (arg_p (bin_v (z := (en (α := Int) ((1000000000000000000 : Int) - (2 : Int)))) (bin_v (z := .int 1000000000000000000) pv_c pv_c (fun M _ => by simp [gPow, gIntC])) pv_c (fun M _ => rfl)) h60 (arg_e (ix_l (l := far_36) (lv_v (l := List.map (en (α := Int)) far_36) (pv (d := (en (α := (List Int)) far_36)) rfl)) pv_c) h60 (fun (a61 : Int) M62 h63 => (arg_nil (seq_end (mk := D.tup) (a := (Pc.new a58 ((1000000000000000000 : Int) - (2 : Int)) a61)) rfl h63))))))))) h71 (fun (a72 : Pc) M73 h74 => (arg_nil (seq_end (mk := D.lst) (a := ([a66, a69, a72] : (List Pc))) rfl h74))))))))) (fun env' M' => ((tup_v (av_cons pv_c (av_cons (bin_v (z := (en (α := Int) ((1000000000000000000 : Int) - (1 : Int)))) (bin_v (z := .int 1000000000000000000) pv_c pv_c (fun M _ => by simp [gPow, gIntC])) pv_c (fun M _ => rfl)) (av_cons pv_c av_nil)))) : PV _ env' (fun _ => True) _) M' trivial) h38 (fun l n M2 h0 h1 h3 h2 => by unfold thawE; simp only [List.set_cons_zero, List.set_cons_succ, List.map_cons, List.map_nil, h1, h3, h2]; rw [show thaw n M2 (.ref 0) = some (.ref 0) from if_pos h0]; rfl) (fun (us79 : En) (v76 : (List Pc)) M77 h78 =>
  (skip_end ⟨_, rfl, _, _, _, _, rfl, h78⟩)))))) (fun M80 h81 => (skip_end ⟨_, rfl, _, _, _, _, rfl, h81⟩)))
  (fun s23 env M ⟨o24, o25, o26, o27, he, h82⟩ => by subst he; exact (seq_setx (env1 := fun (text_85 : Str) => [some (.scr ns), some (.ref 0), some (en (α := Int) x2), some (en (α := (List Pc)) s23), some (en (α := Str) text_85), o24, o25, o26, none]) (fun _ => rfl) (fun M83 h84 => (arg_p (pv (d := (en (α := (List Pc)) s23)) rfl) h84 (arg_nil (callP (ft__law_layout_text s23).fp h84)))) h82 (fun (text_85 : Str) M86 h87 =>
  (last_of (seq_fl (w := fun (r136 : Bool) => (FlT.rt r136)) (k := fun (s88 : Unit) => (Pr.ok (FlT.nx ()))) (for_fl (enc := D.int) (s := ()) (body := (fun (x89 : Int) (s88 : Unit) =>
  ((t_Layout_read text_85).bind fun (layout_94 : Lay) =>
  ((((((Pr.ok layout_94).bind fun (a101 : Lay) => t_Layout___str__ a101).bind fun (a106 : Str) => ((t_layout_text layout_94).bind fun (a109 : Str) => (Pr.ok ([a106, a109] : (List Str))))).bind fun (a112 : (List Str)) => (lk (α := (List Str)) (β := (List Str)) 4 a112 ([text_85, text_85] : (List Str)))).bind fun b => Pr.ok (!b)).bind fun c => if c then (Pr.ok (FlT.rt false)) else
  ((((t_Layout (Sq.mk false s23)).bind fun (b122 : Lay) => ((t_Layout___eq__ layout_94 b122).bind fun c => Pr.ok (if true then !c else c))).bind fun a => if a then Pr.ok true else (((t_Layout_pieces layout_94).bind fun (a127 : (List Pc)) => (lk (α := (List Pc)) (β := (List Pc)) 4 a127 s23)).bind fun b => Pr.ok (!b))).bind fun c => if c then (Pr.ok (FlT.rt false)) else
  (Pr.ok (FlT.nx ()))))))) (I := (fun (s88 : Unit) (env : En) (M : Sto) => ∃ o90 : Option D, ∃ o91 : Option D, env = [some (.scr ns), some (.ref 0), some (en (α := Int) x2), some (en (α := (List Pc)) s23), some (en (α := Str) text_85), o90, o25, o91, none] ∧ (SB []) M)) (R := fun (r : Bool) d M => d = en r ∧ SB [] M) (rng1_v (n := (2 : Int)) pv_c) h87 (fun M h => ⟨_, _, rfl, h⟩)
  (fun x89 s88 env M ⟨o90, o91, he, hM⟩ => by subst he; exact ⟨[some (.scr ns), some (.ref 0), some (en (α := Int) x2), some (en (α := (List Pc)) s23), some (en (α := Str) text_85), some (en (α := Int) x89), o25, o91, none], rfl, (seq_setx (env1 := fun (layout_94 : Lay) => [some (.scr ns), some (.ref 0), some (en (α := Int) x2), some (en (α := (List Pc)) s23), some (en (α := Str) text_85), some (en (α := Int) x89), o25, some (en (α := Lay) layout_94), none]) (fun _ => rfl) (fun M92 h93 => (arg_p (pv (d := (en (α := Str) text_85)) rfl) h93 (arg_nil (callP (ft_Layout_read text_85) h93)))) hM (fun (layout_94 : Lay) M95 h96 =>
  (seq_ifx (not_tx (tru_b (fun M97 h98 => (arg_e (fun M104 h105 => (arg_e (reprO_xx (fun _ => lay_ob) (fun a101 => ft_Layout___str__ a101) (PV.px (a := layout_94) (pv (d := (en (α := Lay) layout_94)) rfl))) h105 (fun (a106 : Str) M107 h108 => (arg_e (fun M102 h103 => (arg_p (pv (d := (en (α := Lay) layout_94)) rfl) h103 (arg_nil (callP (ft_layout_text layout_94) h103)))) h108 (fun (a109 : Str) M110 h111 => (arg_nil (seq_end (mk := D.lst) (a := ([a106, a109] : (List Str))) rfl h111))))))) h98 (fun (a112 : (List Str)) M113 h114 => (arg_p (lst_v (av_cons (x := (en (α := Str) text_85)) (pv (d := (en (α := Str) text_85)) rfl) (av_cons (x := (en (α := Str) text_85)) (pv (d := (en (α := Str) text_85)) rfl) av_nil))) h114 (arg_nil (callP (ft__law_like (α := (List Str)) (β := (List Str)) 4 a112 ([text_85, text_85] : (List Str))) h114)))))))) h96 (fun M115 h116 => (seq_ret (x := (en (α := Bool) false)) pv_c h116 ⟨_, rfl, ⟨rfl, h116⟩⟩))
  (fun M117 h118 => (seq_skip (last_of (seq_ifx (or_tx (b_x (eqO_pe (n := true) (fun b122 => ft_Layout___eq__ layout_94 b122) (pv (d := (en (α := Lay) layout_94)) rfl) (fun M119 h120 => (arg_p (pv (d := (en (α := (List Pc)) s23)) rfl) h120 (arg_nil (makeP (ft_Layout (Sq.mk false s23)) h120)))))) (not_tx (tru_b (fun M123 h124 => (arg_e (fun M125 h126 => meth_p (lay_ob (a := layout_94)) (lk_no (by decide +kernel) (by decide +kernel) _ _) (pv (d := (en (α := Lay) layout_94)) rfl) h126 (arg_nil (callP (ft_Layout_pieces layout_94) h126))) h124 (fun (a127 : (List Pc)) M128 h129 => (arg_p (pv (d := (en (α := (List Pc)) s23)) rfl) h129 (arg_nil (callP (ft__law_like (α := (List Pc)) (β := (List Pc)) 4 a127 s23) h129))))))))) h118 (fun M130 h131 => (seq_ret (x := (en (α := Bool) false)) pv_c h131 ⟨_, rfl, ⟨rfl, h131⟩⟩))
  (fun M132 h133 => (seq_skip (skip_end ⟨_, Or.inl rfl, _, _, rfl, h133⟩))))))))))⟩))
  (fun s88 env M ⟨o90, o91, he, h135⟩ => by subst he; exact (skip_end ⟨_, Or.inl rfl, _, _, _, _, _, _, rfl, h135⟩))
  (fun r d M h => ⟨_, rfl, h⟩)))))))))⟩))
  (fun s1 env M ⟨o3, o4, o5, o6, o7, o8, he, h138⟩ => by subst he; exact (last_of (seq_retx' (andV_x (bin_ep (γ := Bool) (reprO_xx (fun _ => lay_ob) (fun a143 => ft_Layout___str__ a143) (fun M141 h142 => callP ft_plain h142)) pv_c (fun a144 => (gs_ok (c := (decide (a144 = ("old 0-" : Str)))) fun M _ => w_eq _ _ M))) (eqO_ee (n := false) (fun a150 b151 => ft_Layout___eq__ a150 b151) (fun M146 h147 => (arg_p pv_c h147 (arg_nil (callP (ft_Layout_read ("old 0-" : Str)) h147)))) (fun M148 h149 => callP ft_plain h149))) h138 (fun r152 M153 h154 => ⟨rfl, h154⟩))))
  (fun r d M h => ⟨congrArg Fl.rt h.1, h.2⟩)))
theorem law_of (ht : t_law (fun b => b = true) (fun _ => False)) (ns : List Int) (hn : ns.length ≤ 63) : ∃ M, F_law [.scr ns] [] = .ok (.bl true) M := run_law (env0 := [some (.scr ns), none, none, none, none, none, none, none, none]) rfl (ft_law ns hn) ht
end
section
set_option Elab.async false
set_option linter.all false
set_option maxRecDepth 100000
set_option maxHeartbeats 1000000
def labP : Pc → Int → Rw
  | .top _, _ => none
  | .old a _, k => some (a + k, a + k)
  | .opn a, k => some (a + k, a + k)
  | .new a b _, _ => some (a, b)
def lab : List Pc → Int → Rw
  | [], _ => none
  | p :: r, k => if isOpn p = true ∨ k < rc p then labP p k else lab r (k - rc p)
def tt : List Pc → Int
  | [] => 0
  | p :: r => rc p + tt r
def Cl (l : List Pc) : Prop := ∀ p ∈ l, isOpn p = false ∧ pok p
theorem Cl.nil : Cl [] := fun _ h => by cases h
theorem Cl.cons {p : Pc} {l : List Pc} (h : Cl (p :: l)) : (isOpn p = false ∧ pok p) ∧ Cl l := ⟨h p (by simp), fun q hq => h q (by simp [hq])⟩
theorem Cl.mk {p : Pc} {l : List Pc} (h1 : isOpn p = false) (h2 : pok p) (h : Cl l) : Cl (p :: l) := fun q hq => by
  rcases List.mem_cons.mp hq with rfl | z
  · exact ⟨h1, h2⟩
  · exact h q z
theorem Cl.app {l m : List Pc} (h : Cl l) (h' : Cl m) : Cl (l ++ m) := fun q hq => by
  rcases List.mem_append.mp hq with z | z
  · exact h q z
  · exact h' q z
theorem Cl.left {l m : List Pc} (h : Cl (l ++ m)) : Cl l := fun q hq => h q (List.mem_append_left _ hq)
theorem Cl.right {l m : List Pc} (h : Cl (l ++ m)) : Cl m := fun q hq => h q (List.mem_append_right _ hq)
theorem rc_pos {p : Pc} (h : pok p) (ho : isOpn p = false) : 1 ≤ rc p := by
  cases p <;> simp only [pok, rc, isOpn] at *
  · exact h
  · omega
  · cases ho
  · omega
theorem tt_nonneg : ∀ {l : List Pc}, Cl l → 0 ≤ tt l
  | [], _ => Int.le_refl _
  | p :: l, h => by
    have h1 := rc_pos h.cons.1.2 h.cons.1.1
    have h2 := tt_nonneg h.cons.2
    simp only [tt]
    omega
theorem lab_app : ∀ (m r : List Pc) (k : Int), Cl m → 0 ≤ k → lab (m ++ r) k = if k < tt m then lab m k else lab r (k - tt m)
  | [], r, k, _, hk => by
    rw [if_neg (show ¬ k < tt [] by simp only [tt]; omega), List.nil_append]
    congr 1
    simp only [tt]
    omega
  | p :: m, r, k, h, hk => by
    have h1 := rc_pos h.cons.1.2 h.cons.1.1
    have h2 := tt_nonneg h.cons.2
    simp only [List.cons_append, lab, h.cons.1.1, Bool.false_eq_true, false_or, tt]
    by_cases hc : k < rc p
    · rw [if_pos hc, if_pos (by omega), if_pos hc]
    · rw [if_neg hc, if_neg hc, lab_app m r (k - rc p) h.cons.2 (by omega)]
      by_cases hd : k - rc p < tt m
      · rw [if_pos hd, if_pos (by omega)]
      · rw [if_neg hd, if_neg (by omega)]
        congr 1
        omega
theorem lab_jn {p q r : Pc} (hp : pok p) (hq : pok q) (h : jn p q = some r) (rest : List Pc) (k : Int) (hk : 0 ≤ k) : lab (r :: rest) k = lab (p :: q :: rest) k := by
  cases p <;> cases q <;> simp only [jn] at h <;> (try (cases h; done))
  · rename_i n m
    cases h
    simp only [pok] at hp hq
    simp only [lab, isOpn, Bool.false_eq_true, false_or, rc, labP]
    by_cases h1 : k < n
    · rw [if_pos h1, if_pos (by omega)]
    · rw [if_neg h1]
      by_cases h2 : k - n < m
      · rw [if_pos h2, if_pos (by omega)]
      · rw [if_neg h2, if_neg (by omega)]
        congr 1
        omega
  · rename_i a b c d
    split at h
    · cases h
      simp only [pok] at hp hq
      simp only [lab, isOpn, Bool.false_eq_true, false_or, rc, labP]
      by_cases h1 : k < b - a + 1
      · rw [if_pos h1, if_pos (by omega)]
      · rw [if_neg h1]
        by_cases h2 : k - (b - a + 1) < d - c + 1
        · rw [if_pos h2, if_pos (by omega)]
          congr 2 <;> omega
        · rw [if_neg h2, if_neg (by omega)]
          congr 1
          omega
    · cases h
  · rename_i a b c
    split at h
    · cases h
      simp only [pok] at hp hq
      simp only [lab, isOpn, Bool.false_eq_true, false_or, rc, labP, true_or, if_true]
      by_cases h1 : k < b - a + 1
      · rw [if_pos h1]
      · rw [if_neg h1]
        congr 2 <;> omega
    · cases h
  · rename_i a b n c d m
    split at h
    · rename_i e
      obtain ⟨rfl, rfl⟩ := e
      cases h
      simp only [pok] at hp hq
      simp only [lab, isOpn, Bool.false_eq_true, false_or, rc, labP]
      by_cases h1 : k < n
      · rw [if_pos h1, if_pos (by omega)]
      · rw [if_neg h1]
        by_cases h2 : k - n < m
        · rw [if_pos h2, if_pos (by omega)]
        · rw [if_neg h2, if_neg (by omega)]
          congr 1
          omega
    · cases h
theorem jn_pok' {p q r : Pc} (hp : pok p) (hq : pok q) (h : jn p q = some r) : pok r := by
  cases p <;> cases q <;> simp only [jn] at h <;> (try (cases h; done))
  · cases h; simp only [pok] at *; omega
  · split at h
    · cases h; simp only [pok] at *; omega
    · cases h
  · split at h
    · cases h; simp only [pok] at *; omega
    · cases h
  · split at h
    · cases h; simp only [pok] at *; omega
    · cases h
theorem last_of' {acc : List Pc} {l : Pc} (h : acc.getLast? = some l) : acc = acc.dropLast ++ [l] := by
  have hne : acc ≠ [] := fun z => by rw [z] at h; cases h
  rw [List.getLast?_eq_some_getLast hne] at h
  cases h
  exact (List.dropLast_concat_getLast hne).symm
theorem lab_nfS (acc rest : List Pc) (p : Pc) (ha : Cl acc) (hp : pok p) (k : Int) (hk : 0 ≤ k) : lab (nfS acc p ++ rest) k = lab (acc ++ p :: rest) k := by
  unfold nfS
  cases hl : acc.getLast? with
  | none => simp
  | some l =>
    cases hj : jn l p with
    | none => simp [hj]
    | some r =>
      simp only [hj]
      have e := last_of' hl
      generalize acc.dropLast = a at e
      subst e
      have hla := ha.right l (by simp)
      simp only [List.append_assoc, List.singleton_append]
      rw [lab_app _ _ _ ha.left hk, lab_app _ _ _ ha.left hk]
      by_cases h1 : k < tt a
      · rw [if_pos h1, if_pos h1]
      · rw [if_neg h1, if_neg h1, lab_jn hla.2 hp hj rest _ (by omega)]
theorem Cl.nfS {acc : List Pc} {p : Pc} (ha : Cl acc) (hp : pok p) (ho : isOpn p = false) : Cl (T.nfS acc p) := by
  unfold T.nfS
  cases hl : acc.getLast? with
  | none => exact ha.app (.mk ho hp .nil)
  | some l =>
    cases hj : jn l p with
    | none => simp only [hj]; exact ha.app (.mk ho hp .nil)
    | some r =>
      simp only [hj]
      have e := last_of' hl
      generalize acc.dropLast = a at e
      subst e
      have hla := ha.right l (by simp)
      exact ha.left.app (.mk (by rw [jn_opn hj]; exact ho) (jn_pok' hla.2 hp hj) .nil)
theorem lab_fold : ∀ (m acc rest : List Pc) (k : Int), Cl acc → Cl m → 0 ≤ k → lab (m.foldl nfS acc ++ rest) k = lab (acc ++ m ++ rest) k ∧ Cl (m.foldl nfS acc)
  | [], acc, rest, k, ha, _, hk => ⟨by simp, ha⟩
  | p :: m, acc, rest, k, ha, hm, hk => by
    have h1 := hm.cons
    have ih := lab_fold m (nfS acc p) rest k (ha.nfS h1.1.2 h1.1.1) h1.2 hk
    refine ⟨?_, ih.2⟩
    show lab (m.foldl nfS (nfS acc p) ++ rest) k = _
    rw [ih.1, List.append_assoc, lab_nfS acc (m ++ rest) p ha h1.1.2 k hk]
    simp
/-- a layout: pieces with an end, and an open one -/
structure Ly (l m : List Pc) (t : Int) : Prop where
  eq : l = m ++ [.opn t]
  cl : Cl m
  t0 : 0 ≤ t
theorem jn_opn_old {p : Pc} {t : Int} {r : Pc} (h : jn p (.opn t) = some r) : ∃ a b, p = .old a b ∧ r = .opn a ∧ b + 1 = t := by
  cases p <;> simp only [jn] at h <;> (try (cases h; done))
  split at h
  · cases h; exact ⟨_, _, rfl, rfl, by assumption⟩
  · cases h
theorem nf_Ly {l m : List Pc} {t : Int} (h : Ly l m t) : ∃ m' t', Ly (nf l) m' t' ∧ ∀ k, 0 ≤ k → lab (nf l) k = lab l k := by
  have e : nf l = nfS (nf m) (.opn t) := by rw [h.eq]; unfold nf; rw [List.foldl_append]; rfl
  have hf := fun rest k hk => lab_fold m [] rest k .nil h.cl hk
  have hc : Cl (nf m) := (hf [] 0 (Int.le_refl _)).2
  have hp : pok (.opn t) := h.t0
  have hl : ∀ k, 0 ≤ k → lab (nf l) k = lab l k := fun k hk => by
    rw [e]
    have h1 := lab_nfS (nf m) [] (.opn t) hc hp k hk
    rw [List.append_nil] at h1
    rw [h1, show nf m ++ [Pc.opn t] = m.foldl nfS [] ++ [.opn t] from rfl, (hf [.opn t] k hk).1, h.eq]
    simp
  cases hg : (nf m).getLast? with
  | none =>
    refine ⟨nf m, t, ⟨?_, hc, h.t0⟩, hl⟩
    rw [e]
    simp only [nfS, hg]
  | some q =>
    cases hj : jn q (.opn t) with
    | none =>
      refine ⟨nf m, t, ⟨?_, hc, h.t0⟩, hl⟩
      rw [e]
      simp only [nfS, hg, hj]
    | some r =>
      obtain ⟨a, b, rfl, rfl, _⟩ := jn_opn_old hj
      have e2 := last_of' hg
      have hq := hc (.old a b) (by rw [e2]; simp)
      have h0 : 0 ≤ a := hq.2.1
      refine ⟨(nf m).dropLast, a, ⟨?_, ?_, h0⟩, hl⟩
      · rw [e]
        simp only [nfS, hg, hj]
      · intro p hp
        exact hc p (List.dropLast_subset _ hp)
end
section
set_option Elab.async false
set_option linter.all false
set_option maxRecDepth 100000
set_option maxHeartbeats 1000000
theorem mf_of {p q : Pc} (hp : pok p) (ho : isOpn p = false) (hq : pok q) (h : pr (labP p (rc p - 1)) (labP q 0)) : mf p q = true := by
  cases p <;> cases q <;> simp only [labP, pr, mf, pok, isOpn, rc, Bool.and_eq_true, decide_eq_true_eq] at * <;> first | (cases ho; done) | omega | (have := h.2.2 trivial trivial; omega)
theorem pr_mf' {p q : Pc} (hp : pok p) (hq : pok q) (h : mf p q = true) : pr (labP p (rc p - 1)) (labP q 0) := by
  cases p <;> cases q <;> simp only [mf] at h <;> first | (cases h; done) | (simp only [labP, pr]; done) | (simp only [labP, pr, pok, rc, Bool.and_eq_true, decide_eq_true_eq] at *; omega)
theorem pr_in {p : Pc} (hp : pok p) (k : Int) : pr (labP p k) (labP p (k + 1)) := by
  cases p <;> simp only [labP, pr, pok] at * <;> omega
theorem okR_labP {p : Pc} (hp : pok p) (k : Int) (hk : 0 ≤ k) : okR (labP p k) := by
  cases p <;> simp only [labP, okR, pok] at * <;> omega
/-- rows in order -/
def Ord (f : Int → Rw) : Prop := ∀ k, 0 ≤ k → pr (f k) (f (k + 1)) ∧ okR (f k)
theorem lab_head {p : Pc} (r : List Pc) (hp : isOpn p = true ∨ 0 < rc p) : lab (p :: r) 0 = labP p 0 := by
  simp only [lab]
  rw [if_pos hp]
theorem lab_tail {p : Pc} (r : List Pc) (ho : isOpn p = false) (k : Int) (hk : 0 ≤ k) : lab (p :: r) (k + rc p) = lab r k := by
  simp only [lab, ho, Bool.false_eq_true, false_or]
  rw [if_neg (by omega)]
  congr 1
  omega
theorem lab_lastrow {p : Pc} (r : List Pc) (ho : isOpn p = false) (hp : pok p) : lab (p :: r) (rc p - 1) = labP p (rc p - 1) := by
  simp only [lab, ho, Bool.false_eq_true, false_or]
  rw [if_pos (by omega)]
theorem chainO : ∀ (m : List Pc) (p : Pc) (t : Int), isOpn p = false → pok p → Cl m → 0 ≤ t → Ord (lab (p :: (m ++ [.opn t]))) → chain p (m ++ [.opn t])
  | [], p, t, ho, hp, _, ht, h => by
    have h1 := (h (rc p - 1) (by have := rc_pos hp ho; omega)).1
    rw [show rc p - 1 + 1 = 0 + rc p by omega, lab_tail _ ho 0 (by omega), lab_lastrow _ ho hp] at h1
    exact ⟨ht, mf_of hp ho ht h1, trivial⟩
  | q :: m, p, t, ho, hp, hc, ht, h => by
    have hq := hc.cons
    have h1 := (h (rc p - 1) (by have := rc_pos hp ho; omega)).1
    rw [show rc p - 1 + 1 = 0 + rc p by omega, lab_tail _ ho 0 (by omega), lab_lastrow _ ho hp] at h1
    have hrq := rc_pos hq.1.2 hq.1.1
    rw [List.cons_append, lab_head _ (Or.inr (by omega))] at h1
    refine ⟨hq.1.2, mf_of hp ho hq.1.2 h1, chainO m q t hq.1.1 hq.1.2 hq.2 ht fun k hk => ?_⟩
    have hr := rc_pos hp ho
    have h2 := h (k + rc p) (by omega)
    rw [lab_tail _ ho k hk, show k + rc p + 1 = (k + 1) + rc p by omega, lab_tail _ ho (k + 1) (by omega)] at h2
    exact h2
theorem lastOf_app : ∀ (m : List Pc) (p q : Pc), lastOf p (m ++ [q]) = q
  | [], _, _ => rfl
  | x :: m, _, q => lastOf_app m x q
theorem validO {l m : List Pc} {t : Int} (h : Ly l m t) (ho : Ord (lab l)) : valid l := by
  obtain ⟨rfl, hc, ht⟩ := h
  cases m with
  | nil => exact ⟨ht, trivial, rfl⟩
  | cons p m =>
    refine ⟨hc.cons.1.2, chainO m p t hc.cons.1.1 hc.cons.1.2 hc.cons.2 ht ho, ?_⟩
    show isOpn (lastOf p (m ++ [.opn t])) = true
    rw [lastOf_app]; rfl
theorem chain_rows : ∀ (r : List Pc) (p : Pc), pok p → chain p r → isOpn (lastOf p r) = true → (∃ m t, Ly (p :: r) m t) ∧ Ord (lab (p :: r))
  | [], p, hp, _, hl => by
    obtain ⟨t, rfl⟩ : ∃ t, p = .opn t := by cases p <;> simp only [lastOf, isOpn] at hl <;> first | (cases hl; done) | exact ⟨_, rfl⟩
    refine ⟨⟨[], t, rfl, .nil, hp⟩, fun k hk => ?_⟩
    exact ⟨pr_in (p := .opn t) hp k, okR_labP (p := .opn t) hp k hk⟩
  | q :: r, p, hp, hc, hl => by
    obtain ⟨hq, hm, hc'⟩ := hc
    obtain ⟨⟨m, t, e, hcm, ht⟩, ho⟩ := chain_rows r q hq hc' hl
    have hop : isOpn p = false := by
      cases p <;> first | rfl | (simp only [mf] at hm; cases hm)
    have hr := rc_pos hp hop
    refine ⟨⟨p :: m, t, by rw [e]; rfl, .mk hop hp hcm, ht⟩, fun k hk => ?_⟩
    by_cases h1 : k + 1 < rc p
    · have e1 : ∀ j, j < rc p → lab (p :: q :: r) j = labP p j := fun j hj => by
        rw [show lab (p :: q :: r) j = if isOpn p = true ∨ j < rc p then labP p j else lab (q :: r) (j - rc p) from rfl, if_pos (Or.inr hj)]
      rw [e1 k (by omega), e1 (k + 1) h1]
      exact ⟨pr_in hp k, okR_labP hp k hk⟩
    · by_cases h2 : k < rc p
      · have e0 : k = rc p - 1 := by omega
        subst e0
        rw [lab_lastrow _ hop hp, show rc p - 1 + 1 = 0 + rc p by omega, lab_tail _ hop 0 (by omega)]
        have hh : isOpn q = true ∨ 0 < rc q := by
          cases hq' : isOpn q with
          | true => exact .inl rfl
          | false => exact .inr (by have := rc_pos hq hq'; omega)
        rw [lab_head _ hh]
        exact ⟨pr_mf' hp hq hm, okR_labP hp _ hk⟩
      · have h3 := ho (k - rc p) (by omega)
        have e2 := lab_tail (q :: r) hop (k - rc p) (by omega)
        have e3 := lab_tail (q :: r) hop (k - rc p + 1) (by omega)
        rw [show k - rc p + rc p = k by omega] at e2
        rw [show k - rc p + 1 + rc p = k + 1 by omega] at e3
        rw [e2, e3]
        exact h3
theorem rows_of {l : List Pc} (h : valid l) : (∃ m t, Ly l m t) ∧ Ord (lab l) := by
  cases l with
  | nil => exact h.elim
  | cons p r => exact chain_rows r p h.1 h.2.1 h.2.2
end
section
set_option Elab.async false
set_option linter.all false
set_option maxRecDepth 100000
set_option maxHeartbeats 1000000
theorem need_ok {α : Type} {c : Prop} (h : c) (p : Pr α) : Pr.need c p = p := by
  funext Q E
  exact propext ⟨fun z => z.2, fun z => ⟨h, z⟩⟩
theorem lim_ok {α : Type} {l : List α} (h : l.length < 20000000) : lim l = Pr.ok l := need_ok h _
theorem nfl (l : List Pc) : (nf l).length ≤ l.length := by
  have : ∀ (l acc : List Pc), (l.foldl nfS acc).length ≤ acc.length + l.length := by
    intro l
    induction l with
    | nil => intro acc; simp
    | cons p l ih =>
      intro acc
      have h1 := ih (nfS acc p)
      have h2 := nfS_len acc p
      simp only [List.foldl_cons, List.length_cons]
      omega
  show (l.foldl nfS []).length ≤ l.length
  have h := this l []
  simp only [List.length_nil, Nat.zero_add] at h
  exact h
theorem Ly.len {l m : List Pc} {t : Int} (h : Ly l m t) : l.length = m.length + 1 := by rw [h.eq]; simp
theorem valid_eq {f g : Int → Rw} (h : Ord f) (e : ∀ k, 0 ≤ k → g k = f k) : Ord g := fun k hk => by
  rw [e k hk, e (k + 1) (by omega)]
  exact h k hk
theorem cat_ok {α : Type} {a b : List α} (h : a.length + b.length ≤ 16777216) : cat a b = Pr.ok (a ++ b) := need_ok h _
theorem Layout_t {q : Sq Pc} (hv : valid q.l) (hl : q.l.length ≤ 60) : t_Layout q = Pr.ok (mkLay (nf q.l)) ∧ valid (nf q.l) ∧ (∀ k, 0 ≤ k → lab (nf q.l) k = lab q.l k) ∧ (nf q.l).length ≤ q.l.length := by
  obtain ⟨⟨m, t, hm⟩, ho⟩ := rows_of hv
  obtain ⟨m', t', hm', hl'⟩ := nf_Ly hm
  have h2 := nfl q.l
  refine ⟨?_, validO hm' (valid_eq ho hl'), hl', h2⟩
  funext Q E
  refine propext ⟨fun z => z.2.2.2.2, fun z => ⟨hv, fun p hp => ?_, by omega, by omega, z⟩⟩
  rw [hm'.eq, List.dropLast_concat] at hp
  exact (hm'.cl p hp).1
end
section
set_option Elab.async false
set_option linter.all false
set_option maxRecDepth 100000
set_option maxHeartbeats 1000000
theorem lcM_ok {β γ : Type} {c : β → Pr Bool} {g : β → Pr γ} {cb : β → Bool} {gv : β → γ} : ∀ (l : List β), (∀ x ∈ l, c x = Pr.ok (cb x) ∧ g x = Pr.ok (gv x)) → Pr.lcM l c g = Pr.ok ((l.filter cb).map gv)
  | [], _ => rfl
  | x :: l, h => by
    obtain ⟨h1, h2⟩ := h x (by simp)
    have ih := lcM_ok l fun y hy => h y (by simp [hy])
    show (c x).bind _ = _
    rw [h1, Pr.ok_bind]
    cases hc : cb x with
    | true =>
      rw [if_pos rfl, h2, Pr.ok_bind, ih, Pr.ok_bind, List.filter_cons_of_pos hc]
      rfl
    | false =>
      rw [if_neg (by simp), ih, List.filter_cons_of_neg (by simp [hc])]
/-- any list of values that may come -/
theorem lcM_any {β γ : Type} {g : β → Pr γ} {P : γ → Prop} {E : Exn → Prop} : ∀ (l : List β) (Q : List γ → Prop), (∀ x ∈ l, ∀ Q : γ → Prop, (∀ y, P y → Q y) → g x Q E) → (∀ ys, ys.length = l.length → (∀ y ∈ ys, P y) → Q ys) → Pr.lcM l (fun _ => Pr.ok true) g Q E
  | [], Q, _, h => h [] rfl (fun _ z => by cases z)
  | x :: l, Q, hg, h => by
    show (g x) (fun y => (Pr.lcM l (fun _ => Pr.ok true) g) (fun ys => Q (y :: ys)) E) E
    refine hg x (by simp) _ fun y hy => ?_
    refine lcM_any l _ (fun z hz => hg z (by simp [hz])) fun ys h1 h2 => h (y :: ys) (by simp [h1]) fun z hz => ?_
    rcases List.mem_cons.mp hz with rfl | hz
    · exact hy
    · exact h2 z hz
theorem rngI_len (lo : Int) (n : Nat) : (rngI lo n).length = n := by simp [rngI]
theorem need_T {α : Type} {c : Prop} (h : c) (p : Pr α) : Pr.need c p = p := need_ok h p
theorem filter_T {α : Type} (l : List α) : (l.filter fun _ => true) = l := List.filter_eq_self.mpr fun _ _ => rfl
theorem sm_of {n : Int} (h : -1000 ≤ n) (h' : n ≤ 1000000) : sm n := ⟨by omega, by omega⟩
theorem rep_one {α : Type} (x : α) (n : Int) (h : 0 ≤ n) (h' : n ≤ 1000) : rep [x] n = Pr.ok (List.replicate n.toNat x) := by
  unfold rep
  rw [need_T ⟨sm_of (by omega) (by omega), by simp; omega⟩]
  congr 1
  generalize n.toNat = k
  induction k with
  | zero => rfl
  | succ k ih => rw [List.replicate_succ, List.flatten_cons, ih]; rfl
theorem forF_unit {α ρ : Type} {b : α → Unit → Pr (FlT Unit ρ)} {E : Exn → Prop} : ∀ (l : List α) (Q : FlT Unit ρ → Prop), (∀ x ∈ l, ∀ Q : FlT Unit ρ → Prop, Q (.nx ()) → b x () Q E) → Q (.nx ()) → Pr.forF l () b Q E
  | [], Q, _, h => h
  | x :: l, Q, hb, h => by
    refine hb x (by simp) _ ?_
    exact forF_unit l Q (fun y hy => hb y (by simp [hy])) h
theorem pull_i {n : Int} {Q : Int → Prop} {E : Exn → Prop} (h0 : 0 < n) (h1 : n < 1073741824) (h : ∀ v, 0 ≤ v → v < n → Q v) : Pr.pull n Q E := ⟨h0, h1, h⟩
theorem lk_i {α β : Type} [Enc α] [Enc β] {k : Nat} {a : α} {b : β} {Q : Bool → Prop} {E : Exn → Prop} (e : en a = en b) (h : lkD k (en a) = true) (q : Q true) : lk k a b Q E := ⟨e, h, q⟩
theorem bind_i {α β : Type} {p : Pr α} {k : α → Pr β} {Q : β → Prop} {E : Exn → Prop} (h : p (fun a => k a Q E) E) : (p.bind k) Q E := h
theorem flow_i {α ρ β : Type} {l : List α} {b : α → Unit → Pr (FlT Unit ρ)} {k : Unit → Pr β} {w : ρ → β} {Q : β → Prop} {E : Exn → Prop} (hb : ∀ x ∈ l, ∀ Q : FlT Unit ρ → Prop, Q (.nx ()) → b x () Q E) (h : k () Q E) : (Pr.flow (Pr.forF l () b) k w) Q E :=
  forF_unit l _ hb h
theorem if_not {α : Type} {p : Pr Bool} {x y : Pr α} {Q : α → Prop} {E : Exn → Prop} (h : ∀ Q' : Bool → Prop, Q' true → p Q' E) (hy : y Q E) : ((p.bind fun b => Pr.ok (!b)).bind fun c => if c then x else y) Q E := h _ hy
end
section
set_option Elab.async false
set_option linter.all false
set_option maxRecDepth 100000
set_option maxHeartbeats 2000000
abbrev tl (x : Str) : List Nat := _root_.TL.tl x
abbrev SS (l : List Nat) : Str := SX.S l
def Asc (t : Str) : Prop := ∀ c ∈ tl t, c < 128
def DigsL (l : List Nat) : Bool := !l.isEmpty && l.all fun c => decide (48 ≤ c) && decide (c ≤ 57)
theorem SS_tl (x : Str) : SS (tl x) = x := _root_.TL.mk_tl x
theorem len_t (x : Str) : x.length = (tl x).length := _root_.TL.len_tl x
theorem digit_c : ∀ c, c < 128 → Unicode.isDigit c = (decide (48 ≤ c) && decide (c ≤ 57)) := by decide +kernel
theorem isdig_t {w : Str} (h : Asc w) : Txt.isdigit w = DigsL (tl w) := by
  have e : w.cps.all Unicode.isDigit = (tl w).all fun c => decide (48 ≤ c) && decide (c ≤ 57) := by
    rw [← Array.all_toList]
    have : ∀ l : List Nat, (∀ c ∈ l, c < 128) → l.all Unicode.isDigit = l.all fun c => decide (48 ≤ c) && decide (c ≤ 57) := by
      intro l
      induction l with
      | nil => exact fun _ => rfl
      | cons c l ih => exact fun h => by rw [List.all_cons, List.all_cons, digit_c c (h c (by simp)), ih fun d hd => h d (by simp [hd])]
    exact this _ h
  unfold Txt.isdigit DigsL
  rw [e, len_t]
  cases hl : tl w with
  | nil => simp
  | cons c l => simp
def rnL (l : List Nat) : Option Int := if DigsL l = true ∧ l.length ≤ 18 ∧ ¬ (l.head? = some 48 ∧ 1 < l.length) then some ((NumText.digitsVal l : Nat) : Int) else none
theorem int_t {w : Str} (h : DigsL (tl w) = true) (hl : (tl w).length ≤ 640) : PySem.intText? w = some ((NumText.digitsVal (tl w) : Nat) : Int) := by
  unfold DigsL at h
  rw [Bool.and_eq_true] at h
  have := SX.int_S (a := tl w) h.2 (by intro e; rw [e] at h; simp at h) (by omega)
  rw [show SX.S (tl w) = w from SS_tl w] at this
  exact this
theorem zero_t : tl ("0" : Str) = [48] := by decide +kernel
theorem ix0_t {w : Str} {c : Nat} {l : List Nat} (h : tl w = c :: l) (hl : (tl w).length ≤ 1000) : op2 (α := Str) (β := Int) (γ := Str) gIxS w (0 : Int) = Pr.ok (sgn c) := op2_ok fun M => by
  show (if w.length ≤ 16777216 then (L2.atI w.cps.toList 0).map fun c => (D.str (sgn c), M) else none) = _
  rw [if_pos (by rw [len_t]; omega), show w.cps.toList = c :: l from h, show L2.atI (c :: l) 0 = some c from atI_nat (xs := c :: l) (j := 0) (by simp)]
  rfl
theorem sgn_zero (c : Nat) : (sgn c = ("0" : Str)) ↔ c = 48 := by
  constructor
  · intro e
    have := congrArg tl e
    rw [zero_t] at this
    exact List.head_eq_of_cons_eq this
  · intro e; subst e; decide +kernel
theorem one_t {w : Str} : w = ("0" : Str) ↔ tl w = [48] := by
  constructor
  · intro e; rw [e]; exact zero_t
  · intro e; exact _root_.TL.ext_tl (by rw [show _root_.TL.tl w = [48] from e]; exact zero_t.symm)
theorem need_t {α : Type} {c : Prop} (h : c) (p : Pr α) : Pr.need c p = p := need_ok h p
theorem optP_some {α : Type} (a : α) : optP (some a) = Pr.ok a := rfl
theorem castO (i : Int) : cast (α := Int) (β := (Option Int)) i = Pr.ok (some i) := cast_ok rfl
theorem read_t {w : Str} (ha : Asc w) (hl : (tl w).length ≤ 500) : t_read_number w = Pr.ok (rnL (tl w)) := by
  unfold t_read_number
  rw [isdig_t ha]
  have hlen := len_t w
  cases hd : DigsL (tl w) with
  | false =>
    rw [Bool.not_false, if_pos rfl, Pr.ok_bind, if_pos rfl]
    unfold rnL
    rw [if_neg (by rw [hd]; simp)]
  | true =>
    rw [Bool.not_true, if_neg (by simp), need_t (by omega), Pr.ok_bind, Pr.ok_bind]
    by_cases h18 : (tl w).length ≤ 18
    · rw [decide_eq_false (by omega), if_neg (by simp)]
      obtain ⟨c, l, e⟩ : ∃ c l, tl w = c :: l := by
        cases e : tl w with
        | nil => rw [e] at hd; simp [DigsL] at hd
        | cons c l => exact ⟨c, l, rfl⟩
      rw [ix0_t e (by omega), Pr.ok_bind, Pr.ok_bind]
      by_cases hz : c = 48
      · rw [decide_eq_true ((sgn_zero c).mpr hz), if_pos rfl, Pr.ok_bind]
        by_cases ho : w = ("0" : Str)
        · rw [decide_eq_true ho, Bool.not_true, if_neg (by simp), need_t (c := w.length ≤ 640) (by omega), int_t hd (by omega), optP_some, Pr.ok_bind, castO]
          unfold rnL
          rw [if_pos ⟨hd, h18, fun z => by have := one_t.mp ho; rw [this] at z; simp at z⟩]
        · rw [decide_eq_false ho, Bool.not_false, if_pos rfl]
          unfold rnL
          rw [if_neg]
          intro z
          refine z.2.2 ⟨by rw [e, hz]; rfl, ?_⟩
          rw [e]
          cases l with
          | nil => exact absurd (one_t.mpr (by rw [e, hz])) ho
          | cons d l => simp
      · rw [decide_eq_false (fun z => hz ((sgn_zero c).mp z)), if_neg (by simp), Pr.ok_bind, if_neg (by simp), need_t (c := w.length ≤ 640) (by omega), int_t hd (by omega), optP_some, Pr.ok_bind, castO]
        unfold rnL
        rw [if_pos ⟨hd, h18, fun z => by rw [e] at z; exact hz (Option.some.inj z.1)⟩]
    · rw [decide_eq_true (by omega), if_pos rfl]
      unfold rnL
      rw [if_neg (fun z => h18 z.2.1)]
abbrev numL (n : Nat) : List Nat := _root_.TL.numL n
theorem add_t {a b : Str} (h : (tl a).length + (tl b).length ≤ 16777216) : op2 (α := Str) (β := Str) (γ := Str) gAdd a b = Pr.ok (a ++ b) := op2_ok fun M => by
  have h' : a.length + b.length ≤ 16777216 := by rw [len_t, len_t]; exact h
  show orG (gStr fun s t => s ++ t) (orG gCat gCatT) (.str a) (.str b) M = _
  simp [orG, gStr, h']
  rfl
theorem tl_add (a b : Str) : tl (a ++ b) = tl a ++ tl b := _root_.TL.tl_append a b
theorem tl_emp : tl (Str.empty) = [] := rfl
theorem tl_sp : tl (" " : Str) = [32] := by decide +kernel
theorem tl_strI {i : Int} (h : 0 ≤ i) : tl (strI i) = numL i.toNat := by
  obtain ⟨n, rfl⟩ : ∃ n : Nat, i = n := ⟨i.toNat, by omega⟩
  rw [Int.toNat_natCast]
  exact _root_.TL.tl_num n
theorem num_len {i : Int} (h0 : 0 ≤ i) (h : i < 1000000000000000000) : (numL i.toNat).length ≤ 18 := _root_.TL.numL_len (by decide) (by
  have : (10 : Nat) ^ 18 = 1000000000000000000 := by decide
  omega)
theorem num_dig {n c : Nat} (h : c ∈ numL n) : 48 ≤ c ∧ c ≤ 57 := _root_.TL.numL_digits n c h
theorem num_head : ∀ n : Nat, 1 ≤ n → ∃ c l, numL n = c :: l ∧ c ≠ 48 := by
  intro n
  induction n using Nat.strongRecOn with
  | _ n ih =>
    intro h
    by_cases h10 : n < 10
    · exact ⟨48 + n, [], _root_.TL.numL_lt h10, by omega⟩
    · obtain ⟨c, l, e, hc⟩ := ih (n / 10) (by omega) (by omega)
      refine ⟨c, l ++ [48 + n % 10], ?_, hc⟩
      rw [show numL n = numL (n / 10) ++ [48 + n % 10] from _root_.TL.numL_step (by omega), e]
      rfl
theorem rn_num {i : Int} (h0 : 0 ≤ i) (h : i < 1000000000000000000) : rnL (numL i.toNat) = some i := by
  unfold rnL
  have hd : DigsL (numL i.toNat) = true := by
    unfold DigsL
    rw [Bool.and_eq_true]
    refine ⟨?_, List.all_eq_true.mpr fun c hc => by have := num_dig hc; simp [this.1, this.2]⟩
    cases e : numL i.toNat with
    | nil => exact absurd e (_root_.TL.numL_ne _)
    | cons c l => rfl
  have hx : ¬ ((numL i.toNat).head? = some 48 ∧ 1 < (numL i.toNat).length) := by
    rintro ⟨z1, z2⟩
    by_cases hz : i.toNat = 0
    · rw [hz] at z2
      have : (numL 0).length = 1 := by decide
      omega
    · obtain ⟨c, l, e, hc⟩ := num_head i.toNat (by omega)
      rw [e] at z1
      exact hc (Option.some.inj z1)
  rw [if_pos ⟨hd, num_len h0 h, hx⟩, show NumText.digitsVal (numL i.toNat) = i.toNat from _root_.TL.numL_val _]
  congr 1
  omega
end
section
set_option Elab.async false
set_option linter.all false
set_option maxRecDepth 100000
set_option maxHeartbeats 2000000
abbrev G18 (i : Int) : Prop := 0 ≤ i ∧ i < 1000000000000000000
def goodP : Pc → Prop
  | .top n => G18 n
  | .old a b => G18 a ∧ G18 b
  | .opn a => G18 a
  | .new a b n => G18 a ∧ G18 b ∧ G18 n
def oldT (a b : Int) : Str := if a = b then ("old " : Str) ++ strI a else ("old " : Str) ++ strI a ++ (("-" : Str) ++ strI b)
def pT : Pc → Str
  | .top n => ("top " : Str) ++ strI n
  | .old a b => oldT a b
  | .opn a => ("old " : Str) ++ strI a ++ ("-" : Str)
  | .new a b n => ("new " : Str) ++ strI a ++ ("-" : Str) ++ strI b ++ (" x" : Str) ++ strI n
theorem lg {i : Int} (h : G18 i) : i.natAbs.log2 < 1920 := by
  by_cases z : i.natAbs = 0
  · rw [z]; decide
  · have h2 : (2 : Nat) ^ 60 = 1152921504606846976 := by decide
    have h3 : i.natAbs < 2 ^ 60 := by have := h.1; have := h.2; omega
    have h4 : i.natAbs.log2 < 60 := (Nat.log2_lt z).mpr h3
    omega
theorem ln {i : Int} (h : G18 i) : (tl (strI i)).length ≤ 18 := by rw [tl_strI h.1]; exact num_len h.1 h.2
theorem asc_num {i : Int} (h : G18 i) : Asc (strI i) := fun c hc => by
  rw [tl_strI h.1] at hc
  have := num_dig hc
  omega
theorem read_num {i : Int} (h : G18 i) : t_read_number (strI i) = Pr.ok (some i) := by
  rw [read_t (asc_num h) (by have := ln h; omega), tl_strI h.1, rn_num h.1 h.2]
theorem free_num {i : Int} (h : G18 i) {s : Nat} (hs : s < 48 ∨ 57 < s) : s ∉ tl (strI i) := by
  rw [tl_strI h.1]
  exact _root_.TL.numL_free hs
theorem c_top : tl ("top " : Str) = [116, 111, 112, 32] := by decide +kernel
theorem c_old : tl ("old " : Str) = [111, 108, 100, 32] := by decide +kernel
theorem c_new : tl ("new " : Str) = [110, 101, 119, 32] := by decide +kernel
theorem c_dash : tl ("-" : Str) = [45] := by decide +kernel
theorem c_x : tl (" x" : Str) = [32, 120] := by decide +kernel
theorem c_semi : tl ("; " : Str) = [59, 32] := by decide +kernel
theorem len_pT {p : Pc} (h : goodP p) : (tl (pT p)).length ≤ 62 := by
  cases p with
  | top n => simp only [pT, tl_add, c_top, List.length_append, List.length_cons, List.length_nil]; have := ln h; omega
  | old a b =>
    have h1 := ln h.1
    have h2 := ln h.2
    simp only [pT, oldT]
    split
    · simp only [tl_add, c_old, List.length_append, List.length_cons, List.length_nil]; omega
    · simp only [tl_add, c_old, c_dash, List.length_append, List.length_cons, List.length_nil]; omega
  | opn a => simp only [pT, tl_add, c_old, c_dash, List.length_append, List.length_cons, List.length_nil]; have := ln h; omega
  | new a b n =>
    have h1 := ln h.1
    have h2 := ln h.2.1
    have h3 := ln h.2.2
    simp only [pT, tl_add, c_new, c_dash, c_x, List.length_append, List.length_cons, List.length_nil]; omega
theorem free_pT {p : Pc} (h : goodP p) : 59 ∉ tl (pT p) := by
  have f : ∀ {i : Int}, G18 i → 59 ∉ tl (strI i) := fun hi => free_num hi (.inr (by decide))
  cases p with
  | top n => simp only [pT, tl_add, c_top, List.mem_append]; simp [f h]
  | old a b =>
    simp only [pT, oldT]
    split
    · simp only [tl_add, c_old, List.mem_append]; simp [f h.1]
    · simp only [tl_add, c_old, c_dash, List.mem_append]; simp [f h.1, f h.2]
  | opn a => simp only [pT, tl_add, c_old, c_dash, List.mem_append]; simp [f h]
  | new a b n => simp only [pT, tl_add, c_new, c_dash, c_x, List.mem_append]; simp [f h.1, f h.2.1, f h.2.2]
theorem gI {i : Int} (h : G18 i) : (Pr.need (i.natAbs.log2 < 1920) (Pr.ok (strI i)) : Pr Str) = Pr.ok (strI i) := need_t (lg h) _
theorem castI (i : Int) : cast (α := (Option Int)) (β := Int) (some i) = Pr.ok i := cast_ok rfl
theorem eqI (a b : Int) : op2 (α := Int) (β := (Option Int)) (γ := Bool) (gEq false) a (some b) = Pr.ok (decide (a = b)) := op2_ok fun M => by
  show gEq false (.int a) (.int b) M = some (.bl (decide (a = b)), M)
  simp [gEq, eqD, toV, scal]
theorem emp_eq (x : Str) : x ++ ("" : Str) = x := _root_.TL.ext_tl (by rw [_root_.TL.tl_append, show _root_.TL.tl ("" : Str) = [] from rfl, List.append_nil])
theorem lpt_t {p : Pc} (h : goodP p) : t__law_piece_text p = Pr.ok (pT p) := by
  unfold t__law_piece_text
  cases p with
  | top n =>
    have h1 := ln h
    rw [if_pos (show (Pc.top n).isTop = true from rfl), show Pc.f1 (.top n) = n from rfl, gI h, Pr.ok_bind, add_t (by rw [c_top]; simp only [List.length_cons, List.length_nil]; omega)]
    rfl
  | old a b =>
    have h1 := ln h.1
    have h2 := ln h.2
    rw [if_neg (by simp [Pc.isTop]), if_neg (by simp [Pc.isNew]), show Pc.f2 (.old a b) = Pr.ok (some b) from rfl, show Pc.f1 (.old a b) = a from rfl, gI h.1]
    simp only [Pr.ok_bind, Option.isNone_some, Bool.false_eq_true, if_false, eqI, castI, gI h.2]
    rw [add_t (by rw [c_old]; simp only [List.length_cons, List.length_nil]; omega)]
    simp only [Pr.ok_bind]
    by_cases e : a = b
    · rw [decide_eq_true e, if_pos rfl, Pr.ok_bind, add_t (by rw [tl_add, c_old]; simp only [List.length_append, List.length_cons, List.length_nil, show tl ("" : Str) = [] from rfl]; omega), emp_eq]
      simp only [pT, oldT, if_pos e]
    · rw [decide_eq_false e, if_neg (by simp), add_t (a := ("-" : Str)) (by rw [c_dash]; simp only [List.length_cons, List.length_nil]; omega), Pr.ok_bind, add_t (by rw [tl_add, tl_add, c_old, c_dash]; simp only [List.length_append, List.length_cons, List.length_nil]; omega)]
      simp only [pT, oldT, if_neg e]
  | opn a =>
    have h1 := ln h
    rw [if_neg (by simp [Pc.isTop]), if_neg (by simp [Pc.isNew]), show Pc.f2 (.opn a) = Pr.ok none from rfl, show Pc.f1 (.opn a) = a from rfl, gI h]
    simp only [Pr.ok_bind, Option.isNone_none, if_true]
    rw [add_t (by rw [c_old]; simp only [List.length_cons, List.length_nil]; omega), Pr.ok_bind, add_t (by rw [tl_add, c_old, c_dash]; simp only [List.length_append, List.length_cons, List.length_nil]; omega)]
    rfl
  | new a b n =>
    have h1 := ln h.1
    have h2 := ln h.2.1
    have h3 := ln h.2.2
    rw [if_neg (by simp [Pc.isTop]), if_pos (show (Pc.new a b n).isNew = true from rfl), show Pc.f2 (.new a b n) = Pr.ok (some b) from rfl, show Pc.f1 (.new a b n) = a from rfl, show Pc.f3 (.new a b n) = Pr.ok n from rfl, gI h.1]
    simp only [Pr.ok_bind, castI, gI h.2.1, gI h.2.2]
    rw [add_t (by rw [c_new]; simp only [List.length_cons, List.length_nil]; omega)]
    simp only [Pr.ok_bind]
    rw [add_t (by rw [tl_add, c_new, c_dash]; simp only [List.length_append, List.length_cons, List.length_nil]; omega)]
    simp only [Pr.ok_bind]
    rw [add_t (by rw [tl_add, tl_add, c_new, c_dash]; simp only [List.length_append, List.length_cons, List.length_nil]; omega)]
    simp only [Pr.ok_bind]
    rw [add_t (by rw [tl_add, tl_add, tl_add, c_new, c_dash, c_x]; simp only [List.length_append, List.length_cons, List.length_nil]; omega)]
    simp only [Pr.ok_bind]
    rw [add_t (by rw [tl_add, tl_add, tl_add, tl_add, c_new, c_dash, c_x]; simp only [List.length_append, List.length_cons, List.length_nil]; omega)]
    rfl
end
section
set_option Elab.async false
set_option linter.all false
set_option maxRecDepth 100000
set_option maxHeartbeats 2000000
theorem ndL {α : Type} {x : Str} {p : Pr α} (h : (tl x).length ≤ 1000) : Pr.need (x.length ≤ 16777216) p = p := need_t (by rw [len_t]; omega) p
theorem ndI {α : Type} {i : Int} {x : Str} {p : Pr α} (g : G18 i) (h : (tl x).length ≤ 1000) : Pr.need (i.natAbs.log2 < 1920 ∧ x.length ≤ 16777216) p = p := need_t ⟨lg g, by rw [len_t]; omega⟩ p
theorem ext_t {x y : Str} (h : tl x = tl y) : x = y := _root_.TL.ext_tl h
theorem ppt_t {p : Pc} (h : goodP p) : t_piece_text p = Pr.ok (pT p) := by
  unfold t_piece_text
  cases p with
  | top n =>
    have h1 := ln h
    rw [if_pos (show (Pc.top n).isTop = true from rfl), show Pc.f1 (.top n) = n from rfl, ndL (by simp only [tl_add, tl_emp, c_top, c_old, c_new, c_dash, c_x, List.length_append, List.length_cons, List.length_nil]; omega), Pr.ok_bind, ndI h (by simp only [tl_add, tl_emp, c_top, c_old, c_new, c_dash, c_x, List.length_append, List.length_cons, List.length_nil]; omega)]
    exact congrArg Pr.ok (ext_t (by simp only [pT, tl_add, tl_emp, List.nil_append]))
  | old a b =>
    have h1 := ln h.1
    have h2 := ln h.2
    rw [if_neg (by simp [Pc.isTop]), if_neg (by simp [Pc.isNew]), show Pc.f2 (.old a b) = Pr.ok (some b) from rfl, show Pc.f1 (.old a b) = a from rfl]
    simp only [Pr.ok_bind, Option.isNone_some, Bool.false_eq_true, if_false, eqI, castI]
    by_cases e : a = b
    · rw [decide_eq_true e, if_pos rfl, ndL (by simp only [tl_add, tl_emp, c_top, c_old, c_new, c_dash, c_x, List.length_append, List.length_cons, List.length_nil]; omega), ndI h.1 (by simp only [tl_add, tl_emp, c_top, c_old, c_new, c_dash, c_x, List.length_append, List.length_cons, List.length_nil]; omega)]
      exact congrArg Pr.ok (ext_t (by simp only [pT, oldT, if_pos e, tl_add, tl_emp, List.nil_append]))
    · rw [decide_eq_false e, if_neg (by simp), ndL (by simp only [tl_add, tl_emp, c_top, c_old, c_new, c_dash, c_x, List.length_append, List.length_cons, List.length_nil]; omega), ndI h.1 (by simp only [tl_add, tl_emp, c_top, c_old, c_new, c_dash, c_x, List.length_append, List.length_cons, List.length_nil]; omega), ndL (by simp only [tl_add, tl_emp, c_top, c_old, c_new, c_dash, c_x, List.length_append, List.length_cons, List.length_nil]; omega), ndI h.2 (by simp only [tl_add, tl_emp, c_top, c_old, c_new, c_dash, c_x, List.length_append, List.length_cons, List.length_nil]; omega)]
      exact congrArg Pr.ok (ext_t (by simp only [pT, oldT, if_neg e, tl_add, tl_emp, List.nil_append, List.append_assoc]))
  | opn a =>
    have h1 := ln h
    rw [if_neg (by simp [Pc.isTop]), if_neg (by simp [Pc.isNew]), show Pc.f2 (.opn a) = Pr.ok none from rfl, show Pc.f1 (.opn a) = a from rfl]
    simp only [Pr.ok_bind, Option.isNone_none, if_true]
    rw [ndL (by simp only [tl_add, tl_emp, c_top, c_old, c_new, c_dash, c_x, List.length_append, List.length_cons, List.length_nil]; omega), ndI h (by simp only [tl_add, tl_emp, c_top, c_old, c_new, c_dash, c_x, List.length_append, List.length_cons, List.length_nil]; omega), ndL (by simp only [tl_add, tl_emp, c_top, c_old, c_new, c_dash, c_x, List.length_append, List.length_cons, List.length_nil]; omega)]
    exact congrArg Pr.ok (ext_t (by simp only [pT, tl_add, tl_emp, List.nil_append]))
  | new a b n =>
    have h1 := ln h.1
    have h2 := ln h.2.1
    have h3 := ln h.2.2
    rw [if_neg (by simp [Pc.isTop]), if_pos (show (Pc.new a b n).isNew = true from rfl), show Pc.f2 (.new a b n) = Pr.ok (some b) from rfl, show Pc.f1 (.new a b n) = a from rfl, show Pc.f3 (.new a b n) = Pr.ok n from rfl]
    simp only [Pr.ok_bind, castI]
    rw [ndL (by simp only [tl_add, tl_emp, c_top, c_old, c_new, c_dash, c_x, List.length_append, List.length_cons, List.length_nil]; omega), ndI h.1 (by simp only [tl_add, tl_emp, c_top, c_old, c_new, c_dash, c_x, List.length_append, List.length_cons, List.length_nil]; omega), ndL (by simp only [tl_add, tl_emp, c_top, c_old, c_new, c_dash, c_x, List.length_append, List.length_cons, List.length_nil]; omega), ndI h.2.1 (by simp only [tl_add, tl_emp, c_top, c_old, c_new, c_dash, c_x, List.length_append, List.length_cons, List.length_nil]; omega), ndL (by simp only [tl_add, tl_emp, c_top, c_old, c_new, c_dash, c_x, List.length_append, List.length_cons, List.length_nil]; omega), ndI h.2.2 (by simp only [tl_add, tl_emp, c_top, c_old, c_new, c_dash, c_x, List.length_append, List.length_cons, List.length_nil]; omega)]
    exact congrArg Pr.ok (ext_t (by simp only [pT, tl_add, tl_emp, List.nil_append]))
def lT (ps : List Pc) : Str := Txt.join ("; " : Str) (ps.map pT)
theorem sum_le : ∀ {ps : List Pc}, (∀ p ∈ ps, goodP p) → ((ps.map pT).map (·.length)).sum ≤ 62 * ps.length
  | [], _ => by simp
  | p :: ps, h => by
    have h1 := len_pT (h p (by simp))
    have h2 := sum_le fun q hq => h q (List.mem_cons_of_mem p hq)
    simp only [List.map_cons, List.sum_cons, List.length_cons]
    rw [len_t]
    omega
theorem join_ok {ps : List Pc} (h : ∀ p ∈ ps, goodP p) (hn : ps.length ≤ 100) : joiOk ("; " : Str) (ps.map pT) := by
  unfold joiOk
  have h1 := sum_le h
  rw [List.length_map, show ("; " : Str).length = 2 from by decide +kernel]
  omega
theorem filter_y {α : Type} (l : List α) : (l.filter fun _ => true) = l := List.filter_eq_self.mpr fun _ _ => rfl
theorem texts_t {ps : List Pc} (h : ∀ p ∈ ps, goodP p) (f : Pc → Pr Str) (hf : ∀ p, goodP p → f p = Pr.ok (pT p)) : Pr.lcM ps (fun _ => (Pr.ok true)) f = Pr.ok (ps.map pT) := by
  rw [lcM_ok (cb := fun _ => true) (gv := pT) ps fun p hp => ⟨rfl, hf p (h p hp)⟩, filter_y]
theorem llt_t {ps : List Pc} (h : ∀ p ∈ ps, goodP p) (hn : ps.length ≤ 100) : t__law_layout_text ps = Pr.ok (lT ps) := by
  unfold t__law_layout_text
  rw [texts_t h (fun x3 => t__law_piece_text x3) fun p hp => lpt_t hp, need_t (by omega), Pr.ok_bind, need_t (join_ok h hn)]
  rfl
theorem str_t {L : Lay} (h : ∀ p ∈ L.parts, goodP p) (hn : L.parts.length ≤ 100) : t_Layout___str__ L = Pr.ok (lT L.parts) := by
  unfold t_Layout___str__
  rw [Pr.ok_bind, texts_t h (fun x3 => t_piece_text x3) fun p hp => ppt_t hp, need_t (by omega), Pr.ok_bind, need_t (join_ok h hn)]
  rfl
end
section
set_option Elab.async false
set_option linter.all false
set_option maxRecDepth 100000
set_option maxHeartbeats 2000000
theorem split2 {a b t : Str} (ha : 32 ∉ tl a) (hb : 32 ∉ tl b) (e : tl t = tl a ++ 32 :: tl b) : Txt.split t (" " : Str) = [a, b] := by
  have h : t = Txt.join (" " : Str) [a, b] := ext_t (by
    rw [e, _root_.TL.join_eq]
    show _ = _root_.TL.tl (Str.join (" " : Str) [a, b])
    rw [_root_.TL.tl_join, show _root_.TL.tl (" " : Str) = [32] from tl_sp]
    rfl)
  rw [h]
  exact _root_.TL.split_join (s := 32) (S := []) tl_sp (by decide +kernel) (by simp) fun p hp => by
    simp only [List.mem_cons, List.not_mem_nil, or_false] at hp
    rcases hp with rfl | rfl
    · exact ha
    · exact hb
theorem split3 {a b c t : Str} (ha : 32 ∉ tl a) (hb : 32 ∉ tl b) (hc : 32 ∉ tl c) (e : tl t = tl a ++ 32 :: (tl b ++ 32 :: tl c)) : Txt.split t (" " : Str) = [a, b, c] := by
  have h : t = Txt.join (" " : Str) [a, b, c] := ext_t (by
    rw [e, _root_.TL.join_eq]
    show _ = _root_.TL.tl (Str.join (" " : Str) [a, b, c])
    rw [_root_.TL.tl_join, show _root_.TL.tl (" " : Str) = [32] from tl_sp]
    rfl)
  rw [h]
  exact _root_.TL.split_join (s := 32) (S := []) tl_sp (by decide +kernel) (by simp) fun p hp => by
    simp only [List.mem_cons, List.not_mem_nil, or_false] at hp
    rcases hp with rfl | rfl | rfl
    · exact ha
    · exact hb
    · exact hc
theorem w_top : tl ("top" : Str) = [116, 111, 112] := by decide +kernel
theorem w_old : tl ("old" : Str) = [111, 108, 100] := by decide +kernel
theorem w_new : tl ("new" : Str) = [110, 101, 119] := by decide +kernel
theorem part_ok {x : Str} (h : (tl x).length ≤ 1000) : partC x ("-" : Str) := ⟨by decide +kernel, by rw [len_t]; omega⟩
theorem f32 {i : Int} (h : G18 i) : 32 ∉ tl (strI i) := free_num h (.inl (by decide))
theorem f45 {i : Int} (h : G18 i) : 45 ∉ tl (strI i) := free_num h (.inl (by decide))
theorem castT (n : Int) : cast (α := (Str × (Option Int))) (β := (Option Pc)) ((("top" : Str), some n) : (Str × (Option Int))) = Pr.ok (some (.top n)) := cast_ok rfl
theorem castOO (a b : Int) : cast (α := (T3 Str (Option Int) (Option Int))) (β := (Option Pc)) ((T3.mk ("old" : Str) (some a) (some b)) : (T3 Str (Option Int) (Option Int))) = Pr.ok (some (.old a b)) := cast_ok rfl
theorem castON (a : Int) : cast (α := (T3 Str (Option Int) Unit)) (β := (Option Pc)) ((T3.mk ("old" : Str) (some a) ()) : (T3 Str (Option Int) Unit)) = Pr.ok (some (.opn a)) := cast_ok rfl
theorem rtop_t {n : Int} (h : G18 n) : t_read_top (strI n) = Pr.ok (some (.top n)) := by
  unfold t_read_top
  rw [read_num h, Pr.ok_bind, Option.isNone_some, if_neg (by simp), castT]
theorem emp_e : ((Str.empty : Str) = ("" : Str)) := rfl
theorem dash_ne : ¬ (("-" : Str) = ("" : Str)) := by decide +kernel
theorem num_ne {i : Int} (h : G18 i) : ¬ (strI i = ("" : Str)) := fun e => by
  have h1 := tl_strI h.1
  rw [e] at h1
  exact _root_.TL.numL_ne i.toNat (h1.symm.trans rfl)
theorem rold1 {a : Int} (h : G18 a) : t_read_old (strI a) = Pr.ok (some (.old a a)) := by
  have h1 := ln h
  unfold t_read_old
  rw [need_t (part_ok (by omega)), Pr.ok_bind, _root_.TL.partition_none (s := 45) (S := []) c_dash (f45 h)]
  show ((t_read_number (strI a)).bind _) = _
  rw [read_num h, Pr.ok_bind, Option.isNone_some, if_neg (by simp)]
  show (if decide ((Str.empty : Str) = ("" : Str)) = true then _ else _) = _
  rw [decide_eq_true emp_e, if_pos rfl, castOO]
theorem rold2 {a : Int} (h : G18 a) : t_read_old (strI a ++ ("-" : Str)) = Pr.ok (some (.opn a)) := by
  have h1 := ln h
  unfold t_read_old
  have e := _root_.TL.partition_app (y := ("-" : Str)) (s := 45) (S := []) c_dash (a := strI a) (b := ("" : Str)) (f45 h)
  rw [emp_eq] at e
  rw [need_t (part_ok (by simp only [tl_add, tl_emp, c_top, c_old, c_new, c_dash, c_x, List.length_append, List.length_cons, List.length_nil]; omega)), Pr.ok_bind, e]
  show ((t_read_number (strI a)).bind _) = _
  rw [read_num h, Pr.ok_bind, Option.isNone_some, if_neg (by simp)]
  show (if decide (("-" : Str) = ("" : Str)) = true then _ else (if decide (("" : Str) = ("" : Str)) = true then _ else _)) = _
  rw [decide_eq_false dash_ne, if_neg (by simp), decide_eq_true rfl, if_pos rfl, castON]
theorem rold3 {a b : Int} (h : G18 a) (g : G18 b) (ne : ¬ a = b) : t_read_old (strI a ++ (("-" : Str) ++ strI b)) = Pr.ok (some (.old a b)) := by
  have h1 := ln h
  have h2 := ln g
  unfold t_read_old
  have e := _root_.TL.partition_app (y := ("-" : Str)) (s := 45) (S := []) c_dash (a := strI a) (b := strI b) (f45 h)
  rw [show strI a ++ ("-" : Str) ++ strI b = strI a ++ (("-" : Str) ++ strI b) from ext_t (by simp only [tl_add, List.append_assoc])] at e
  rw [need_t (part_ok (by simp only [tl_add, tl_emp, c_top, c_old, c_new, c_dash, c_x, List.length_append, List.length_cons, List.length_nil]; omega)), Pr.ok_bind, e]
  show ((t_read_number (strI a)).bind _) = _
  rw [read_num h, Pr.ok_bind, Option.isNone_some, if_neg (by simp)]
  show (if decide (("-" : Str) = ("" : Str)) = true then _ else (if decide (strI b = ("" : Str)) = true then _ else (t_read_number (strI b)).bind _)) = _
  rw [decide_eq_false dash_ne, if_neg (by simp), decide_eq_false (num_ne g), if_neg (by simp), read_num g, Pr.ok_bind, Option.isNone_some, decide_eq_false (fun z => ne (Option.some.inj z).symm), if_neg (by simp), castOO]
end
section
set_option Elab.async false
set_option linter.all false
set_option maxRecDepth 100000
set_option maxHeartbeats 2000000
theorem x_t : tl ("x" : Str) = [120] := by decide +kernel
theorem times_form (n : Int) : ("x" : Str) ++ strI n = SX.S ([120] ++ tl (strI n)) := by
  rw [← x_t, ← tl_add]
theorem cut_from (n : Int) : cutS (("x" : Str) ++ strI n) (some (1 : Int)) none = strI n := by
  rw [C8.cutS_slice, times_form, SX.from_app [120] (tl (strI n)) (i := 1) rfl]
theorem cut_to (n : Int) : cutS (("x" : Str) ++ strI n) none (some (1 : Int)) = ("x" : Str) := by
  rw [C8.cutS_slice, times_form, SX.to_app [120] (tl (strI n)) (i := 1) rfl, ← x_t]
theorem shape3 (a b n : Int) : SeqAt.shaped (.tuple [.int a, .int b, .int n]) = true := by
  unfold SeqAt.shaped
  simp [PyData.canLay0, PyData.canLayAll0, PyData.depth, PyData.depthAll]
theorem shape0 : SeqAt.shaped .none = true := by decide +kernel
theorem no_none (a b n : Int) : op2 (α := (Option Int)) (β := (T3 (Option Int) (Option Int) (Option Int))) (γ := Bool) (gIn false) (none : Option Int) (T3.mk (some a) (some b) (some n)) = Pr.ok false := op2_ok fun M => by
  show gIn false .non (.tup [.int a, .int b, .int n]) M = some (.bl false, M)
  unfold gIn inD
  rw [show pyM .non M = some .none from rfl, show pyM (.tup [.int a, .int b, .int n]) M = some (.tuple [.int a, .int b, .int n]) from rfl]
  simp only [shape3, shape0, Bool.and_self, if_true]
  simp [anyD, PyData.eqv]
theorem new_cat (a b n : Int) : op2 (α := Da) (β := (T3 (Option Int) (Option Int) (Option Int))) (γ := (Option Pc)) gAdd (tup1 ("new" : Str)) (T3.mk (some a) (some b) (some n)) = Pr.ok (some (.new a b n)) := op2_ok fun M => by
  show gAdd (.tup [.str "new"]) (.tup [.int a, .int b, .int n]) M = some (.tup [.str "new", .int a, .int b, .int n], M)
  rfl
theorem rnew_t {a b n : Int} (h : G18 a) (g : G18 b) (k : G18 n) : t_read_new (strI a ++ (("-" : Str) ++ strI b)) (("x" : Str) ++ strI n) = Pr.ok (some (.new a b n)) := by
  have h1 := ln h
  have h2 := ln g
  have h3 := ln k
  unfold t_read_new
  have e := _root_.TL.partition_app (y := ("-" : Str)) (s := 45) (S := []) c_dash (a := strI a) (b := strI b) (f45 h)
  rw [show strI a ++ ("-" : Str) ++ strI b = strI a ++ (("-" : Str) ++ strI b) from ext_t (by simp only [tl_add, List.append_assoc])] at e
  have l1 : (tl (("x" : Str) ++ strI n)).length ≤ 1000 := by simp only [tl_add, x_t, List.length_append, List.length_cons, List.length_nil]; omega
  rw [need_t (part_ok (by simp only [tl_add, tl_emp, c_top, c_old, c_new, c_dash, c_x, List.length_append, List.length_cons, List.length_nil]; omega)), Pr.ok_bind, e]
  show (((t_read_number (strI a)).bind fun (a17 : (Option Int)) => ((t_read_number (strI b)).bind _)).bind _) = _
  rw [read_num h, Pr.ok_bind, read_num g, Pr.ok_bind, ndL l1, cut_from, Pr.ok_bind, read_num k, Pr.ok_bind, Pr.ok_bind]
  rw [ndL l1, cut_to, Pr.ok_bind, decide_eq_true rfl, Bool.not_true, Pr.ok_bind, if_neg (by simp), no_none, Pr.ok_bind, if_neg (by simp), new_cat]
theorem spl_ok {x : Str} (h : (tl x).length ≤ 1000) : splOk x (" " : Str) := ⟨by decide +kernel, by rw [len_t]; omega⟩
theorem top_ne : ¬ (("old" : Str) = ("top" : Str)) := by decide +kernel
theorem top_ne2 : ¬ (("new" : Str) = ("top" : Str)) := by decide +kernel
theorem old_ne : ¬ (("new" : Str) = ("old" : Str)) := by decide +kernel
theorem idx2 {α : Type} (a b : α) : idx [a, b] (0 : Int) = Pr.ok a ∧ idx [a, b] (1 : Int) = Pr.ok b := ⟨idx_nat (l := [a, b]) (i := 0) (by simp), idx_nat (l := [a, b]) (i := 1) (by simp)⟩
theorem idx1 {α : Type} (a : α) : idx [a] (0 : Int) = Pr.ok a := idx_nat (l := [a]) (i := 0) (by simp)
theorem rp_old {y : Str} (hy : 32 ∉ tl y) (hl : (tl y).length ≤ 500) {r : Option Pc} (h : t_read_old y = Pr.ok r) : t_read_piece (("old " : Str) ++ y) = Pr.ok r := by
  unfold t_read_piece
  rw [need_t (spl_ok (by rw [tl_add, c_old]; simp only [List.length_append, List.length_cons, List.length_nil]; omega)), split2 (a := ("old" : Str)) (b := y) (by rw [w_old]; decide) hy (by rw [tl_add, c_old, w_old]; rfl), Pr.ok_bind]
  show ((Pr.ok ((("old" : Str), [y]) : Str × List Str)).bind _) = _
  rw [Pr.ok_bind]
  show (if (decide (("old" : Str) = ("top" : Str)) && _) = true then _ else (if (decide (("old" : Str) = ("old" : Str)) && decide (((1 : Nat) : Int) = (1 : Int))) = true then ((idx [y] (0 : Int)).bind _) else _)) = _
  rw [decide_eq_false top_ne, Bool.false_and, if_neg (by simp), decide_eq_true rfl, if_pos (by decide), idx1, Pr.ok_bind, h]
theorem rp_t {p : Pc} (h : goodP p) : t_read_piece (pT p) = Pr.ok (some p) := by
  cases p with
  | top n =>
    have h1 := ln h
    show t_read_piece (("top " : Str) ++ strI n) = _
    unfold t_read_piece
    rw [need_t (spl_ok (by simp only [tl_add, tl_emp, c_top, c_old, c_new, c_dash, c_x, List.length_append, List.length_cons, List.length_nil]; omega)), split2 (a := ("top" : Str)) (b := strI n) (by rw [w_top]; decide) (f32 h) (by rw [tl_add, c_top, w_top]; rfl), Pr.ok_bind]
    show ((Pr.ok ((("top" : Str), [strI n]) : Str × List Str)).bind _) = _
    rw [Pr.ok_bind]
    show (if (decide (("top" : Str) = ("top" : Str)) && decide (((1 : Nat) : Int) = (1 : Int))) = true then ((idx [strI n] (0 : Int)).bind _) else _) = _
    rw [decide_eq_true rfl, if_pos (by decide), idx1, Pr.ok_bind, rtop_t h]
  | old a b =>
    have h1 := ln h.1
    have h2 := ln h.2
    show t_read_piece (oldT a b) = _
    unfold oldT
    by_cases e : a = b
    · subst e
      rw [if_pos rfl]
      exact rp_old (f32 h.1) (by omega) (rold1 h.1)
    · rw [if_neg e, show ("old " : Str) ++ strI a ++ (("-" : Str) ++ strI b) = ("old " : Str) ++ (strI a ++ (("-" : Str) ++ strI b)) from ext_t (by simp only [tl_add, List.append_assoc])]
      exact rp_old (by simp only [tl_add, c_dash, List.mem_append]; simp [f32 h.1, f32 h.2]) (by simp only [tl_add, tl_emp, c_top, c_old, c_new, c_dash, c_x, List.length_append, List.length_cons, List.length_nil]; omega) (rold3 h.1 h.2 e)
  | opn a =>
    have h1 := ln h
    show t_read_piece (("old " : Str) ++ strI a ++ ("-" : Str)) = _
    rw [show ("old " : Str) ++ strI a ++ ("-" : Str) = ("old " : Str) ++ (strI a ++ ("-" : Str)) from ext_t (by simp only [tl_add, List.append_assoc])]
    exact rp_old (by simp only [tl_add, c_dash, List.mem_append]; simp [f32 h]) (by simp only [tl_add, tl_emp, c_top, c_old, c_new, c_dash, c_x, List.length_append, List.length_cons, List.length_nil]; omega) (rold2 h)
  | new a b n =>
    have h1 := ln h.1
    have h2 := ln h.2.1
    have h3 := ln h.2.2
    show t_read_piece (("new " : Str) ++ strI a ++ ("-" : Str) ++ strI b ++ (" x" : Str) ++ strI n) = _
    unfold t_read_piece
    rw [need_t (spl_ok (by simp only [tl_add, tl_emp, c_top, c_old, c_new, c_dash, c_x, List.length_append, List.length_cons, List.length_nil]; omega)), split3 (a := ("new" : Str)) (b := strI a ++ (("-" : Str) ++ strI b)) (c := ("x" : Str) ++ strI n) (by rw [w_new]; decide) (by simp only [tl_add, c_dash, List.mem_append]; simp [f32 h.1, f32 h.2.1]) (by simp only [tl_add, x_t, List.mem_append]; simp [f32 h.2.2]) (by
      simp only [tl_add, c_new, c_dash, c_x, w_new, x_t]
      simp), Pr.ok_bind]
    show ((Pr.ok ((("new" : Str), [strI a ++ (("-" : Str) ++ strI b), ("x" : Str) ++ strI n]) : Str × List Str)).bind _) = _
    rw [Pr.ok_bind]
    show (if (decide (("new" : Str) = ("top" : Str)) && _) = true then _ else (if (decide (("new" : Str) = ("old" : Str)) && _) = true then _ else (if (decide (("new" : Str) = ("new" : Str)) && decide (((2 : Nat) : Int) = (2 : Int))) = true then ((idx [_, _] (0 : Int)).bind _) else _))) = _
    rw [decide_eq_false top_ne2, Bool.false_and, if_neg (by simp), decide_eq_false old_ne, Bool.false_and, if_neg (by simp), decide_eq_true rfl, if_pos (by decide), (idx2 _ _).1, Pr.ok_bind, (idx2 _ _).2, Pr.ok_bind, rnew_t h.1 h.2.1 h.2.2]
end
section
set_option Elab.async false
set_option linter.all false
set_option maxRecDepth 100000
set_option maxHeartbeats 2000000
theorem joinL_len (S : List Nat) : ∀ l : List (List Nat), (_root_.TL.joinL S l).length ≤ (l.map List.length).sum + S.length * l.length
  | [] => by simp [_root_.TL.joinL]
  | [p] => by simp [_root_.TL.joinL]
  | p :: q :: r => by
    have h := joinL_len S (q :: r)
    show (p ++ (S ++ _root_.TL.joinL S (q :: r))).length ≤ _
    simp only [List.length_append, List.map_cons, List.sum_cons, List.length_cons] at h ⊢
    simp only [Nat.mul_add] at h ⊢
    omega
theorem sumL_le : ∀ {ps : List Pc}, (∀ p ∈ ps, goodP p) → (((ps.map pT).map tl).map List.length).sum ≤ 62 * ps.length
  | [], _ => by simp
  | p :: ps, h => by
    have h1 := len_pT (h p (by simp))
    have h2 := sumL_le fun q hq => h q (List.mem_cons_of_mem p hq)
    simp only [List.map_cons, List.sum_cons, List.length_cons]
    omega
theorem lT_len {ps : List Pc} (h : ∀ p ∈ ps, goodP p) : (tl (lT ps)).length ≤ 64 * ps.length := by
  unfold lT
  rw [_root_.TL.join_eq, show tl (Str.join ("; " : Str) (ps.map pT)) = _root_.TL.joinL (tl ("; " : Str)) ((ps.map pT).map tl) from _root_.TL.tl_join _ _]
  have h1 := joinL_len (tl ("; " : Str)) ((ps.map pT).map tl)
  have h2 := sumL_le h
  rw [c_semi] at h1 ⊢
  simp only [List.length_map, List.length_cons, List.length_nil] at h1
  omega
theorem lT_split {ps : List Pc} (h : ∀ p ∈ ps, goodP p) (hne : ps ≠ []) : Txt.split (lT ps) ("; " : Str) = ps.map pT :=
  _root_.TL.split_join (s := 59) (S := [32]) c_semi (by decide +kernel) (fun e => hne (List.map_eq_nil_iff.mp e)) fun x hx => by
    obtain ⟨p, hp, rfl⟩ := List.mem_map.mp hx
    exact free_pT (h p hp)
theorem lcM_read : ∀ {ps : List Pc}, (∀ p ∈ ps, goodP p) → Pr.lcM (ps.map pT) (fun _ => (Pr.ok true)) (fun (x3 : Str) => (t_read_piece x3)) = Pr.ok (ps.map some)
  | [], _ => rfl
  | p :: ps, h => by
    have ih := lcM_read fun q hq => h q (List.mem_cons_of_mem p hq)
    show (Pr.ok true).bind _ = _
    rw [Pr.ok_bind, if_pos rfl]
    show (t_read_piece (pT p)).bind _ = _
    rw [rp_t (h p (by simp)), Pr.ok_bind, ih, Pr.ok_bind]
    rfl
theorem cast_ps (ps : List Pc) : cast (α := (List (Option Pc))) (β := (Sq Pc)) (ps.map some) = Pr.ok (Sq.mk false ps) := cast_ok (by
  show D.lst ((ps.map some).map en) = D.lst (ps.map en)
  rw [List.map_map]
  rfl)
theorem pc_ne (p : Pc) : op2 (α := Pc) (β := (Option Pc)) (γ := Bool) (gEq true) p (some p) = Pr.ok false := op2_ok fun M => by
  show gEq true (en p) (en p) M = some (.bl false, M)
  rw [gneT p p M, decide_eq_true rfl]
  rfl
theorem loop_t (ws : List (Option Pc)) (f : (Int × Pc) → Unit → Pr Unit) (hf : ∀ (k : Nat) (p : Pc), ws[k]? = some (some p) → f ((k : Int), p) () = Pr.ok ()) : ∀ (r : List Pc) (k : Nat), (∀ j p, r[j]? = some p → ws[k + j]? = some (some p)) → Pr.forM (enumI k r) () f = Pr.ok ()
  | [], _, _ => rfl
  | p :: r, k, h => by
    show (f ((k : Int), p) ()).bind _ = _
    rw [hf k p (by simpa using h 0 p rfl), Pr.ok_bind]
    exact loop_t ws f hf r (k + 1) fun j q e => by
      have := h (j + 1) q (by simpa using e)
      rwa [show k + (j + 1) = k + 1 + j from by omega] at this
theorem read_lay {ps : List Pc} (h : ∀ p ∈ ps, goodP p) (hv : valid ps) (hn : nf ps = ps) (hne : ps ≠ []) (hl : ps.length ≤ 60) : t_Layout_read (lT ps) = Pr.ok (mkLay ps) := by
  have hT := lT_len h
  unfold t_Layout_read
  rw [need_t (show splOk (lT ps) ("; " : Str) from ⟨by decide +kernel, by rw [len_t]; omega⟩), Pr.ok_bind, lT_split h hne, need_t (by rw [List.length_map]; omega), lcM_read h, Pr.ok_bind]
  rw [show (if false then !inT (none : (Option Pc)) (ps.map some) else inT (none : (Option Pc)) (ps.map some)) = false from by simp [inT], if_neg (by simp), cast_ps, Pr.ok_bind]
  rw [(Layout_t (q := Sq.mk false ps) hv hl).1, Pr.ok_bind]
  show ((((t_Layout_pieces (mkLay (nf ps))).bind _).bind _).bind _) = _
  rw [hn, show t_Layout_pieces (mkLay ps) = Pr.ok ps from rfl, Pr.ok_bind, lim_ok (by omega), Pr.ok_bind, Pr.ok_bind]
  rw [loop_t (ps.map some) _ (fun k p hk => ?_) ps 0 (fun j p e => by rw [Nat.zero_add, List.getElem?_map, e]; rfl), Pr.ok_bind]
  have hlt : k < (ps.map some).length := (List.getElem?_eq_some_iff.mp hk).1
  have hg : (ps.map some)[k] = some p := (List.getElem?_eq_some_iff.mp hk).2
  show ((((idx (ps.map some) (k : Int)).bind _).bind _)) = _
  rw [idx_nat (l := ps.map some) (i := k) hlt, Pr.ok_bind, hg, pc_ne, Pr.ok_bind, if_neg (by simp)]
end
section
set_option Elab.async false
set_option linter.all false
set_option maxRecDepth 100000
set_option maxHeartbeats 1000000
def blk (i n : Nat) : List Rw := (List.range n).map fun j => some (((i + j : Nat) : Int), ((i + j : Nat) : Int))
theorem last_map {α β : Type} (f : α → β) (l : List α) (a : α) : ((l ++ [a]).map f).getLast? = some (f a) := by simp
theorem blk_succ (i n : Nat) : blk i (n + 1) = blk i n ++ [some (((i + n : Nat) : Int), ((i + n : Nat) : Int))] := by
  unfold blk
  rw [List.range_succ, List.map_append]
  rfl
theorem pc_old (x : Int) : pcOf (some (x, x)) = .old x x := if_pos rfl
theorem blk_last (i n : Nat) : ((blk i (n + 1)).map pcOf).getLast? = some (.old ((i + n : Nat) : Int) ((i + n : Nat) : Int)) := by
  rw [blk_succ, last_map, pc_old]
theorem blk_ok (i : Nat) : ∀ n, okp ((blk i n).map pcOf)
  | 0 => okp_nil
  | 1 => by
    rw [blk_succ, List.map_append]
    exact okp_snoc (l := []) okp_nil (by rw [pc_old]; simp only [pok]; omega) fun x hx => (by cases hx)
  | n + 2 => by
    have := blk_ok i (n + 1)
    rw [blk_succ, List.map_append]
    refine okp_snoc this (by rw [pc_old]; simp only [pok]; omega) fun x hx => ?_
    rw [blk_last] at hx
    cases hx
    rw [pc_old]
    simp only [mf, decide_eq_true_eq]
    omega
theorem blk_head (i n : Nat) : ((blk i (n + 1)).map pcOf).head? = some (.old (i : Nat) (i : Nat)) := by
  unfold blk
  rw [List.range_succ_eq_map]
  simp only [List.map_cons, List.head?_cons]
  rw [pc_old]
  rfl
theorem rep_ok {p : Pc} (hp : pok p) (hm : mf p p = true) : ∀ n, okp (List.replicate n p)
  | 0 => okp_nil
  | n + 1 => by
    rw [List.replicate_succ']
    refine okp_snoc (rep_ok hp hm n) hp fun x hx => ?_
    have := List.mem_of_getLast? hx
    rw [List.mem_replicate] at this
    rw [this.2]; exact hm
theorem nfS_oldL (A : List Pc) (f : Int) : ∃ acc a, nfS A (.old f f) = acc ++ [.old a f] ∧ acc.length ≤ A.length := by
  cases h : A.getLast? with
  | none =>
    have : A = [] := List.getLast?_eq_none_iff.mp h
    subst this
    exact ⟨[], f, rfl, by simp⟩
  | some l =>
    obtain ⟨m, rfl⟩ := snoc_of h
    cases hj : jn l (.old f f) with
    | none => exact ⟨m ++ [l], f, nfS_none fun x hx => by rw [h] at hx; cases hx; exact hj, by simp⟩
    | some r =>
      refine ⟨m, ?_⟩
      cases l <;> simp only [jn] at hj <;> (try (cases hj; done))
      split at hj
      · cases hj
        rename_i q; exact ⟨_, nfS_some (by simp only [jn]; rw [if_pos q]), by simp⟩
      · cases hj
theorem nfS_newL (A : List Pc) (a b : Int) (n : Int) : ∃ acc k, nfS A (.new a b n) = acc ++ [.new a b k] ∧ acc.length ≤ A.length := by
  cases h : A.getLast? with
  | none =>
    have : A = [] := List.getLast?_eq_none_iff.mp h
    subst this
    exact ⟨[], n, rfl, by simp⟩
  | some l =>
    obtain ⟨m, rfl⟩ := snoc_of h
    cases hj : jn l (.new a b n) with
    | none => exact ⟨m ++ [l], n, nfS_none fun x hx => by rw [h] at hx; cases hx; exact hj, by simp⟩
    | some r =>
      refine ⟨m, ?_⟩
      cases l <;> simp only [jn] at hj <;> (try (cases hj; done))
      split at hj
      · rename_i q
        cases hj
        obtain ⟨rfl, rfl⟩ := q
        exact ⟨_, nfS_some (if_pos ⟨rfl, rfl⟩), by simp⟩
      · cases hj
theorem blk_run (A : List Pc) (f : Nat) : ∀ n, ∃ acc a, ((blk f (n + 1)).map pcOf).foldl nfS A = acc ++ [.old a ((f + n : Nat) : Int)] ∧ acc.length ≤ A.length
  | 0 => by
    obtain ⟨acc, a, e, h⟩ := nfS_oldL A (f : Int)
    refine ⟨acc, a, ?_, h⟩
    rw [blk_succ]
    show List.foldl nfS A ([pcOf (some (((f + 0 : Nat) : Int), ((f + 0 : Nat) : Int)))]) = _
    rw [pc_old]
    exact e
  | n + 1 => by
    obtain ⟨acc, a, e, h⟩ := blk_run A f n
    refine ⟨acc, a, ?_, h⟩
    rw [blk_succ f (n + 1), List.map_append, List.foldl_append, e]
    show nfS _ (pcOf (some _)) = _
    rw [pc_old]
    exact nfS_some (by simp only [jn]; rw [if_pos (by omega)])
theorem rep_run (A : List Pc) (a b : Int) : ∀ n, ∃ acc k, (List.replicate (n + 1) (Pc.new a b 1)).foldl nfS A = acc ++ [.new a b k] ∧ acc.length ≤ A.length
  | 0 => by
    obtain ⟨acc, k, e, h⟩ := nfS_newL A a b 1
    exact ⟨acc, k, e, h⟩
  | n + 1 => by
    obtain ⟨acc, k, e, h⟩ := rep_run A a b n
    refine ⟨acc, k + 1, ?_, h⟩
    rw [List.replicate_succ', List.foldl_append, e]
    exact nfS_some (by simp [jn])
theorem rep_top : ∀ n, (nf (List.replicate n (Pc.top 1))).length ≤ 1
  | 0 => by simp [nf]
  | 1 => by simp [nf, nfS]
  | n + 2 => by
    have : ∀ n, ∃ k, nf (List.replicate (n + 1) (Pc.top 1)) = [.top k] := by
      intro n
      induction n with
      | zero => exact ⟨1, rfl⟩
      | succ n ih =>
        obtain ⟨k, e⟩ := ih
        refine ⟨k + 1, ?_⟩
        unfold nf at e ⊢
        rw [List.replicate_succ', List.foldl_append, e]
        exact nfS_some (acc := []) (l := .top k) (q := .top 1) rfl
    obtain ⟨k, e⟩ := this (n + 1)
    rw [e]
    simp
/-- the last label is not beyond the numbers that are kept -/
def bnd (low high last : Int) : Pc → Prop
  | .top _ => True
  | .old _ b => b ≤ low ∧ b ≤ high ∧ b ≤ last
  | .opn _ => False
  | .new a b _ => a ≤ low ∧ b ≤ high
structure ArR (i : Nat) (rows : List Rw) (low high last : Int) : Prop where
  ok : okp (rows.map pcOf)
  bd : ∀ x, (rows.map pcOf).getLast? = some x → bnd low high last x
  l0 : 0 ≤ low
  h0 : 0 ≤ high
  a0 : -1 ≤ last
  l1 : low ≤ 10 * i
  h1 : high ≤ 10 * i
  a1 : last ≤ 10 * i
  len : rows.length ≤ 3 + 3 * i
  np : (nf (rows.map pcOf)).length ≤ 1 + i
theorem ArR.old {i : Nat} {rows : List Rw} {low high last : Int} (h : ArR i rows low high last) (f g : Nat) (hf : low ≤ f ∧ high ≤ f ∧ last + 1 ≤ f ∧ (f : Int) ≤ 10 * i + 3) (hg : f ≤ g ∧ g ≤ f + 2) :
    ArR (i + 1) (rows ++ blk f (g + 1 - f)) g g g := by
  obtain ⟨n, hn⟩ : ∃ n, g = f + n := ⟨g - f, by omega⟩
  subst hn
  rw [show f + n + 1 - f = n + 1 by omega]
  have e := List.map_append (f := pcOf) (l₁ := rows) (l₂ := blk f (n + 1))
  have hlast : ((rows ++ blk f (n + 1)).map pcOf).getLast? = some (.old ((f + n : Nat) : Int) ((f + n : Nat) : Int)) := by
    rw [e, List.getLast?_append, blk_last]; rfl
  refine ⟨?_, fun x hx => ?_, by omega, by omega, by omega, by omega, by omega, by omega, ?_, ?_⟩
  rotate_left 3
  · obtain ⟨acc, a, e1, e2⟩ := blk_run (nf (rows.map pcOf)) f n
    have := h.np
    rw [e]
    unfold nf at e1 e2 ⊢
    rw [List.foldl_append, e1]
    unfold nf at this
    simp
    omega
  · rw [e]
    refine okp_app h.ok (blk_ok f _) fun x y hx hy => ?_
    rw [blk_head] at hy
    cases hy
    have hb := h.bd x hx
    cases x <;> simp only [bnd] at hb <;> simp only [mf, decide_eq_true_eq, Bool.and_eq_true] <;> omega
  · rw [hlast] at hx
    cases hx
    simp [bnd]
  · have := h.len
    unfold blk
    simp
    omega
theorem ArR.new {i : Nat} {rows : List Rw} {low high last : Int} (h : ArR i rows low high last) (a b : Int) (c : Nat) (ha : low ≤ a ∧ a ≤ low + 2) (hb : high ≤ b ∧ a < b ∧ b ≤ 10 * i + 6) (hc : 1 ≤ c ∧ c ≤ 3) :
    ArR (i + 1) (rows ++ List.replicate c (some (a, b))) a b last := by
  have hl1 := h.l1
  have hl0 := h.l0
  have hh0 := h.h0
  have ha0 := h.a0
  have ha1 := h.a1
  have ep : pcOf (some (a, b)) = .new a b 1 := if_neg (by omega)
  have hp : pok (.new a b 1) := by simp only [pok]; omega
  have hm : mf (.new a b 1) (.new a b 1) = true := by simp [mf]
  have e : (rows ++ List.replicate c (some (a, b))).map pcOf = rows.map pcOf ++ List.replicate c (.new a b 1) := by
    rw [List.map_append, List.map_replicate, ep]
  refine ⟨?_, fun x hx => ?_, by omega, by omega, by omega, by omega, by omega, by omega, ?_, ?_⟩
  rotate_left 3
  · obtain ⟨d, rfl⟩ : ∃ d, c = d + 1 := ⟨c - 1, by omega⟩
    obtain ⟨acc, k, e1, e2⟩ := rep_run (nf (rows.map pcOf)) a b d
    have := h.np
    rw [e]
    unfold nf at e1 e2 ⊢
    rw [List.foldl_append, e1]
    unfold nf at this
    simp
    omega
  · rw [e]
    refine okp_app h.ok (rep_ok hp hm c) fun x y hx hy => ?_
    have hy' := List.mem_of_mem_head? hy
    rw [List.mem_replicate] at hy'
    rw [hy'.2]
    have hb := h.bd x hx
    cases x <;> simp only [bnd] at hb <;> simp only [mf, decide_eq_true_eq, Bool.and_eq_true] <;> omega
  · obtain ⟨d, rfl⟩ : ∃ d, c = d + 1 := ⟨c - 1, by omega⟩
    rw [e, List.replicate_succ', ← List.append_assoc] at hx
    simp at hx
    subst hx
    simp [bnd]
  · have := h.len
    simp
    omega
theorem pr_mf {x y : Rw} (h : mf (pcOf x) (pcOf y) = true) : pr x y := by
  cases x with
  | none => trivial
  | some x =>
    obtain ⟨a, b⟩ := x
    cases y with
    | none =>
      unfold pcOf at h
      by_cases hc : a = b <;> simp [hc, mf] at h
    | some y =>
      obtain ⟨c, d⟩ := y
      unfold pcOf at h
      show a ≤ c ∧ b ≤ d ∧ (a = b → c = d → a < c)
      by_cases h1 : a = b <;> by_cases h2 : c = d <;> simp [h1, h2, mf] at h <;> omega
theorem okR_of {x : Rw} (h : pok (pcOf x)) : okR x := by
  cases x with
  | none => trivial
  | some x =>
    obtain ⟨a, b⟩ := x
    unfold pcOf at h
    show 0 ≤ a ∧ a ≤ b
    by_cases hc : a = b <;> simp [hc, pok] at h <;> omega
theorem rows_pw : ∀ rows : List Rw, okp (rows.map pcOf) → rows.Pairwise pr ∧ ∀ r ∈ rows, okR r
  | [], _ => ⟨.nil, fun _ h => by cases h⟩
  | x :: r, h => by
    have hr : okp (r.map pcOf) := ⟨fun p hp => h.1 p (by simp only [List.map_cons]; exact List.mem_cons_of_mem _ hp), h.2.2⟩
    obtain ⟨pw, ok⟩ := rows_pw r hr
    have hx : okR x := okR_of (h.1 _ (by simp))
    refine ⟨List.pairwise_cons.mpr ⟨fun y hy => ?_, pw⟩, fun y hy => ?_⟩
    · cases r with
      | nil => cases hy
      | cons y0 r' =>
        have h0 : pr x y0 := pr_mf (h.2.1 _ rfl)
        rcases List.mem_cons.mp hy with rfl | hy'
        · exact h0
        · exact pr_trans (ok y0 (by simp)) h0 ((List.pairwise_cons.mp pw).1 y hy')
    · rcases List.mem_cons.mp hy with rfl | hy'
      · exact hx
      · exact ok y hy'
end
section
set_option Elab.async false
set_option linter.all false
set_option maxRecDepth 100000
set_option maxHeartbeats 1000000
/-- rows that the laws draw -/
structure RowsOk (rows : List Rw) (c : Int) : Prop where
  ok : okp (rows.map pcOf)
  last : rows.getLast? = some (some (c, c))
  len : rows.length ≤ 40
  nine : 9 ≤ rows.length
  lo : 8 ≤ c
  hi : c ≤ 1000
theorem blk_rng (f : Int) (n : Nat) (h : 0 ≤ f) : (rngI f n).map (fun x => (some (x, x) : Rw)) = blk f.toNat n := by
  unfold rngI blk
  rw [List.map_map]
  apply List.map_congr_left
  intro k _
  simp only [Function.comp]
  congr 2 <;> omega
theorem forM_any {α σ : Type} {b : α → σ → Pr σ} {E : Exn → Prop} (N : Nat) (I : Nat → σ → Prop) (hb : ∀ x n s (Q : σ → Prop), n < N → I n s → (∀ s', I (n + 1) s' → Q s') → b x s Q E) : ∀ (l : List α) (n : Nat) (s : σ) (Q : σ → Prop), n + l.length ≤ N → I n s → (∀ m s', m ≤ N → I m s' → Q s') → Pr.forM l s b Q E
  | [], n, s, Q, e, h, q => q n s (by simpa using e) h
  | x :: l, n, s, Q, e, h, q => by
    simp only [List.length_cons] at e
    refine hb x n s _ (by omega) h fun s' h' => ?_
    exact forM_any N I hb l (n + 1) s' Q (by omega) h' q
theorem mem4 {a b c d x : Int} (h : x ∈ [a, b, c, d]) : x = a ∨ x = b ∨ x = c ∨ x = d := by simpa using h
theorem bind_of {β : Type} {l : List Int} {k : Int → Pr β} {Q : β → Prop} {E : Exn → Prop} (h0 : l ≠ []) (h1 : l.length < 1073741824) (h : ∀ x ∈ l, k x Q E) : ((Pr.of l).bind k) Q E := ⟨h0, h1, h⟩
theorem bind_pull {β : Type} {n : Int} {k : Int → Pr β} {Q : β → Prop} {E : Exn → Prop} (h0 : 0 < n) (h1 : n < 1073741824) (h : ∀ v, 0 ≤ v → v < n → k v Q E) : ((Pr.pull n).bind k) Q E := ⟨h0, h1, h⟩
/-- the rows, and all old rows behind c -/
def extR (rows : List Rw) (c : Int) (k : Int) : Rw := if k < rows.length then (rows[k.toNat]?).getD none else some (c + 1 + (k - rows.length), c + 1 + (k - rows.length))
theorem pcOf_one (r : Rw) : isOpn (pcOf r) = false ∧ rc (pcOf r) = 1 ∧ labP (pcOf r) 0 = r := by
  cases r with
  | none => exact ⟨rfl, rfl, rfl⟩
  | some x =>
    obtain ⟨a, b⟩ := x
    by_cases h : a = b
    · subst h
      rw [pc_old]
      refine ⟨rfl, by show a - a + 1 = 1; omega, ?_⟩
      show some (a + 0, a + 0) = _
      congr 2 <;> omega
    · rw [show pcOf (some (a, b)) = .new a b 1 from if_neg h]
      exact ⟨rfl, rfl, rfl⟩
theorem lab_rows : ∀ (rows : List Rw) (rest : List Pc) (k : Int), 0 ≤ k → lab (rows.map pcOf ++ rest) k = if k < rows.length then (rows[k.toNat]?).getD none else lab rest (k - rows.length)
  | [], rest, k, hk => by
    rw [if_neg (by simp; omega)]
    simp
  | r :: rows, rest, k, hk => by
    obtain ⟨h1, h2, h3⟩ := pcOf_one r
    simp only [List.map_cons, List.cons_append, lab, h1, h2, Bool.false_eq_true, false_or, List.length_cons]
    by_cases h : k < 1
    · have e : k = 0 := by omega
      subst e
      rw [if_pos h, h3, if_pos (by omega)]
      rfl
    · rw [if_neg h, lab_rows rows rest (k - 1) (by omega)]
      by_cases h4 : k - 1 < rows.length
      · rw [if_pos h4, if_pos (by omega), show k.toNat = (k - 1).toNat + 1 by omega]
        rfl
      · rw [if_neg h4, if_neg (by omega)]
        congr 1
        omega
theorem RowsOk.cl {rows : List Rw} {c : Int} (h : RowsOk rows c) : Cl (rows.map pcOf) := fun p hp => by
  refine ⟨?_, h.ok.1 p hp⟩
  obtain ⟨r, _, rfl⟩ := List.mem_map.mp hp
  exact (pcOf_one r).1
end
section
set_option Elab.async false
set_option linter.all false
set_option maxRecDepth 100000
set_option maxHeartbeats 1000000
theorem nf_self : ∀ (qs acc : List Pc), adj jnN (acc ++ qs) → qs.foldl nfS acc = acc ++ qs
  | [], acc, _ => by simp
  | q :: qs, acc, h => by
    rw [List.foldl_cons, nfS_none (fun l hl => adj_mid acc q qs l h hl), nf_self qs (acc ++ [q]) (by simpa using h)]
    simp
end
section
set_option Elab.async false
set_option linter.all false
set_option maxRecDepth 100000
set_option maxHeartbeats 1000000
theorem pok_of {r : Rw} (h : okR r) : pok (pcOf r) := by
  cases r with
  | none => show (1 : Int) ≤ 1; decide
  | some x =>
    obtain ⟨a, b⟩ := x
    simp only [okR] at h
    show pok (if a = b then .old a a else .new a b 1)
    by_cases e : a = b
    · subst e
      rw [if_pos rfl]
      show 0 ≤ a ∧ a ≤ a
      omega
    · rw [if_neg e]
      show 0 ≤ a ∧ a < b ∧ (1 : Int) ≤ 1
      omega
theorem mf_pr {x y : Rw} (hx : okR x) (hy : okR y) (h : pr x y) : mf (pcOf x) (pcOf y) = true := by
  obtain ⟨h1, h2, h3⟩ := pcOf_one x
  obtain ⟨g1, g2, g3⟩ := pcOf_one y
  refine mf_of (pok_of hx) h1 (pok_of hy) ?_
  rw [h2, show (1 : Int) - 1 = 0 by omega, h3, g3]
  exact h
theorem rows_okp' : ∀ (rows : List Rw) (f : Int → Rw) (i : Int), Ord f → 0 ≤ i → (∀ j : Nat, j < rows.length → rows[j]? = some (f (i + j))) → okp (rows.map pcOf)
  | [], _, _, _, _, _ => okp_nil
  | r :: rows, f, i, ho, hi, h => by
    have h0 := h 0 (by simp)
    simp only [List.getElem?_cons_zero, Option.some.injEq] at h0
    have e0 : r = f i := by rw [h0]; congr 1; omega
    have ih := rows_okp' rows f (i + 1) ho (by omega) fun j hj => by
      have := h (j + 1) (by simpa using hj)
      rw [List.getElem?_cons_succ] at this
      rw [this]
      congr 2
      push_cast
      omega
    refine ⟨fun p hp => ?_, fun q hq => ?_, ih.2⟩
    · rcases List.mem_cons.mp hp with rfl | z
      · rw [e0]; exact pok_of (ho i hi).2
      · exact ih.1 p z
    · cases rows with
      | nil => cases hq
      | cons s rows =>
        have h1 := h 1 (by simp)
        simp only [List.getElem?_cons_succ, List.getElem?_cons_zero, Option.some.injEq] at h1
        have e1 : s = f (i + 1) := h1
        cases hq
        show mf (pcOf r) (pcOf s) = true
        rw [e0, e1]
        exact mf_pr (ho i hi).2 (ho (i + 1) (by omega)).2 (ho i hi).1
structure RowsG (rows : List Rw) (c : Int) : Prop where
  ok : okp (rows.map pcOf)
  last : rows.getLast? = some (some (c, c))
  len : rows.length ≤ 1000
  lo : 0 ≤ c
theorem RowsOk.g {rows : List Rw} {c : Int} (h : RowsOk rows c) : RowsG rows c := ⟨h.ok, h.last, by have := h.len; omega, by have := h.lo; omega⟩
/-- rows with a function of rows, old ones behind them -/
structure Wk (rows : List Rw) (c : Int) (f : Int → Rw) : Prop where
  last : rows.getLast? = some (some (c, c))
  rows : ∀ k, 0 ≤ k → f k = extR rows c k
theorem Wk.get {rows : List Rw} {c : Int} {f : Int → Rw} (h : Wk rows c f) (j : Nat) (hj : j < rows.length) : rows[j]? = some (f j) := by
  rw [h.rows j (by omega)]
  unfold extR
  rw [if_pos (by omega), List.getElem?_eq_getElem hj]
  simp [hj]
theorem Wk.g {rows : List Rw} {c : Int} {f : Int → Rw} (h : Wk rows c f) (ho : Ord f) (hl : rows.length ≤ 1000) : RowsG rows c := by
  have ok := rows_okp' rows f 0 ho (Int.le_refl _) fun j hj => by rw [h.get j hj, Int.zero_add]
  refine ⟨ok, h.last, hl, ?_⟩
  have hm := List.mem_of_getLast? h.last
  have := ok.1 (pcOf (some (c, c))) (List.mem_map_of_mem hm)
  rw [pc_old] at this
  exact this.1
theorem rolled_g {rows : List Rw} {c : Int} (h : RowsG rows c) : ∃ m a, nf (rows.map pcOf) = m ++ [.old a c] ∧ valid (m ++ [.opn a]) ∧ adj jnN (m ++ [.opn a]) ∧ t__law_rolled rows = Pr.ok (m ++ [.opn a]) ∧ m.length ≤ 1000 ∧ ∀ k, 0 ≤ k → lab (m ++ [.opn a]) k = extR rows c k := by
  have hp : (rows.map pcOf).getLast? = some (.old c c) := by
    rw [List.getLast?_map, h.last]
    exact congrArg some (pc_old c)
  have hcl : Cl (rows.map pcOf) := fun p hq => by
    obtain ⟨r, hr, rfl⟩ := List.mem_map.mp hq
    exact ⟨pcOf_opn r, h.ok.1 _ hq⟩
  have hNF := nf_NF h.ok
  obtain ⟨m, a, b, hn⟩ := nf_old hp
  have hb : b = c := by
    have hpost := hNF.post (.old c c) (.old a b) hp (by rw [hn, List.getLast?_concat])
    have h1 := hpost (.opn (c + 1))
    have h2 := hpost (.opn (b + 1))
    simp only [mf] at h1 h2
    have h1' : decide (c < c + 1) = true := decide_eq_true (by omega)
    have h2' : decide (b < b + 1) = true := decide_eq_true (by omega)
    rw [h1'] at h1
    rw [h2'] at h2
    have := of_decide_eq_true h1
    have := of_decide_eq_true h2.symm
    omega
  subst hb
  have hok := hNF.ok
  have hnrm := hNF.nrm
  rw [hn] at hok hnrm
  obtain ⟨o1, o2⟩ := opnL_ok hok hnrm
  have hlen : m.length ≤ 1000 := by
    have := nfl (rows.map pcOf)
    rw [hn] at this
    have := h.len
    simp at *
    omega
  have hv : valid (m ++ [.opn a]) := valid_of o1 (List.getLast?_concat ..)
  refine ⟨m, a, hn, hv, o2, ?_, hlen, fun k hk => ?_⟩
  · funext Q E
    refine propext ⟨fun z => z.2.2 m a b hn, fun z => ⟨⟨b, b, hp⟩, by have := h.len; omega, fun m' a' b' e => ?_⟩⟩
    rw [hn] at e
    have e1 := List.append_inj' e rfl
    obtain ⟨e2, e3⟩ := e1
    cases e3
    subst e2
    exact z
  · have hcl2 : Cl (m ++ [.old a b]) := by
      have := (lab_fold (rows.map pcOf) [] [] k Cl.nil hcl hk).2
      rw [show (rows.map pcOf).foldl nfS [] = m ++ [.old a b] from hn] at this
      exact this
    have e1 := lab_nfS (m ++ [.old a b]) [] (.opn (b + 1)) hcl2 (by show 0 ≤ b + 1; have := h.lo; omega) k hk
    rw [nfS_some (acc := m) (l := .old a b) (q := .opn (b + 1)) (r := .opn a) (by simp [jn]), List.append_nil] at e1
    rw [e1]
    have e2 := (lab_fold (rows.map pcOf) [] [.opn (b + 1)] k Cl.nil hcl hk).1
    rw [show (rows.map pcOf).foldl nfS [] = m ++ [.old a b] from hn, List.nil_append] at e2
    rw [e2, lab_rows rows _ k hk]
    unfold extR
    rfl
theorem lkDs_all' (k : Nat) : ∀ (l : List D), (∀ d ∈ l, lkD k d = true) → lkDs k l = true
  | [], _ => by simp [lkDs]
  | d :: l, h => by
    simp only [lkDs, Bool.and_eq_true]
    exact ⟨h d (by simp), lkDs_all' k l fun e he => h e (by simp [he])⟩
theorem lk_pcs (l : List Pc) (h : l.length ≤ 1000) (k : Nat) : lkD (k + 3) (en l) = true := by
  show lkD (k + 3) (.lst (l.map en)) = true
  simp only [lkD, Bool.and_eq_true, decide_eq_true_eq, List.length_map]
  refine ⟨h, lkDs_all' (k + 2) _ fun d hd => ?_⟩
  obtain ⟨p, _, rfl⟩ := List.mem_map.mp hd
  cases p <;> rfl
end
section
set_option Elab.async false
set_option linter.all false
set_option maxRecDepth 100000
set_option maxHeartbeats 1000000
theorem any_rows_any3 {E : Exn → Prop} (mo : Nat) (hmo : mo ≤ 7) (Q : List Rw → Prop) (h : ∀ rows c, RowsOk rows c → (nf (rows.map pcOf)).length ≤ mo + 2 → c ≤ 10 * mo + 11 → (∃ (pre : List Rw) (f : Nat), rows = pre ++ blk f 9 ∧ c = (f : Int) + 8) → Q rows) : t__law_any_rows (mo : Int) Q E := by
  unfold t__law_any_rows
  simp only [Pr.bind_bind]
  refine bind_of (by simp) (by simp) fun t ht => ?_
  have ht := mem4 ht
  have e0 : rep ([none] : List Rw) t = Pr.ok (List.replicate t.toNat none) := rep_one none t (by omega) (by omega)
  rw [e0, Pr.ok_bind, Pr.ok_bind]
  refine bind_pull (by omega) (by omega) fun n n0 n1 => ?_
  rw [need_T (sm_of (by omega) (by omega)), Pr.ok_bind]
  refine bind_i (forM_any mo (fun i (s : Int × (Int × (Int × List Rw))) => ArR i s.2.2.2 s.2.2.1 s.1 s.2.1) (fun x i s Q hi hs hq => ?hb) _ 0 _ _ (by rw [rngI_len]; omega) ?h0 fun m s hm hs => ?fin)
  case h0 =>
    show ArR 0 (List.replicate t.toNat none) 0 0 (-1)
    refine ⟨?_, fun x hx => ?_, by omega, by omega, by omega, by omega, by omega, by omega, by simp; omega, by rw [List.map_replicate]; exact rep_top _⟩
    · rw [List.map_replicate]
      exact rep_ok (p := .top 1) (by show (1 : Int) ≤ 1; decide) rfl _
    · rw [List.map_replicate] at hx
      have := List.mem_of_getLast? hx
      rw [List.mem_replicate] at this
      rw [this.2]
      trivial
  case hb =>
    obtain ⟨high, last, low, rows⟩ := s
    have hl0 := hs.l0; have hh0 := hs.h0; have ha0 := hs.a0; have hl1 := hs.l1; have hh1 := hs.h1; have ha1 := hs.a1; have hlen := hs.len
    simp only at hl0 hh0 ha0 hl1 hh1 ha1 hlen
    refine bind_pull (by decide) (by decide) fun w w0 w1 => ?_
    rw [Pr.ok_bind]
    by_cases hw : w = 0
    · rw [if_pos (by simpa using hw)]
      simp only [Pr.bind_bind]
      refine bind_of (by simp) (by simp) fun d hd => ?_
      have hd := mem4 hd
      rw [Pr.ok_bind]
      refine bind_of (by simp) (by simp) fun d2 hd2 => ?_
      have hd2 := mem4 hd2
      rw [Pr.ok_bind]
      have hmx : low ≤ max (max low high) (last + 1) ∧ high ≤ max (max low high) (last + 1) ∧ last + 1 ≤ max (max low high) (last + 1) ∧ max (max low high) (last + 1) ≤ 10 * i + 1 := by omega
      generalize hf : max (max low high) (last + 1) + d = f
      have hf0 : 0 ≤ f := by omega
      rw [need_T ⟨sm_of (by omega) (by omega), sm_of (by omega) (by omega)⟩, Pr.ok_bind, need_T (by rw [rngI_len]; omega), Pr.ok_bind, filter_T, blk_rng _ _ hf0]
      have hbl : (blk f.toNat (Int.toNat (f + d2 + 1 - f))).length ≤ 3 := by unfold blk; simp; omega
      rw [cat_ok (by show rows.length + _ ≤ _; omega), Pr.ok_bind, Pr.ok_bind]
      refine hq _ ?_
      have hstep := hs.old f.toNat (f + d2).toNat ⟨by show low ≤ _; omega, by show high ≤ _; omega, by show last + 1 ≤ _; omega, by omega⟩ ⟨by omega, by omega⟩
      rw [show (f + d2).toNat + 1 - f.toNat = Int.toNat (f + d2 + 1 - f) by omega, show (((f + d2).toNat : Nat) : Int) = f + d2 by omega] at hstep
      exact hstep
    · rw [if_neg (by simpa using hw)]
      simp only [Pr.bind_bind]
      refine bind_of (by simp) (by simp) fun d hd => ?_
      have hd := mem4 hd
      rw [Pr.ok_bind]
      refine bind_of (by simp) (by simp) fun d2 hd2 => ?_
      have hd2 := mem4 hd2
      rw [Pr.ok_bind]
      refine bind_of (by simp) (by simp) fun c hc => ?_
      have hc := mem4 hc
      rw [rep_one _ c (by omega) (by omega), Pr.ok_bind, cat_ok (by show rows.length + _ ≤ _; simp; omega), Pr.ok_bind, Pr.ok_bind]
      refine hq _ ?_
      have hmx : high ≤ (if low + d + 1 > high then low + d + 1 else high) ∧ low + d + 1 ≤ (if low + d + 1 > high then low + d + 1 else high) ∧ (if low + d + 1 > high then low + d + 1 else high) ≤ 10 * i + 3 := by split <;> omega
      exact hs.new (low + d) ((if low + d + 1 > high then low + d + 1 else high) + d2) c.toNat ⟨by show low ≤ _; omega, by show _ ≤ low + 2; omega⟩ ⟨by show high ≤ _; omega, by omega, by omega⟩ ⟨by omega, by omega⟩
  case fin =>
    obtain ⟨high, last, low, rows⟩ := s
    have hl0 := hs.l0; have hh0 := hs.h0; have ha0 := hs.a0; have hl1 := hs.l1; have hh1 := hs.h1; have ha1 := hs.a1; have hlen := hs.len
    simp only at hl0 hh0 ha0 hl1 hh1 ha1 hlen
    refine bind_of (by simp) (by simp) fun d hd => ?_
    have hd := mem4 hd
    rw [Pr.ok_bind]
    have hmx : low ≤ max (max low high) (last + 1) ∧ high ≤ max (max low high) (last + 1) ∧ last + 1 ≤ max (max low high) (last + 1) ∧ max (max low high) (last + 1) ≤ 10 * m + 1 := by omega
    show ((Pr.need (sm (max (max low high) (last + 1) + d) ∧ sm (max (max low high) (last + 1) + d + 9)) (Pr.ok (rngI (max (max low high) (last + 1) + d) (Int.toNat (max (max low high) (last + 1) + d + 9 - (max (max low high) (last + 1) + d)))))).bind _) Q E
    generalize hf : max (max low high) (last + 1) + d = f
    have hf0 : 0 ≤ f := by omega
    rw [need_T ⟨sm_of (by omega) (by omega), sm_of (by omega) (by omega)⟩, Pr.ok_bind, need_T (by rw [rngI_len]; omega), Pr.ok_bind, filter_T, blk_rng _ _ hf0, show Int.toNat (f + 9 - f) = 9 by omega]
    have hbl : (blk f.toNat 9).length = 9 := by unfold blk; simp
    rw [cat_ok (by show rows.length + _ ≤ _; omega)]
    refine h _ (f + 8) ⟨?_, ?_, by show (rows ++ _).length ≤ 40; simp only [List.length_append, hbl]; omega, by show 9 ≤ (rows ++ _).length; simp only [List.length_append, hbl]; omega, by omega, by omega⟩ ?_ (by omega) ⟨_, f.toNat, rfl, by omega⟩
    rotate_left 2
    · obtain ⟨acc, a, e1, e2⟩ := blk_run (nf (rows.map pcOf)) f.toNat 8
      have := hs.np
      show (nf ((rows ++ blk f.toNat 9).map pcOf)).length ≤ _
      rw [List.map_append]
      unfold nf at e1 e2 ⊢
      rw [List.foldl_append, e1]
      unfold nf at this
      simp at this ⊢
      omega
    · rw [List.map_append]
      refine okp_app hs.ok (blk_ok _ 9) fun x y hx hy => ?_
      rw [blk_head] at hy
      cases hy
      have hb := hs.bd x hx
      cases x <;> simp only [bnd] at hb <;> simp only [mf, decide_eq_true_eq, Bool.and_eq_true] <;> omega
    · show (rows ++ blk f.toNat 9).getLast? = _
      rw [blk_succ f.toNat 8, ← List.append_assoc, List.getLast?_concat]
      congr 3 <;> omega
theorem any_rows_any2 {E : Exn → Prop} (mo : Nat) (hmo : mo ≤ 7) (Q : List Rw → Prop) (h : ∀ rows c, RowsOk rows c → (nf (rows.map pcOf)).length ≤ mo + 2 → c ≤ 10 * mo + 11 → Q rows) : t__law_any_rows (mo : Int) Q E := any_rows_any3 mo hmo Q fun rows c h1 h2 h3 _ => h rows c h1 h2 h3
theorem any_rows_any {E : Exn → Prop} (mo : Nat) (hmo : mo ≤ 7) (Q : List Rw → Prop) (h : ∀ rows c, RowsOk rows c → (nf (rows.map pcOf)).length ≤ mo + 2 → Q rows) : t__law_any_rows (mo : Int) Q E := any_rows_any2 mo hmo Q fun rows c h1 h2 _ => h rows c h1 h2
end
section
set_option Elab.async false
set_option linter.all false
set_option maxRecDepth 100000
set_option maxHeartbeats 2000000
theorem row_le {rows : List Rw} {c : Int} (h : RowsOk rows c) {r : Rw} (hr : r ∈ rows) : ∀ x, r = some x → x.1 ≤ c ∧ x.2 ≤ c := by
  intro x e
  subst e
  obtain ⟨pw, ok⟩ := rows_pw rows h.ok
  have hg := h.last
  obtain ⟨ys, e⟩ := List.getLast?_eq_some_iff.mp hg
  subst e
  rcases List.mem_append.mp hr with hm | hm
  · have := (List.pairwise_append.mp pw).2.2 (some x) hm (some (c, c)) (by simp)
    simp only [pr] at this
    exact ⟨this.1, this.2.1⟩
  · rw [List.mem_singleton] at hm
    cases hm
    exact ⟨Int.le_refl _, Int.le_refl _⟩
def bN (c k : Int) : Pc → Prop
  | .top n => 0 ≤ n ∧ n ≤ k
  | .old a b => 0 ≤ a ∧ a ≤ c ∧ 0 ≤ b ∧ b ≤ c
  | .opn a => 0 ≤ a ∧ a ≤ c
  | .new a b n => 0 ≤ a ∧ a ≤ c ∧ 0 ≤ b ∧ b ≤ c ∧ 0 ≤ n ∧ n ≤ k
theorem bN.up {c k l : Int} {p : Pc} (h : bN c k p) (hk : k ≤ l) : bN c l p := by
  cases p <;> simp only [bN] at h ⊢ <;> omega
theorem bN.jn {c k : Int} {l p r : Pc} (h : bN c k l) (g : bN c 1 p) (e : jn l p = some r) : bN c (k + 1) r := by
  unfold T.jn at e
  split at e
  · cases e; simp only [bN] at h g ⊢; omega
  · split at e
    · cases e; simp only [bN] at h g ⊢; omega
    · cases e
  · split at e
    · cases e; simp only [bN] at h g ⊢; omega
    · cases e
  · split at e
    · cases e; simp only [bN] at h g ⊢; omega
    · cases e
  · cases e
theorem bN.step {c k : Int} {acc : List Pc} {p : Pc} (hk : 0 ≤ k) (h : ∀ q ∈ acc, bN c k q) (g : bN c 1 p) : ∀ q ∈ nfS acc p, bN c (k + 1) q := by
  intro q hq
  have app : ∀ z ∈ acc ++ [p], bN c (k + 1) z := fun z hz => by
    rcases List.mem_append.mp hz with hz | hz
    · exact (h z hz).up (by omega)
    · rw [List.mem_singleton.mp hz]; exact g.up (by omega)
  unfold nfS at hq
  split at hq
  · exact app q hq
  · rename_i l hl
    split at hq
    · exact app q hq
    · rename_i r hr
      rcases List.mem_append.mp hq with hq | hq
      · exact (h q (List.dropLast_subset _ hq)).up (by omega)
      · rw [List.mem_singleton.mp hq]
        exact (h l (List.mem_of_getLast? hl)).jn g hr
theorem bN.all {c : Int} : ∀ (ps acc : List Pc) (k : Int), 0 ≤ k → (∀ q ∈ acc, bN c k q) → (∀ p ∈ ps, bN c 1 p) → ∀ q ∈ ps.foldl nfS acc, bN c (k + ps.length) q
  | [], acc, k, _, h, _ => fun q hq => by simpa using h q hq
  | p :: ps, acc, k, hk, h, g => fun q hq => by
    have := bN.all ps (nfS acc p) (k + 1) (by omega) (bN.step hk h (g p (by simp))) (fun z hz => g z (by simp [hz])) q hq
    exact this.up (by simp only [List.length_cons]; omega)
theorem bN.row {rows : List Rw} {c : Int} (h : RowsOk rows c) {r : Rw} (hr : r ∈ rows) : bN c 1 (pcOf r) := by
  have h1 := h.ok.1 (pcOf r) (List.mem_map_of_mem hr)
  have h2 := row_le h hr
  cases r with
  | none => simp [pcOf, bN]
  | some x =>
    obtain ⟨a, b⟩ := x
    have h3 := h2 _ rfl
    by_cases e : a = b
    · subst e
      rw [pc_old] at h1 ⊢
      simp only [pok, bN] at h1 ⊢
      omega
    · rw [show pcOf (some (a, b)) = .new a b 1 from if_neg e] at h1 ⊢
      simp only [pok, bN] at h1 ⊢
      omega
theorem bN.good {c k : Int} {p : Pc} (h : bN c k p) (hc : c ≤ 1000000) (hk : k ≤ 1000000) : goodP p := by
  cases p <;> simp only [bN, goodP, G18] at h ⊢ <;> omega
structure PsOk (ps : List Pc) : Prop where
  good : ∀ p ∈ ps, goodP p
  v : valid ps
  n : nf ps = ps
  ne : ps ≠ []
  len : ps.length ≤ 60
theorem drawn {E : Exn → Prop} {Q : List Pc → Prop} (h : ∀ ps, PsOk ps → Q ps) : ((t__law_any_rows (7 : Int)).bind fun (a13 : (List (Option (Int × Int)))) => (t__law_rolled a13)) Q E := by
  refine bind_i (any_rows_any (E := E) 7 (by omega) _ fun rows c hr hl => ?_)
  obtain ⟨m, a, e, hv, hj, eR, _, _⟩ := rolled_g hr.g
  have hb := bN.all (c := c) (rows.map pcOf) [] 0 (Int.le_refl _) (fun _ z => by cases z) (fun p hp => by
    obtain ⟨r, hr', rfl⟩ := List.mem_map.mp hp
    exact bN.row hr hr')
  rw [show (rows.map pcOf).foldl nfS [] = nf (rows.map pcOf) from rfl, e, List.length_map] at hb
  have hhi := hr.hi
  have hln := hr.len
  rw [e] at hl
  rw [eR]
  refine h _ ⟨fun p hp => ?_, hv, nf_self _ [] hj, by simp, by simp only [List.length_append, List.length_cons, List.length_nil] at hl ⊢; omega⟩
  rcases List.mem_append.mp hp with hp | hp
  · exact (hb p (by simp [hp])).good (by omega) (by omega)
  · rw [List.mem_singleton.mp hp]
    have := hb (.old a c) (by simp)
    simp only [bN] at this
    exact (show bN c 1 (.opn a) from ⟨this.1, this.2.1⟩).good (by omega) (by omega)
theorem far_ok {f0 f1 f2 f3 : Int} (h0 : 100 ≤ f0 ∧ f0 < 100000000000000100) (h1 : 100 ≤ f1 ∧ f1 < 100000000000000100) (h2 : 100 ≤ f2 ∧ f2 < 100000000000000100) (h3 : 100 ≤ f3 ∧ f3 < 100000000000000100) :
    PsOk ([.top f0, .old f1 (f1 + f2), .new (f1 + f2) ((1000000000000000000 : Int) - (2 : Int)) f3] ++ [.opn ((1000000000000000000 : Int) - (1 : Int))]) := by
  refine ⟨fun p hp => ?_, ?_, rfl, by simp, by simp⟩
  · simp only [List.cons_append, List.nil_append, List.mem_cons, List.not_mem_nil, or_false] at hp
    rcases hp with rfl | rfl | rfl | rfl <;> simp only [goodP, G18] <;> omega
  · simp only [List.cons_append, List.nil_append, valid, chain, lastOf, isOpn, mf, pok, Bool.and_eq_true, decide_eq_true_eq]
    refine ⟨by omega, ?_, trivial⟩
    simp
    omega
end
section
set_option Elab.async false
set_option linter.all false
set_option maxRecDepth 100000
set_option maxHeartbeats 2000000
theorem via_i {α β : Type} {p : Pr α} {k : α → Pr β} {P : α → Prop} {Q : β → Prop} {E : Exn → Prop} (h : ∀ Q' : α → Prop, (∀ s, P s → Q' s) → p Q' E) (hk : ∀ s, P s → k s Q E) : (p.bind k) Q E := h _ hk
theorem idx4 {α : Type} (a b c d : α) : idx [a, b, c, d] (0 : Int) = Pr.ok a ∧ idx [a, b, c, d] (1 : Int) = Pr.ok b ∧ idx [a, b, c, d] (2 : Int) = Pr.ok c ∧ idx [a, b, c, d] (3 : Int) = Pr.ok d :=
  ⟨idx_nat (l := [a, b, c, d]) (i := 0) (by simp), idx_nat (l := [a, b, c, d]) (i := 1) (by simp), idx_nat (l := [a, b, c, d]) (i := 2) (by simp), idx_nat (l := [a, b, c, d]) (i := 3) (by simp)⟩
theorem ltx_t {L : Lay} (h : ∀ p ∈ L.parts, goodP p) (hn : L.parts.length ≤ 100) : t_layout_text L = Pr.ok (lT L.parts) := by
  unfold t_layout_text
  rw [Pr.ok_bind, str_t h hn]
theorem eq_self (L : Lay) : t_Layout___eq__ L L = Pr.ok true := by
  unfold t_Layout___eq__
  rw [decide_eq_true rfl]
  rfl
theorem lk_two (t : Str) : lkD 4 (en (α := List Str) [t, t]) = true := by
  show lkD 4 (.lst [.str t, .str t]) = true
  simp [lkD, lkDs]
theorem plain_ok : PsOk [.opn 0] := ⟨fun p hp => by rw [List.mem_singleton.mp hp]; exact ⟨by decide, by decide⟩, ⟨by show (0 : Int) ≤ 0; decide, trivial, rfl⟩, rfl, by simp, by simp⟩
theorem plain_text : lT [.opn 0] = ("old 0-" : Str) := by decide +kernel
theorem law_holds : t_law (fun b => b = true) (fun _ => False) := by
  unfold t_law
  rw [need_T (sm_of (by omega) (by omega)), Pr.ok_bind]
  refine flow_i (fun x _ Q q => ?_) ?_
  · refine bind_i (drawn fun ps hp => ?_)
    refine via_i (P := PsOk) (fun Q' q' => ?_) (fun s hs => ?_)
    · refine bind_i (bind_i (pull_i (by omega) (by omega) fun v _ _ => ?_))
      show (if decide (v = 0) = true then _ else Pr.ok ps) Q' _
      by_cases hv : v = 0
      · rw [decide_eq_true hv, if_pos rfl, Pr.ok_bind, need_T (by rw [rngI_len]; omega)]
        refine bind_i (lcM_any (P := fun y => 100 ≤ y ∧ y < 100000000000000100) _ _ (fun x _ Q q => ?_) (fun ys hy hP => ?_))
        · exact bind_i ⟨by decide, by decide, fun v h0 h1 => q (v + 100) ⟨by omega, by omega⟩⟩
        · rw [rngI_len] at hy
          match ys, hy with
          | [f0, f1, f2, f3], _ =>
            obtain ⟨e0, e1, e2, e3⟩ := idx4 f0 f1 f2 f3
            simp only [e0, e1, e2, e3, Pr.ok_bind]
            rw [need_T (by simp), Pr.ok_bind]
            exact q' _ (far_ok (hP f0 (by simp)) (hP f1 (by simp)) (hP f2 (by simp)) (hP f3 (by simp)))
      · rw [decide_eq_false hv, if_neg (by simp)]
        exact q' ps hp
    · have hl := hs.len
      rw [llt_t hs.good (by omega), Pr.ok_bind, need_T (sm_of (by omega) (by omega)), Pr.ok_bind]
      refine flow_i (fun y _ Q2 q2 => ?_) q
      rw [read_lay hs.good hs.v hs.n hs.ne hs.len, Pr.ok_bind, Pr.ok_bind, str_t (L := mkLay s) hs.good (by show s.length ≤ 100; omega), Pr.ok_bind, ltx_t (L := mkLay s) hs.good (by show s.length ≤ 100; omega), Pr.ok_bind, Pr.ok_bind]
      refine if_not (fun Q' q' => lk_i rfl (lk_two _) q') ?_
      rw [(Layout_t (q := Sq.mk false s) hs.v hs.len).1, Pr.ok_bind, show nf (Sq.mk false s).l = s from hs.n, eq_self, Pr.ok_bind, Pr.ok_bind, if_neg (by simp), show t_Layout_pieces (mkLay s) = Pr.ok s from rfl, Pr.ok_bind]
      refine if_not (fun Q' q' => lk_i rfl (lk_pcs s (by omega) 1) q') ?_
      exact q2
  · have hp := plain_ok
    rw [Pr.ok_bind, str_t (L := mkLay [.opn 0]) hp.good (by decide), Pr.ok_bind, show (mkLay [.opn 0]).parts = [.opn 0] from rfl, plain_text, decide_eq_true rfl, Pr.ok_bind, if_pos rfl, ← plain_text, read_lay hp.good hp.v hp.n hp.ne hp.len, Pr.ok_bind, Pr.ok_bind, eq_self, Pr.ok_bind]
    rfl
theorem law_ok (ns : List Int) (h : ns.length ≤ 63) : ∃ M, F_law [.scr ns] [] = .ok (.bl true) M := law_of law_holds ns h
end
end T
namespace T
open PySem L2 Ip
theorem main : Main := fun ns h => law_ok ns h
end T
open PySem PySem.W PyProof.Rows in
set_option maxRecDepth 100000 in
set_option maxHeartbeats 0 in
theorem PySem.Challenge.cw_spanrows_k56_whole_layouts_and_their_tex_holds : PySem.Challenge.rw_spanrows_k56_whole_layouts_and_their_tex.Holds := by
  w_on; o_law; k_head; (case hw => w_witness2)
  k_fill
  refine T.walk (l := PySem.Challenge.rw_spanrows_k56_whole_layouts_and_their_tex) rfl rfl (fun w h Y => PySem.W.kIn_of Y) ?F
  case F =>
    intro w mg fa h KX G hmg
    refine' T.all_mk T.main KX G hmg ?z_all ?z_bool ?z_enumerate ?z_int ?z_isinstance ?z_len ?z_list ?z_max ?z_range ?z_str ?z_tuple ?aC_Layout ?pg_Layout ?hd_Layout ?po_Layout ?sa_Layout ?mk_Layout ?kc_Layout ?rd_Layout ?ga_Layout ?na_Layout_parts ?na_Layout_starts ?cv_Layout_LIMIT ?gp_MOST_DIGITS ?gp_PLAIN ?lp_PLAIN ?lr_PLAIN ?a__law_bag ?l__law_bag ?c__law_bag ?k__law_bag ?a__law_pull ?l__law_pull ?c__law_pull ?k__law_pull ?a__law_of ?l__law_of ?c__law_of ?k__law_of ?a__law_any_rows ?l__law_any_rows ?c__law_any_rows ?k__law_any_rows ?a__law_rolled ?l__law_rolled ?c__law_rolled ?k__law_rolled ?a__law_piece_text ?l__law_piece_text ?c__law_piece_text ?k__law_piece_text ?a__law_layout_text ?l__law_layout_text ?c__law_layout_text ?k__law_layout_text ?a_read_number ?l_read_number ?c_read_number ?k_read_number ?a_read_top ?l_read_top ?c_read_top ?k_read_top ?a_read_old ?l_read_old ?c_read_old ?k_read_old ?a_read_new ?l_read_new ?c_read_new ?k_read_new ?a_read_piece ?l_read_piece ?c_read_piece ?k_read_piece ?a_is_number ?l_is_number ?c_is_number ?k_is_number ?a_are_numbers ?l_are_numbers ?c_are_numbers ?k_are_numbers ?a_is_range ?l_is_range ?c_is_range ?k_is_range ?a_is_piece ?l_is_piece ?c_is_piece ?k_is_piece ?a_is_open ?l_is_open ?c_is_open ?k_is_open ?a_row_count ?l_row_count ?c_row_count ?k_row_count ?a_label_in ?l_label_in ?c_label_in ?k_label_in ?a_first_label ?l_first_label ?c_first_label ?k_first_label ?a_may_follow ?l_may_follow ?c_may_follow ?k_may_follow ?a_first_wrong ?l_first_wrong ?c_first_wrong ?k_first_wrong ?a_joined ?l_joined ?c_joined ?k_joined ?a_normal_form ?l_normal_form ?c_normal_form ?k_normal_form ?a_starts_of ?l_starts_of ?c_starts_of ?k_starts_of ?a_Layout___init__ ?i_Layout___init__ ?l_Layout___init__ ?c_Layout___init__ ?k_Layout___init__ ?a_Layout_pieces ?i_Layout_pieces ?l_Layout_pieces ?c_Layout_pieces ?k_Layout_pieces ?a_Layout_read ?r_Layout_read ?g_Layout_read ?l_Layout_read ?c_Layout_read ?k_Layout_read ?a_piece_text ?l_piece_text ?c_piece_text ?k_piece_text ?a_Layout___str__ ?i_Layout___str__ ?l_Layout___str__ ?c_Layout___str__ ?k_Layout___str__ ?a_layout_text ?l_layout_text ?c_layout_text ?k_layout_text ?a__law_like ?l__law_like ?c__law_like ?k__law_like ?a_Layout___eq__ ?i_Layout___eq__ ?l_Layout___eq__ ?c_Layout___eq__ ?k_Layout___eq__ ?a_Layout_plain ?r_Layout_plain ?g_Layout_plain ?l_Layout_plain ?c_Layout_plain ?k_Layout_plain ?a_law ?l_law ?c_law ?k_law ?eh_Layout ?en_Layout ?et_Layout ?em_Layout ?ee_Layout ?ey_Layout
    (case z_all => k_is)
    (case z_bool => k_is)
    (case z_enumerate => k_is)
    (case z_int => k_is)
    (case z_isinstance => k_is)
    (case z_len => k_is)
    (case z_list => k_is)
    (case z_max => k_is)
    (case z_range => k_is)
    (case z_str => k_is)
    (case z_tuple => k_is)
    (case aC_Layout => k_is)
    (case pg_Layout => k_is)
    (case hd_Layout => k_is)
    (case po_Layout => k_is)
    (case sa_Layout => k_is)
    (case mk_Layout => k_is)
    (case kc_Layout => k_is)
    (case rd_Layout => k_is)
    (case ga_Layout => k_is)
    (case na_Layout_parts => k_is)
    (case na_Layout_starts => k_is)
    (case cv_Layout_LIMIT => k_is)
    (case gp_MOST_DIGITS => k_is)
    (case gp_PLAIN => k_is)
    (case lp_PLAIN => k_is)
    (case lr_PLAIN => k_is)
    (case a__law_bag => k_is)
    (case l__law_bag => k_is)
    (case c__law_bag => k_is)
    (case k__law_bag => k_is)
    (case a__law_pull => k_is)
    (case l__law_pull => k_is)
    (case c__law_pull => k_is)
    (case k__law_pull => k_is)
    (case a__law_of => k_is)
    (case l__law_of => k_is)
    (case c__law_of => k_is)
    (case k__law_of => k_is)
    (case a__law_any_rows => k_is)
    (case l__law_any_rows => k_is)
    (case c__law_any_rows => k_is)
    (case k__law_any_rows => k_is)
    (case a__law_rolled => k_is)
    (case l__law_rolled => k_is)
    (case c__law_rolled => k_is)
    (case k__law_rolled => k_is)
    (case a__law_piece_text => k_is)
    (case l__law_piece_text => k_is)
    (case c__law_piece_text => k_is)
    (case k__law_piece_text => k_is)
    (case a__law_layout_text => k_is)
    (case l__law_layout_text => k_is)
    (case c__law_layout_text => k_is)
    (case k__law_layout_text => k_is)
    (case a_read_number => k_is)
    (case l_read_number => k_is)
    (case c_read_number => k_is)
    (case k_read_number => k_is)
    (case a_read_top => k_is)
    (case l_read_top => k_is)
    (case c_read_top => k_is)
    (case k_read_top => k_is)
    (case a_read_old => k_is)
    (case l_read_old => k_is)
    (case c_read_old => k_is)
    (case k_read_old => k_is)
    (case a_read_new => k_is)
    (case l_read_new => k_is)
    (case c_read_new => k_is)
    (case k_read_new => k_is)
    (case a_read_piece => k_is)
    (case l_read_piece => k_is)
    (case c_read_piece => k_is)
    (case k_read_piece => k_is)
    (case a_is_number => k_is)
    (case l_is_number => k_is)
    (case c_is_number => k_is)
    (case k_is_number => k_is)
    (case a_are_numbers => k_is)
    (case l_are_numbers => k_is)
    (case c_are_numbers => k_is)
    (case k_are_numbers => k_is)
    (case a_is_range => k_is)
    (case l_is_range => k_is)
    (case c_is_range => k_is)
    (case k_is_range => k_is)
    (case a_is_piece => k_is)
    (case l_is_piece => k_is)
    (case c_is_piece => k_is)
    (case k_is_piece => k_is)
    (case a_is_open => k_is)
    (case l_is_open => k_is)
    (case c_is_open => k_is)
    (case k_is_open => k_is)
    (case a_row_count => k_is)
    (case l_row_count => k_is)
    (case c_row_count => k_is)
    (case k_row_count => k_is)
    (case a_label_in => k_is)
    (case l_label_in => k_is)
    (case c_label_in => k_is)
    (case k_label_in => k_is)
    (case a_first_label => k_is)
    (case l_first_label => k_is)
    (case c_first_label => k_is)
    (case k_first_label => k_is)
    (case a_may_follow => k_is)
    (case l_may_follow => k_is)
    (case c_may_follow => k_is)
    (case k_may_follow => k_is)
    (case a_first_wrong => k_is)
    (case l_first_wrong => k_is)
    (case c_first_wrong => k_is)
    (case k_first_wrong => k_is)
    (case a_joined => k_is)
    (case l_joined => k_is)
    (case c_joined => k_is)
    (case k_joined => k_is)
    (case a_normal_form => k_is)
    (case l_normal_form => k_is)
    (case c_normal_form => k_is)
    (case k_normal_form => k_is)
    (case a_starts_of => k_is)
    (case l_starts_of => k_is)
    (case c_starts_of => k_is)
    (case k_starts_of => k_is)
    (case a_Layout___init__ => k_is)
    (case i_Layout___init__ => k_is)
    (case l_Layout___init__ => k_is)
    (case c_Layout___init__ => k_is)
    (case k_Layout___init__ => k_is)
    (case a_Layout_pieces => k_is)
    (case i_Layout_pieces => k_is)
    (case l_Layout_pieces => k_is)
    (case c_Layout_pieces => k_is)
    (case k_Layout_pieces => k_is)
    (case a_Layout_read => k_is)
    (case r_Layout_read => k_is)
    (case g_Layout_read => k_is)
    (case l_Layout_read => k_is)
    (case c_Layout_read => k_is)
    (case k_Layout_read => k_is)
    (case a_piece_text => k_is)
    (case l_piece_text => k_is)
    (case c_piece_text => k_is)
    (case k_piece_text => k_is)
    (case a_Layout___str__ => k_is)
    (case i_Layout___str__ => k_is)
    (case l_Layout___str__ => k_is)
    (case c_Layout___str__ => k_is)
    (case k_Layout___str__ => k_is)
    (case a_layout_text => k_is)
    (case l_layout_text => k_is)
    (case c_layout_text => k_is)
    (case k_layout_text => k_is)
    (case a__law_like => k_is)
    (case l__law_like => k_is)
    (case c__law_like => k_is)
    (case k__law_like => k_is)
    (case a_Layout___eq__ => k_is)
    (case i_Layout___eq__ => k_is)
    (case l_Layout___eq__ => k_is)
    (case c_Layout___eq__ => k_is)
    (case k_Layout___eq__ => k_is)
    (case a_Layout_plain => k_is)
    (case r_Layout_plain => k_is)
    (case g_Layout_plain => k_is)
    (case l_Layout_plain => k_is)
    (case c_Layout_plain => k_is)
    (case k_Layout_plain => k_is)
    (case a_law => k_is)
    (case l_law => k_is)
    (case c_law => k_is)
    (case k_law => k_is)
    (case eh_Layout => k_is)
    (case en_Layout => k_is)
    (case et_Layout => k_is)
    (case em_Layout => k_is)
    (case ee_Layout => k_is)
    (case ey_Layout => k_is)

import PyProof.Rows.All
import Wide.All
import OpenK.AllK
import Wide.FinOn
import KE.OsRunLaw
import HandS.ForMost
import HandS.ForExc
import HandS.IsInst
import HandS.Wide
import HandS.Flow
import HandS.TupAny
import HandS.Lambda
import HandS.EndOwn
import HandS.Style
import HandS.Text
import HandS.Flt
import HandS.FStr
import HandS.New0
import PyProof.InstSpecial
import KE.GoesMore
import KE.GoesEnum
import HandS.ClsMeth
import HandS.Property
import HandS.More
import HandS.OwnEq
import HandS.Defaults
import HandS.Star
import HandS.TryOnly
import HandS.ExcInit
import HandS.ExcOwn
import HandS.ExcField
import HandS.WordsExc
import HandS.HotCalls
import HandS.TryMany
import KE.KNestM
import HandS.Comp
import HandS.SetFor
import HandS.Strs
import HandS.Deep
import HandS.DictComp
import HandS.SortRule
import HandS.Conv
import HandS.TupSets
import PyProof.DictMoreH
import KE.KDflt
import HandS.GenList
import KE.SortKeyHeap
import KE.KLam
import HandS.Nested
import HandS.FStrTup
import KE.KDictKeyed
import PyProof.StrBlock2
import HandS.Codes
import PySem.Challenge.RW_spanrows_k58_whole_scripts_and_their_tex
set_option Elab.async false
set_option linter.all false
set_option maxRecDepth 100000
section
set_option Elab.async false
set_option linter.all false
set_option maxRecDepth 100000
set_option maxHeartbeats 4000000
set_option autoImplicit false
namespace Ip
open PySem L2
inductive D where
  | non | bl (b : Bool) | int (i : Int) | str (s : Str)
  | tup (l : List D) | lst (l : List D)
  | scr (ns : List Int)
  | ty (n : String)
  | ref (n : Nat)
  | obj (c : Str) (ks : List Str) (vs : List D)
  | cls (c : Str)
  | dK (ks : List Key) (vs : List D)
  | dT (ks : List (List Key)) (vs : List D)
inductive Cell where
  | lst (xs : List D)
  | ins (c : Str) (ks : List Str) (vs : List D)
  | dK (ks : List Key) (vs : List D)
  | dT (ks : List (List Key)) (vs : List D)
abbrev Sto := List Cell
abbrev En := List (Option D)
/-- where the cells stand; what must not be touched meanwhile -/
structure Rho where
  c : List Addr
  t : List Addr
instance : Membership Addr Rho := ⟨fun ρ a => a ∈ ρ.c ∨ a ∈ ρ.t⟩
theorem Rho.inl {ρ : Rho} {a : Addr} (h : a ∈ ρ.c) : a ∈ ρ := Or.inl h
theorem Rho.inr {ρ : Rho} {a : Addr} (h : a ∈ ρ.t) : a ∈ ρ := Or.inr h
structure Gx where
  K : PySem.W.Frag
  cl : Str → Option Addr
/-- some ints -/
def intsV (vs : List V) : Prop := vs ≠ [] ∧ ∀ v ∈ vs, ∃ i : Int, v = .int i
/-- a tuple stands there; one of ints is tracked -/
def TpA (G : Gx) (H : Hp) (a : Addr) (vs : List V) : Prop := SqT G.K H a vs ∧ (intsV vs → H a = some (.tup vs))
theorem TpA.of {G : Gx} {H : Hp} {a : Addr} {vs : List V} (h : H a = some (.tup vs)) : TpA G H a vs := ⟨SqT.of h, fun _ => h⟩
theorem TpA.no {G : Gx} {H : Hp} {a : Addr} {vs : List V} (h : SqT G.K H a vs) (n : ¬ intsV vs) : TpA G H a vs := ⟨h, fun z => absurd z n⟩
mutual
inductive RV (G : Gx) (H : Hp) (ρ : Rho) : D → V → Prop
  | non : RV G H ρ .non .non
  | bl (b : Bool) : RV G H ρ (.bl b) (.bl b)
  | int (i : Int) : RV G H ρ (.int i) (.int i)
  | str (s : Str) : RV G H ρ (.str s) (.str s)
  | ty (n : String) : RV G H ρ (.ty n) (.ty n)
  | tup {a : Addr} {vs : List V} {ds : List D} : TpA G H a vs → RVs G H ρ ds vs → RV G H ρ (.tup ds) (.ref a)
  | lst {a : Addr} {vs : List V} {ds : List D} : H a = some (.lst vs) → a ∉ ρ → RVs G H ρ ds vs → RV G H ρ (.lst ds) (.ref a)
  | scr {a : Addr} {ns : List Int} : (Rd H a (.lst (ns.map V.int)) ∧ a ∉ ρ) ∨ (∀ H', SqL G.K H' a (ns.map V.int)) → RV G H ρ (.scr ns) (.ref a)
  | ref {n : Nat} {a : Addr} : ρ.c[n]? = some a → RV G H ρ (.ref n) (.ref a)
  | obj {c : Str} {C a dx : Addr} {ks : List Str} {ds : List D} {vs : List V} : G.cl c = some C → H a = some (.ins C dx (ks.zip vs)) → ks.length = vs.length → a ∉ ρ → RVs G H ρ ds vs → RV G H ρ (.obj c ks ds) (.ref a)
  | cls {c : Str} {C : Addr} : G.cl c = some C → RV G H ρ (.cls c) (.ref C)
  | dK {a : Addr} {ks : List Key} {vs : List V} {ds : List D} : H a = some (.dK (ks.zip vs)) → ks.length = vs.length → a ∉ ρ → RVs G H ρ ds vs → RV G H ρ (.dK ks ds) (.ref a)
  | dT {a : Addr} {ks : List (List Key)} {vs : List V} {ds : List D} : Rd H a (.dT (ks.zip vs)) → ks.length = vs.length → a ∉ ρ → RVs G H ρ ds vs → RV G H ρ (.dT ks ds) (.ref a)
inductive RVs (G : Gx) (H : Hp) (ρ : Rho) : List D → List V → Prop
  | nil : RVs G H ρ [] []
  | cons {d : D} {v : V} {ds : List D} {vs : List V} : RV G H ρ d v → RVs G H ρ ds vs → RVs G H ρ (d :: ds) (v :: vs)
end
/-- objects that trees speak of -/
def plainO (o : HO) : Prop := (∃ xs, o = .lst xs) ∨ (∃ C dx fs, o = .ins C dx fs) ∨ (∃ q u, o = .frz q u) ∨ (∃ kvs, o = .dK kvs) ∨ ∃ kvs, o = .dT kvs
theorem plainO.l {xs : List V} : plainO (.lst xs) := .inl ⟨_, rfl⟩
theorem plainO.i {C dx : Addr} {fs : List (Str × V)} : plainO (.ins C dx fs) := .inr (.inl ⟨_, _, _, rfl⟩)
theorem plainO.f {q : Obj} {u : HO} : plainO (.frz q u) := .inr (.inr (.inl ⟨_, _, rfl⟩))
theorem plainO.k {kvs : List (Key × V)} : plainO (.dK kvs) := .inr (.inr (.inr (.inl ⟨_, rfl⟩)))
theorem plainO.d {kvs : List (List Key × V)} : plainO (.dT kvs) := .inr (.inr (.inr (.inr ⟨_, rfl⟩)))
theorem plainO.tbl {o : HO} (h : plainO o) (ps : Array Value) : o ≠ .tbl ps := fun z => by rcases h with ⟨_, h⟩ | ⟨_, _, _, h⟩ | ⟨_, _, h⟩ | ⟨_, h⟩ | ⟨_, h⟩ <;> rw [h] at z <;> cases z
/-- trees stay what they are -/
structure Mo (G : Gx) (H : Hp) (ρ : Rho) (H' : Hp) (ρ' : Rho) : Prop where
  pre : ∀ (n : Nat) (a : Addr), ρ.c[n]? = some a → ρ'.c[n]? = some a
  tup : ∀ a xs, TpA G H a xs → TpA G H' a xs
  keep : ∀ (a : Addr) (o : HO), a ∉ ρ → plainO o → H a = some o → H' a = some o ∧ a ∉ ρ'
/-- the heap goes on: the cells stay where they are, what is no cell stays as it is -/
structure Ext (G : Gx) (H : Hp) (ρ : Rho) (H' : Hp) (ρ' : Rho) : Prop where
  pre : ∀ (n : Nat) (a : Addr), ρ.c[n]? = some a → ρ'.c[n]? = some a
  res : ρ'.t = ρ.t
  same : ∀ a, a ∈ ρ.t → H' a = H a
  tup : ∀ a xs, TpA G H a xs → TpA G H' a xs
  keep : ∀ (a : Addr) (o : HO), a ∉ ρ → (∀ ps, o ≠ .tbl ps) → H a = some o → H' a = some o ∧ a ∉ ρ'
theorem Ext.mo {G : Gx} {H H' : Hp} {ρ ρ' : Rho} (e : Ext G H ρ H' ρ') : Mo G H ρ H' ρ' := ⟨e.pre, e.tup, fun a o n p h => e.keep a o n p.tbl h⟩
theorem Ext.refl {G : Gx} {H : Hp} {ρ : Rho} : Ext G H ρ H ρ := ⟨fun _ _ h => h, rfl, fun _ _ => rfl, fun _ _ h => h, fun _ _ h1 _ h2 => ⟨h2, h1⟩⟩
theorem Ext.trans {G : Gx} {H H1 H2 : Hp} {ρ ρ1 ρ2 : Rho} (a : Ext G H ρ H1 ρ1) (b : Ext G H1 ρ1 H2 ρ2) : Ext G H ρ H2 ρ2 :=
  ⟨fun n c h => b.pre n c (a.pre n c h), b.res.trans a.res, fun c hc => (b.same c (by rw [a.res]; exact hc)).trans (a.same c hc), fun c xs h => b.tup c xs (a.tup c xs h), fun c o h1 h3 h2 => b.keep c o (a.keep c o h1 h3 h2).2 h3 (a.keep c o h1 h3 h2).1⟩
theorem Mo.rd {G : Gx} {H H' : Hp} {ρ ρ' : Rho} (e : Mo G H ρ H' ρ') {a : Addr} {kvs : List (List Key × V)} (n : a ∉ ρ) (h : Rd H a (.dT kvs)) : Rd H' a (.dT kvs) ∧ a ∉ ρ' := by
  rcases h with h | ⟨o, h⟩
  · exact ⟨.inl (e.keep _ _ n .d h).1, (e.keep _ _ n .d h).2⟩
  · exact ⟨.inr ⟨o, (e.keep _ _ n .f h).1⟩, (e.keep _ _ n .f h).2⟩
mutual
theorem RV.mo {G : Gx} {H H' : Hp} {ρ ρ' : Rho} (e : Mo G H ρ H' ρ') : ∀ {d : D} {v : V}, RV G H ρ d v → RV G H' ρ' d v
  | _, _, .non => .non
  | _, _, .bl b => .bl b
  | _, _, .int i => .int i
  | _, _, .str s => .str s
  | _, _, .ty s => .ty s
  | _, _, .tup h r => .tup (e.tup _ _ h) (RVs.mo e r)
  | _, _, .lst h n r => .lst (e.keep _ _ n .l h).1 (e.keep _ _ n .l h).2 (RVs.mo e r)
  | _, _, .scr h => .scr (by
      rcases h with ⟨h | ⟨o, h⟩, n⟩ | h
      · exact .inl ⟨.inl (e.keep _ _ n .l h).1, (e.keep _ _ n .l h).2⟩
      · exact .inl ⟨.inr ⟨o, (e.keep _ _ n .f h).1⟩, (e.keep _ _ n .f h).2⟩
      · exact .inr h)
  | _, _, .ref h => .ref (e.pre _ _ h)
  | _, _, .obj c h l n r => .obj c (e.keep _ _ n .i h).1 l (e.keep _ _ n .i h).2 (RVs.mo e r)
  | _, _, .cls h => .cls h
  | _, _, .dK h l n r => .dK (e.keep _ _ n .k h).1 l (e.keep _ _ n .k h).2 (RVs.mo e r)
  | _, _, .dT h l n r => .dT (e.rd n h).1 l (e.rd n h).2 (RVs.mo e r)
theorem RVs.mo {G : Gx} {H H' : Hp} {ρ ρ' : Rho} (e : Mo G H ρ H' ρ') : ∀ {ds : List D} {vs : List V}, RVs G H ρ ds vs → RVs G H' ρ' ds vs
  | _, _, .nil => .nil
  | _, _, .cons a b => .cons (RV.mo e a) (RVs.mo e b)
end
theorem RV.mono {G : Gx} {H H' : Hp} {ρ ρ' : Rho} (e : Ext G H ρ H' ρ') {d : D} {v : V} (h : RV G H ρ d v) : RV G H' ρ' d v := h.mo e.mo
theorem RVs.mono {G : Gx} {H H' : Hp} {ρ ρ' : Rho} (e : Ext G H ρ H' ρ') {d : List D} {v : List V} (h : RVs G H ρ d v) : RVs G H' ρ' d v := h.mo e.mo
section
variable {G : Gx} {H : Hp} {ρ : Rho}
theorem RVs.length : ∀ {ds : List D} {vs : List V}, RVs G H ρ ds vs → vs.length = ds.length
  | _, _, .nil => rfl
  | _, _, .cons _ t => by simp [RVs.length t]
theorem RVs.get : ∀ {ds : List D} {vs : List V} {i : Nat} {d : D}, RVs G H ρ ds vs → ds[i]? = some d → ∃ v, vs[i]? = some v ∧ RV G H ρ d v
  | _, _, _, _, .nil, h => by simp at h
  | _, _, 0, _, .cons r _, h => by simp at h; subst h; exact ⟨_, rfl, r⟩
  | _, _, i + 1, _, .cons _ t, h => by
    obtain ⟨v, h1, h2⟩ := RVs.get (i := i) t (by simpa using h)
    exact ⟨v, by simpa using h1, h2⟩
theorem RVs.append : ∀ {ds es : List D} {vs ws : List V}, RVs G H ρ ds vs → RVs G H ρ es ws → RVs G H ρ (ds ++ es) (vs ++ ws)
  | _, _, _, _, .nil, b => b
  | _, _, _, _, .cons r t, b => .cons r (RVs.append t b)
theorem RVs.take : ∀ {ds : List D} {vs : List V} (n : Nat), RVs G H ρ ds vs → RVs G H ρ (ds.take n) (vs.take n)
  | _, _, 0, _ => .nil
  | _, _, _ + 1, .nil => .nil
  | _, _, n + 1, .cons r t => .cons r (RVs.take n t)
theorem RVs.drop : ∀ {ds : List D} {vs : List V} (n : Nat), RVs G H ρ ds vs → RVs G H ρ (ds.drop n) (vs.drop n)
  | _, _, 0, h => h
  | _, _, _ + 1, .nil => .nil
  | _, _, n + 1, .cons _ t => RVs.drop n t
theorem RVs.set {d : D} {v : V} (r : RV G H ρ d v) : ∀ {ds : List D} {vs : List V} (i : Nat), RVs G H ρ ds vs → RVs G H ρ (ds.set i d) (vs.set i v)
  | _, _, _, .nil => .nil
  | _, _, 0, .cons _ t => .cons r t
  | _, _, i + 1, .cons q t => .cons q (RVs.set r i t)
theorem RVs.rep {ds : List D} {vs : List V} (h : RVs G H ρ ds vs) : ∀ k : Nat, RVs G H ρ (List.replicate k ds).flatten (List.replicate k vs).flatten
  | 0 => .nil
  | k + 1 => by
    rw [List.replicate_succ, List.replicate_succ, List.flatten_cons, List.flatten_cons]
    exact RVs.append h (RVs.rep h k)
theorem RVs.ints : ∀ (ns : List Int), RVs G H ρ (ns.map D.int) (ns.map V.int)
  | [] => .nil
  | n :: ns => .cons (.int n) (RVs.ints ns)
theorem RVs.one {d : D} {v : V} (h : RV G H ρ d v) : RVs G H ρ [d] [v] := .cons h .nil
theorem RVs.two {d e : D} {v w : V} (h : RV G H ρ d v) (h2 : RV G H ρ e w) : RVs G H ρ [d, e] [v, w] := .cons h (.cons h2 .nil)
def COk (G : Gx) (H : Hp) (ρ : Rho) (a : Addr) : Cell → Prop
  | .lst ds => ∃ vs, H a = some (.lst vs) ∧ RVs G H ρ ds vs
  | .ins c ks ds => ∃ C dx vs, G.cl c = some C ∧ H a = some (.ins C dx (ks.zip vs)) ∧ ks.length = vs.length ∧ RVs G H ρ ds vs
  | .dK ks ds => ∃ vs, H a = some (.dK (ks.zip vs)) ∧ ks.length = vs.length ∧ RVs G H ρ ds vs
  | .dT ks ds => ∃ vs, H a = some (.dT (ks.zip vs)) ∧ ks.length = vs.length ∧ RVs G H ρ ds vs
def isCO (o : HO) : Prop := (∃ xs, o = .lst xs) ∨ (∃ C dx fs, o = .ins C dx fs) ∨ (∃ kvs, o = .dK kvs) ∨ ∃ kvs, o = .dT kvs
theorem isCO.i {C dx : Addr} {fs : List (Str × V)} : isCO (.ins C dx fs) := .inr (.inl ⟨_, _, _, rfl⟩)
theorem isCO.tup {o : HO} (h : isCO o) (xs : List V) : o ≠ .tup xs := fun z => by rcases h with ⟨_, h⟩ | ⟨_, _, _, h⟩ | ⟨_, h⟩ | ⟨_, h⟩ <;> rw [h] at z <;> cases z
theorem isCO.frz {o : HO} (h : isCO o) (q : Obj) (u : HO) : o ≠ .frz q u := fun z => by rcases h with ⟨_, h⟩ | ⟨_, _, _, h⟩ | ⟨_, h⟩ | ⟨_, h⟩ <;> rw [h] at z <;> cases z
theorem isCO.tbl {o : HO} (h : isCO o) (ps : Array Value) : o ≠ .tbl ps := fun z => by rcases h with ⟨_, h⟩ | ⟨_, _, _, h⟩ | ⟨_, h⟩ | ⟨_, h⟩ <;> rw [h] at z <;> cases z
theorem isCO.code {o : HO} (h : isCO o) {c : Addr} {q : Str} : o ≠ LamX.CodeO c q := fun z => by unfold LamX.CodeO at z; rcases h with ⟨_, h⟩ | ⟨_, _, _, h⟩ | ⟨_, h⟩ | ⟨_, h⟩ <;> rw [h] at z <;> cases z
/-- the name of a lambda -/
def lamQ (q : Str) : Bool := q.cps.toList.getLast? == some 62
/-- the tables of code objects that are told of -/
def TabR (G : Gx) (H : Hp) : Prop := ∀ (q : Str) (P : Addr), lamQ q = true → G.cl q = some P → LamX.TabS H P q
theorem TabR.keeps {H H' : Hp} (t : TabR G H) (e : ∀ b o, H b = some o → ¬ isCO o → H' b = some o) : TabR G H' := fun q P hq hc => by
  obtain ⟨ps, h1, h2, h3⟩ := t q P hq hc
  refine ⟨ps, e _ _ h1 (fun z => z.tbl ps rfl), h2, fun pos cv hcv => ?_⟩
  obtain ⟨c, e1, e2⟩ := h3 pos cv hcv
  exact ⟨c, e1, e _ _ e2 (fun z => z.code rfl)⟩
structure RS (G : Gx) (H : Hp) (ρ : Rho) (M : Sto) : Prop where
  len : ρ.c.length = M.length
  nd : ρ.c.Nodup
  dis : ∀ a, a ∈ ρ.c → a ∉ ρ.t
  trt : ∀ a, a ∈ ρ.t → ∃ o, H a = some o ∧ isCO o
  at_ : ∀ (n : Nat) (c : Cell), M[n]? = some c → ∃ a, ρ.c[n]? = some a ∧ COk G H ρ a c
  tb : TabR G H
theorem RS.trk {M : Sto} (S : RS G H ρ M) {a : Addr} (h : a ∈ ρ.c) : ∃ (n : Nat) (c : Cell), ρ.c[n]? = some a ∧ M[n]? = some c ∧ COk G H ρ a c := by
  obtain ⟨n, hn, e⟩ := List.getElem_of_mem h
  have hm : n < M.length := by rw [← S.len]; exact hn
  obtain ⟨b, hb, q⟩ := S.at_ n M[n] (List.getElem?_eq_getElem hm)
  have hb' : ρ.c[n]? = some a := by rw [List.getElem?_eq_getElem hn, e]
  rw [hb'] at hb
  cases hb
  exact ⟨n, M[n], hb', List.getElem?_eq_getElem hm, q⟩
theorem COk.has {a : Addr} {c : Cell} (h : COk G H ρ a c) : ∃ o, H a = some o ∧ isCO o := by
  cases c with
  | lst ds => obtain ⟨vs, e, _⟩ := h; exact ⟨_, e, .inl ⟨_, rfl⟩⟩
  | ins c ks ds => obtain ⟨C, dx, vs, _, e, _⟩ := h; exact ⟨_, e, .i⟩
  | dK ks ds => obtain ⟨vs, e, _⟩ := h; exact ⟨_, e, .inr (.inr (.inl ⟨_, rfl⟩))⟩
  | dT ks ds => obtain ⟨vs, e, _⟩ := h; exact ⟨_, e, .inr (.inr (.inr ⟨_, rfl⟩))⟩
theorem COk.mo {H' : Hp} {ρ' : Rho} {a : Addr} {c : Cell} (e : Mo G H ρ H' ρ') (hk : H' a = H a) (h : COk G H ρ a c) : COk G H' ρ' a c := by
  cases c with
  | lst ds => obtain ⟨vs, q, r⟩ := h; exact ⟨vs, hk.trans q, r.mo e⟩
  | ins c ks ds => obtain ⟨C, dx, vs, hc, q, l, r⟩ := h; exact ⟨C, dx, vs, hc, hk.trans q, l, r.mo e⟩
  | dK ks ds => obtain ⟨vs, q, l, r⟩ := h; exact ⟨vs, hk.trans q, l, r.mo e⟩
  | dT ks ds => obtain ⟨vs, q, l, r⟩ := h; exact ⟨vs, hk.trans q, l, r.mo e⟩
theorem COk.mono {H' : Hp} {ρ' : Rho} {a : Addr} {c : Cell} (e : Ext G H ρ H' ρ') (hk : H' a = H a) (h : COk G H ρ a c) : COk G H' ρ' a c := by
  cases c with
  | lst ds => obtain ⟨vs, q, r⟩ := h; exact ⟨vs, hk.trans q, r.mono e⟩
  | ins c ks ds => obtain ⟨C, dx, vs, hc, q, l, r⟩ := h; exact ⟨C, dx, vs, hc, hk.trans q, l, r.mono e⟩
  | dK ks ds => obtain ⟨vs, q, l, r⟩ := h; exact ⟨vs, hk.trans q, l, r.mono e⟩
  | dT ks ds => obtain ⟨vs, q, l, r⟩ := h; exact ⟨vs, hk.trans q, l, r.mono e⟩
theorem RS.has {M : Sto} (S : RS G H ρ M) {a : Addr} (h : a ∈ ρ) : ∃ o, H a = some o ∧ isCO o := by
  rcases h with h | h
  · obtain ⟨_, _, _, _, q⟩ := S.trk h
    exact q.has
  · exact S.trt a h
theorem RS.fresh {M : Sto} (S : RS G H ρ M) {p : Addr} (hp : H p = none) : p ∉ ρ := fun hm => by
  obtain ⟨o, e, _⟩ := S.has hm
  rw [hp] at e; cases e
theorem sqT_upd {p : Addr} {o : HO} {a : Addr} {xs : List V} (h : SqT G.K H a xs) (hn : ∀ u, H p = some u → (∀ ys, u ≠ .tup ys) ∧ (∀ q w, u ≠ .frz q w)) : SqT G.K (upd H p o) a xs := by
  rcases h with (h | ⟨q, h⟩) | h
  · have : a ≠ p := fun z => by subst z; exact (hn _ h).1 _ rfl
    exact .inl (.inl (by rw [upd_ne this]; exact h))
  · have : a ≠ p := fun z => by subst z; exact (hn _ h).2 _ _ rfl
    exact .inl (.inr ⟨q, by rw [upd_ne this]; exact h⟩)
  · exact .inr h
theorem tpA_upd {p : Addr} {o : HO} {a : Addr} {xs : List V} (h : TpA G H a xs) (hn : ∀ u, H p = some u → (∀ ys, u ≠ .tup ys) ∧ (∀ q w, u ≠ .frz q w)) : TpA G (upd H p o) a xs :=
  ⟨sqT_upd h.1 hn, fun z => by
    have e := h.2 z
    rw [upd_ne (fun q : a = p => (hn _ (by rw [← q]; exact e)).1 _ rfl)]
    exact e⟩
theorem RS.ne_new {M : Sto} (S : RS G H ρ M) {p a : Addr} (hp : H p = none) (h : a ∈ ρ) : a ≠ p := fun z => by subst z; exact S.fresh hp h
/-- a new thing that is no cell -/
theorem Ext.new {M : Sto} (S : RS G H ρ M) {p : Addr} {o : HO} (hp : H p = none) : Ext G H ρ (upd H p o) ρ :=
  ⟨fun _ _ h => h, rfl, fun a h => upd_ne (S.ne_new hp (.inr h)), fun a xs h => tpA_upd h (fun u z => by rw [hp] at z; cases z), fun a u h1 _ h2 => ⟨by rw [upd_ne (ne_of_none h2 hp)]; exact h2, h1⟩⟩
theorem RS.ext {M : Sto} (S : RS G H ρ M) {H' : Hp} (e : Ext G H ρ H' ρ) (hk : ∀ a, a ∈ ρ.c → H' a = H a) (ht : TabR G H') : RS G H' ρ M :=
  ⟨S.len, S.nd, S.dis, fun a h => by rw [e.same a h]; exact S.trt a h, fun n c h => by
    obtain ⟨a, ha, q⟩ := S.at_ n c h
    exact ⟨a, ha, q.mono e (hk a (List.mem_of_getElem? ha))⟩, ht⟩
theorem RS.new {M : Sto} (S : RS G H ρ M) {p : Addr} {o : HO} (hp : H p = none) : RS G (upd H p o) ρ M :=
  S.ext (Ext.new S hp) (fun a ha => upd_ne (S.ne_new hp (.inl ha))) (S.tb.keeps fun b u z _ => by rw [upd_ne (ne_of_none z hp)]; exact z)
def Rho.add (ρ : Rho) (p : Addr) : Rho := ⟨ρ.c ++ [p], ρ.t⟩
/-- a new cell -/
theorem Ext.cell {M : Sto} (S : RS G H ρ M) {p : Addr} {o : HO} (hp : H p = none) : Ext G H ρ (upd H p o) (ρ.add p) :=
  ⟨fun n a h => by show (ρ.c ++ [p])[n]? = some a; rw [List.getElem?_append_left (List.getElem?_eq_some_iff.mp h).1]; exact h, rfl, fun a h => upd_ne (S.ne_new hp (.inr h)), fun a xs h => tpA_upd h (fun u z => by rw [hp] at z; cases z),
   fun a u h1 _ h2 => ⟨by rw [upd_ne (ne_of_none h2 hp)]; exact h2, fun z => by
     rcases z with z | z
     · rcases List.mem_append.mp z with z | z
       · exact h1 (.inl z)
       · exact ne_of_none h2 hp (by simpa using z)
     · exact h1 (.inr z)⟩⟩
theorem RS.cell {M : Sto} (S : RS G H ρ M) {p : Addr} {o : HO} {c : Cell} (hp : H p = none) (hc : COk G (upd H p o) (ρ.add p) p c) : RS G (upd H p o) (ρ.add p) (M ++ [c]) :=
  ⟨by show (ρ.c ++ [p]).length = _; simp [S.len], List.nodup_append.mpr ⟨S.nd, by simp, fun a ha b hb => by
      have : b = p := by simpa using hb
      subst this
      exact S.ne_new hp (.inl ha)⟩,
   fun a ha hb => by
      rcases List.mem_append.mp ha with z | z
      · exact S.dis a z hb
      · exact S.ne_new hp (.inr hb) (by simpa using z),
   fun a h => by rw [upd_ne (S.ne_new hp (.inr h))]; exact S.trt a h,
   fun n c' h => by
    by_cases hn : n < M.length
    · rw [List.getElem?_append_left hn] at h
      obtain ⟨a, ha, q⟩ := S.at_ n c' h
      refine ⟨a, ?_, q.mono (Ext.cell S hp) (upd_ne (S.ne_new hp (.inl (List.mem_of_getElem? ha))))⟩
      show (ρ.c ++ [p])[n]? = some a
      rw [List.getElem?_append_left (by rw [S.len]; exact hn)]; exact ha
    · have e : n = M.length := by
        have := (List.getElem?_eq_some_iff.mp h).1
        simp at this; omega
      subst e
      simp at h
      subst h
      exact ⟨p, by show (ρ.c ++ [p])[M.length]? = some p; rw [← S.len]; simp, hc⟩, S.tb.keeps fun b u z _ => by rw [upd_ne (ne_of_none z hp)]; exact z⟩
/-- a cell is written -/
theorem Ext.write {M : Sto} (S : RS G H ρ M) {n : Nat} {a : Addr} {o : HO} (ha : ρ.c[n]? = some a) : Ext G H ρ (upd H a o) ρ :=
  ⟨fun _ _ h => h, rfl, fun b h => upd_ne (fun z => by subst z; exact S.dis b (List.mem_of_getElem? ha) h), fun b xs h => tpA_upd h (fun u z => by
      obtain ⟨w, e, q⟩ := S.has (.inl (List.mem_of_getElem? ha))
      rw [e] at z; cases z; exact ⟨q.tup, q.frz⟩),
    fun b u h1 _ h2 => ⟨by rw [upd_ne (fun z => h1 (by rw [z]; exact .inl (List.mem_of_getElem? ha)))]; exact h2, h1⟩⟩
theorem nodup_at : ∀ {l : List Addr}, l.Nodup → ∀ {n m : Nat} {a : Addr}, l[n]? = some a → l[m]? = some a → n = m
  | [], _, _, _, _, h, _ => by simp at h
  | x :: l, nd, 0, 0, _, _, _ => rfl
  | x :: l, nd, 0, m + 1, a, h1, h2 => by
    have e : x = a := by simpa using h1
    subst e
    exact absurd (List.mem_of_getElem? (by simpa using h2)) (List.nodup_cons.mp nd).1
  | x :: l, nd, n + 1, 0, a, h1, h2 => by
    have e : x = a := by simpa using h2
    subst e
    exact absurd (List.mem_of_getElem? (by simpa using h1)) (List.nodup_cons.mp nd).1
  | x :: l, nd, n + 1, m + 1, a, h1, h2 => by
    rw [nodup_at (List.nodup_cons.mp nd).2 (n := n) (m := m) (a := a) (by simpa using h1) (by simpa using h2)]
theorem RS.write {M : Sto} (S : RS G H ρ M) {n : Nat} {a : Addr} {o : HO} {c : Cell} (ha : ρ.c[n]? = some a) (hc : COk G (upd H a o) ρ a c) : RS G (upd H a o) ρ (M.set n c) :=
  ⟨by simp [S.len], S.nd, S.dis, fun b h => by rw [(Ext.write S ha).same b h]; exact S.trt b h, fun m c' h => by
    by_cases hm : m = n
    · subst hm
      have hl : m < M.length := by rw [← S.len]; exact (List.getElem?_eq_some_iff.mp ha).1
      rw [List.getElem?_set_self hl] at h
      cases h
      exact ⟨a, ha, hc⟩
    · rw [List.getElem?_set_ne (Ne.symm hm)] at h
      obtain ⟨b, hb, q⟩ := S.at_ m c' h
      exact ⟨b, hb, q.mono (Ext.write S ha) (upd_ne fun z => by subst z; exact hm (nodup_at S.nd hb ha))⟩, S.tb.keeps fun b u z nz => by
    rw [upd_ne fun e => ?_]
    · exact z
    · obtain ⟨w, e1, q⟩ := S.has (.inl (List.mem_of_getElem? ha))
      rw [e, e1] at z
      cases z
      exact nz q⟩
end
def RE (G : Gx) (H : Hp) (ρ : Rho) (env : En) (σ : L2.St) : Prop := env.length = σ.length ∧ ∀ (i : Nat) (d : D), env[i]? = some (some d) → ∃ v, σ[i]? = some (some v) ∧ RV G H ρ d v
theorem RE.mo {G : Gx} {H H' : Hp} {ρ ρ' : Rho} {env : En} {σ : L2.St} (e : Mo G H ρ H' ρ') (h : RE G H ρ env σ) : RE G H' ρ' env σ :=
  ⟨h.1, fun i d q => let ⟨v, a, b⟩ := h.2 i d q; ⟨v, a, b.mo e⟩⟩
theorem RE.mono {G : Gx} {H H' : Hp} {ρ ρ' : Rho} {env : En} {σ : L2.St} (e : Ext G H ρ H' ρ') (h : RE G H ρ env σ) : RE G H' ρ' env σ :=
  ⟨h.1, fun i d q => let ⟨v, a, b⟩ := h.2 i d q; ⟨v, a, b.mono e⟩⟩
theorem RE.set {G : Gx} {H : Hp} {ρ : Rho} {env : En} {σ : L2.St} {d : D} {v : V} (i : Nat) (h : RE G H ρ env σ) (r : RV G H ρ d v) : RE G H ρ (env.set i (some d)) (σ.set i (some v)) :=
  ⟨by simp [h.1], fun j d' q => by
    by_cases hj : j = i
    · subst hj
      have hl : j < env.length := by
        have := (List.getElem?_eq_some_iff.mp q).1
        simpa using this
      rw [List.getElem?_set_self hl] at q
      cases q
      exact ⟨v, List.getElem?_set_self (by rw [← h.1]; exact hl), r⟩
    · rw [List.getElem?_set_ne (Ne.symm hj)] at q
      obtain ⟨w, a, b⟩ := h.2 j d' q
      exact ⟨w, by rw [List.getElem?_set_ne (Ne.symm hj)]; exact a, b⟩⟩
structure Exn where
  c : Str
  ks : List Str
  vs : List D
inductive Out (α : Type) where
  | ok (a : α) (M : Sto)
  | exc (e : Exn) (env : En) (M : Sto)
  | bad
def Out.post {α : Type} (o : Out α) (Q : α → Sto → Prop) (E : Exn → En → Sto → Prop) : Prop :=
  match o with
  | .ok a M => Q a M
  | .exc e env M => E e env M
  | .bad => False
def Out.bind {α β : Type} (o : Out α) (k : α → Sto → Out β) : Out β :=
  match o with
  | .ok a M => k a M
  | .exc e env M => .exc e env M
  | .bad => .bad
theorem post_bind {α β : Type} {o : Out α} {k : α → Sto → Out β} {Q : β → Sto → Prop} {E : Exn → En → Sto → Prop} (h : (o.bind k).post Q E) : o.post (fun a M => (k a M).post Q E) E := by
  cases o <;> exact h
theorem Out.post.imp {α : Type} {o : Out α} {Q Q' : α → Sto → Prop} {E E' : Exn → En → Sto → Prop} (h : o.post Q E) (hq : ∀ a M, Q a M → Q' a M) (he : ∀ e env M, E e env M → E' e env M) : o.post Q' E' := by
  cases o with
  | ok a M => exact hq _ _ h
  | exc e env M => exact he _ _ _ h
  | bad => exact h
def eP (G : Gx) (W : WX) (H : Hp) (ρ : Rho) : Exn → En → Sto → Prop := fun e env M' =>
  ∀ ρ' H' σ' C d vs, Ext G H ρ H' ρ' → RS G H' ρ' M' → RE G H' ρ' env σ' → G.cl e.c = some C → H' d = some (.xd (e.ks.zip vs)) → d ∉ ρ' → e.ks.length = vs.length → RVs G H' ρ' e.vs vs → W (.ref C) (some d) σ' H'
def oP (G : Gx) (H : Hp) (ρ : Rho) (Q : VK) : D → Sto → Prop := fun d M' => ∀ ρ' v H', Ext G H ρ H' ρ' → RS G H' ρ' M' → RV G H' ρ' d v → Q v H'
def bP (G : Gx) (H : Hp) (ρ : Rho) (Q : Bool → Hp → Prop) : Bool → Sto → Prop := fun b M' => ∀ ρ' H', Ext G H ρ H' ρ' → RS G H' ρ' M' → Q b H'
def aP (G : Gx) (H : Hp) (ρ : Rho) (Q : List V → Hp → Prop) : List D → Sto → Prop := fun ds M' => ∀ ρ' vs H', Ext G H ρ H' ρ' → RS G H' ρ' M' → RVs G H' ρ' ds vs → Q vs H'
section
variable {G : Gx} {W : WX} {H H1 : Hp} {ρ ρ1 : Rho}
theorem eP.sh (x : Ext G H ρ H1 ρ1) {e : Exn} {env : En} {M : Sto} (h : eP G W H ρ e env M) : eP G W H1 ρ1 e env M :=
  fun ρ' H' σ' C d vs a b c e1 e2 e3 e4 e5 => h ρ' H' σ' C d vs (x.trans a) b c e1 e2 e3 e4 e5
theorem oP.sh (x : Ext G H ρ H1 ρ1) {Q : VK} {d : D} {M : Sto} (h : oP G H ρ Q d M) : oP G H1 ρ1 Q d M := fun ρ' v H' a b c => h ρ' v H' (x.trans a) b c
theorem bP.sh (x : Ext G H ρ H1 ρ1) {Q : Bool → Hp → Prop} {d : Bool} {M : Sto} (h : bP G H ρ Q d M) : bP G H1 ρ1 Q d M := fun ρ' H' a b => h ρ' H' (x.trans a) b
end
abbrev DE := En → Sto → Out D
abbrev DA := En → Sto → Out (List D)
abbrev DT := En → Sto → Out Bool
def dE (G : Gx) (W : WX) (f : DE) : TE := fun σ H Q => ∃ ρ env M, RE G H ρ env σ ∧ RS G H ρ M ∧ (f env M).post (oP G H ρ Q) (eP G W H ρ)
def dA (G : Gx) (W : WX) (f : DA) : TA := fun σ H Q => ∃ ρ env M, RE G H ρ env σ ∧ RS G H ρ M ∧ (f env M).post (aP G H ρ Q) (eP G W H ρ)
def dT (G : Gx) (W : WX) (f : DT) : TT := fun σ H Q => ∃ ρ env M, RE G H ρ env σ ∧ RS G H ρ M ∧ (f env M).post (bP G H ρ Q) (eP G W H ρ)
end Ip
end
section
set_option Elab.async false
set_option linter.all false
set_option maxRecDepth 100000
set_option maxHeartbeats 4000000
set_option autoImplicit false
namespace Ip
open PySem L2
theorem PEweak {X : Cx} {e : Expr} {t t' : TE} (h : PE X e t) (w : ∀ σ H Q, t' σ H Q → t σ H Q) : PE X e t' := ⟨fun pins s σ H Q I z => h.run pins s σ H Q I (w σ H Q z)⟩
theorem PTweak {X : Cx} {e : Expr} {t t' : TT} (h : PT X e t) (w : ∀ σ H Q, t' σ H Q → t σ H Q) : PT X e t' := ⟨fun pins s σ H Q I z => h.run pins s σ H Q I (w σ H Q z)⟩
theorem PWweak {X : Cx} {e : Expr} {t t' : TT} (h : PW X e t) (w : ∀ σ H Q, t' σ H Q → t σ H Q) : PW X e t' := ⟨fun wh pins s σ H Q I z => h.run wh pins s σ H Q I (w σ H Q z)⟩
theorem PAweak {X : Cx} {e : List Expr} {t t' : TA} (h : PA X e t) (w : ∀ σ H Q, t' σ H Q → t σ H Q) : PA X e t' := ⟨fun pos pins s σ H Q I z => h.run pos pins s σ H Q I (w σ H Q z)⟩
theorem PSweak {X : Cx} {e : Stmt} {t t' : TS} (h : PS X e t) (w : ∀ D σ H, t' D σ H → t D σ H) : PS X e t' := ⟨fun pins s σ H D I z => h.run pins s σ H D I (w D σ H z)⟩
theorem PSsweak {X : Cx} {e : List Stmt} {t t' : TS} (h : PSs X e t) (w : ∀ D σ H, t' D σ H → t D σ H) : PSs X e t' := ⟨fun pins s σ H D I z => h.run pins s σ H D I (w D σ H z)⟩
theorem PIweak {X : Cx} {tg e : Expr} {t t' : TI} (h : PI X tg e t) (w : ∀ σ H Q, t' σ H Q → t σ H Q) : PI X tg e t' := ⟨fun pins s σ H Q I z => h.run pins s σ H Q I (w σ H Q z)⟩
theorem PTsweak {X : Cx} {e : List Expr} {t t' : TT} (h : PTs X e t) (w : ∀ σ H Q, t' σ H Q → t σ H Q) : PTs X e t' := ⟨fun pins s σ H Q I z => h.run pins s σ H Q I (w σ H Q z)⟩
theorem POweak {X : Cx} {e : Option Expr} {t t' : TO} (h : PO X e t) (w : ∀ σ H Q, t' σ H Q → t σ H Q) : PO X e t' := ⟨fun pins s σ H Q I z => h.run pins s σ H Q I (w σ H Q z)⟩
abbrev gx (X : Cx) (cl : Str → Option Addr) : Gx := ⟨X.K, cl⟩
def SE (X : Cx) (cl : Str → Option Addr) (W : WX) (e : Expr) (f : DE) : Prop := PE X e (dE (gx X cl) W f)
def SA (X : Cx) (cl : Str → Option Addr) (W : WX) (es : List Expr) (f : DA) : Prop := PA X es (dA (gx X cl) W f)
def ST (X : Cx) (cl : Str → Option Addr) (W : WX) (e : Expr) (f : DT) : Prop := PT X e (dT (gx X cl) W f)
def SW (X : Cx) (cl : Str → Option Addr) (W : WX) (e : Expr) (f : DT) : Prop := PW X e (dT (gx X cl) W f)
def dVar (i : Nat) : DE := fun env M => match env[i]? with
  | some (some d) => .ok d M
  | _ => .bad
def dC (d : D) : DE := fun _ M => .ok d M
def liftM (o : Option (D × Sto)) : Out D := match o with
  | some p => .ok p.1 p.2
  | none => .bad
abbrev G2 := D → D → Sto → Option (D × Sto)
def dBin (g : G2) (fa fb : DE) : DE := fun env M => (fa env M).bind fun x M1 => (fb env M1).bind fun y M2 => liftM (g x y M2)
def dUn (g : D → Sto → Option (D × Sto)) (fa : DE) : DE := fun env M => (fa env M).bind fun x M1 => liftM (g x M1)
def dNilA : DA := fun _ M => .ok [] M
def dConsA (fa : DE) (fr : DA) : DA := fun env M => (fa env M).bind fun x M1 => (fr env M1).bind fun xs M2 => .ok (x :: xs) M2
def dTup (fa : DA) : DE := fun env M => (fa env M).bind fun xs M1 => if xs.length ≤ 16777216 then .ok (.tup xs) M1 else .bad
def dLst (fa : DA) : DE := fun env M => (fa env M).bind fun xs M1 => if xs.length ≤ 16777216 then .ok (.lst xs) M1 else .bad
def dLstC (fa : DA) : DE := fun env M => (fa env M).bind fun xs M1 => if xs.length ≤ 16777216 then .ok (.ref M1.length) (M1 ++ [.lst xs]) else .bad
def dCallB (g : List D → Sto → Option (D × Sto)) (fa : DA) : DE := fun env M => (fa env M).bind fun xs M1 => liftM (g xs M1)
def dIfE (ft : DT) (fa fb : DE) : DE := fun env M => (ft env M).bind fun c M1 => if c then fa env M1 else fb env M1
def dAndV (fa fb : DE) : DE := fun env M => (fa env M).bind fun x M1 => match x with
  | .bl true => fb env M1
  | .bl false => .ok (.bl false) M1
  | _ => .bad
def dOrV (fa fb : DE) : DE := fun env M => (fa env M).bind fun x M1 => match x with
  | .bl true => .ok (.bl true) M1
  | .bl false => fb env M1
  | _ => .bad
def dNotV (fa : DE) : DE := fun env M => (fa env M).bind fun x M1 => match x with
  | .bl b => .ok (.bl (!b)) M1
  | _ => .bad
def dAnd (fa fb : DT) : DT := fun env M => (fa env M).bind fun c M1 => if c then fb env M1 else .ok false M1
def dOr (fa fb : DT) : DT := fun env M => (fa env M).bind fun c M1 => if c then .ok true M1 else fb env M1
def dNot (fa : DT) : DT := fun env M => (fa env M).bind fun c M1 => .ok (!c) M1
/-- the truth of a value that is no object -/
def truD (x : D) (M : Sto) : Option Bool := match x with
  | .non => some false
  | .bl b => some b
  | .int i => some (i != 0)
  | .lst l => some (!l.isEmpty)
  | .tup l => some (!l.isEmpty)
  | .ref n => match M[n]? with
    | some (.lst l) => some (!l.isEmpty)
    | _ => none
  | _ => none
def dTru (fa : DE) : DT := fun env M => (fa env M).bind fun x M1 => match truD x M1 with
  | some b => .ok b M1
  | none => .bad
def dChain (g g' : G2) (fa fb fc : DE) : DE := fun env M => (fa env M).bind fun x M1 => (fb env M1).bind fun y M2 => (liftM (g x y M2)).bind fun z M3 => match z with
  | .bl true => (fc env M3).bind fun w M4 => liftM (g' y w M4)
  | .bl false => .ok (.bl false) M3
  | _ => .bad
def OpS (G : Gx) (r : R2) (g : G2) : Prop := ∀ (H : Hp) (ρ : Rho) (M : Sto) (x y : V) (dx dy d : D) (M' : Sto) (Q : VK), RS G H ρ M → RV G H ρ dx x → RV G H ρ dy y → g dx dy M = some (d, M') → oP G H ρ Q d M' → r x y H Q
def UnS (G : Gx) (r : V → Hp → VK → Prop) (g : D → Sto → Option (D × Sto)) : Prop := ∀ (H : Hp) (ρ : Rho) (M : Sto) (x : V) (dx d : D) (M' : Sto) (Q : VK), RS G H ρ M → RV G H ρ dx x → g dx M = some (d, M') → oP G H ρ Q d M' → r x H Q
def CallS (G : Gx) (r : List V → Hp → VK → Prop) (g : List D → Sto → Option (D × Sto)) : Prop := ∀ (H : Hp) (ρ : Rho) (M : Sto) (xs : List V) (ds : List D) (d : D) (M' : Sto) (Q : VK), RS G H ρ M → RVs G H ρ ds xs → g ds M = some (d, M') → oP G H ρ Q d M' → r xs H Q
section
variable {X : Cx} {cl : Str → Option Addr} {W : WX} {G : Gx}
theorem lift_some {o : Option (D × Sto)} {Q : D → Sto → Prop} {E : Exn → En → Sto → Prop} (h : (liftM o).post Q E) : ∃ d M, o = some (d, M) ∧ Q d M := by
  cases o with
  | none => exact h.elim
  | some p => exact ⟨p.1, p.2, rfl, h⟩
theorem two {r : R2} {g : G2} {fa fb : DE} {σ : L2.St} {H : Hp} {Q : VK} {ρ : Rho} {env : En} {M : Sto} (hg : OpS G r g) (hE : RE G H ρ env σ) (hS : RS G H ρ M) (h : (dBin g fa fb env M).post (oP G H ρ Q) (eP G W H ρ)) : tOp r (dE G W fa) (dE G W fb) σ H Q := by
  refine ⟨ρ, env, M, hE, hS, (post_bind h).imp (fun x M1 hx ρ1 v H1 e1 S1 r1 => ?_) (fun _ _ _ z => z)⟩
  refine ⟨ρ1, env, M1, hE.mono e1, S1, (post_bind hx).imp (fun y M2 hy ρ2 w H2 e2 S2 r2 => ?_) (fun _ _ _ z => eP.sh e1 z)⟩
  obtain ⟨d, M', e, q⟩ := lift_some hy
  exact hg H2 ρ2 M2 v w x y d M' Q S2 (r1.mono e2) r2 e (oP.sh (e1.trans e2) q)
theorem se_var {i : Nat} {x : Str} {pos : Pos} (hN : X.N[i]? = some x) (hv : Vis X.env.scope x) (hd : (x == ("__debug__" : Str)) = false := by decide) (hcd : (x == ("__classdict__" : Str)) = false := by decide) : SE X cl W (.Name x pos) (dVar i) := by
  refine PEweak (pe_var hN hv hd hcd) fun σ H Q ⟨ρ, env, M, hE, hS, h⟩ => ?_
  unfold dVar at h
  split at h
  · rename_i d hd'
    obtain ⟨v, e, r⟩ := hE.2 i d hd'
    exact ⟨v, e, h ρ v H .refl hS r⟩
  · exact h.elim
theorem se_const {e : Expr} {d : D} {v : V} (h : PE X e (tC v)) (hr : ∀ H ρ, RV (gx X cl) H ρ d v) : SE X cl W e (dC d) :=
  PEweak h fun σ H Q ⟨ρ, env, M, hE, hS, q⟩ => q ρ v H .refl hS (hr H ρ)
theorem se_int {i j pos} : SE X cl W (.Constant (.int i) j pos) (dC (.int i)) := se_const pe_int fun _ _ => .int i
theorem se_bl {b j pos} : SE X cl W (.Constant (.bool b) j pos) (dC (.bl b)) := se_const pe_bl fun _ _ => .bl b
theorem se_non {j pos} : SE X cl W (.Constant .none j pos) (dC .non) := se_const pe_non fun _ _ => .non
theorem se_str {x j pos} : SE X cl W (.Constant (.str x) j pos) (dC (.str x)) := se_const pe_str fun _ _ => .str x
theorem se_bin {op : Operator} {r : R2} {g : G2} {a b : Expr} {fa fb : DE} {pos : Pos} (ho : OpR X (binaryOp op) r) (hg : OpS (gx X cl) r g) (ha : SE X cl W a fa) (hb : SE X cl W b fb) : SE X cl W (.BinOp a op b pos) (dBin g fa fb) :=
  PEweak (pe_op ho ha hb) fun _ _ _ ⟨_, _, _, hE, hS, h⟩ => two hg hE hS h
theorem se_cmp {op : CmpOp} {r : R2} {g : G2} {a b : Expr} {fa fb : DE} {pos : Pos} (ho : OpR X (compareOp op) r) (hg : OpS (gx X cl) r g) (ha : SE X cl W a fa) (hb : SE X cl W b fb) (hm : behindInMarks op b = false) : SE X cl W (.Compare a [op] [b] pos) (dBin g fa fb) :=
  PEweak (pe_cmpR ho ha hb hm) fun _ _ _ ⟨_, _, _, hE, hS, h⟩ => two hg hE hS h
theorem se_ix {r : R2} {g : G2} {a b : Expr} {fa fb : DE} {pos : Pos} (ho : IxR X r) (hg : OpS (gx X cl) r g) (ha : SE X cl W a fa) (hb : SE X cl W b fb) (hs : PlainIx b) : SE X cl W (.Subscript a b pos) (dBin g fa fb) :=
  PEweak (pe_ix ho ha hb hs) fun _ _ _ ⟨_, _, _, hE, hS, h⟩ => two hg hE hS h
theorem se_un {op : UnaryOp} {r : V → Hp → VK → Prop} {g : D → Sto → Option (D × Sto)} {a : Expr} {fa : DE} {pos : Pos} (ho : UnR X (unaryOp op) r) (hg : UnS (gx X cl) r g) (ha : SE X cl W a fa) : SE X cl W (.UnaryOp op a pos) (dUn g fa) :=
  PEweak (pe_un ho ha) fun σ H Q ⟨ρ, env, M, hE, hS, h⟩ => by
    refine ⟨ρ, env, M, hE, hS, (post_bind h).imp (fun x M1 hx ρ1 v H1 e1 S1 r1 => ?_) (fun _ _ _ z => z)⟩
    obtain ⟨d, M', e, q⟩ := lift_some hx
    exact hg H1 ρ1 M1 v x d M' Q S1 r1 e (oP.sh e1 q)
theorem sa_nil : SA X cl W [] dNilA := PAweak pa_nil fun σ H Q ⟨ρ, env, M, hE, hS, h⟩ => h ρ [] H .refl hS .nil
theorem sa_cons {e : Expr} {es : List Expr} {fe : DE} {fr : DA} (he : SE X cl W e fe) (hr : SA X cl W es fr) (hs : starEach (e :: es) X.env = (false, eval e X.env) :: starEach es X.env := by rfl) : SA X cl W (e :: es) (dConsA fe fr) :=
  PAweak (pa_cons he hr hs) fun σ H Q ⟨ρ, env, M, hE, hS, h⟩ => by
    refine ⟨ρ, env, M, hE, hS, (post_bind h).imp (fun x M1 hx ρ1 v H1 e1 S1 r1 => ?_) (fun _ _ _ z => z)⟩
    refine ⟨ρ1, env, M1, hE.mono e1, S1, (post_bind hx).imp (fun y M2 hy ρ2 w H2 e2 S2 r2 => ?_) (fun _ _ _ z => eP.sh e1 z)⟩
    exact hy ρ2 (v :: w) H2 (e1.trans e2) S2 (.cons (r1.mono e2) r2)
theorem line_of {n : Nat} (h : n ≤ 16777216) : n ≤ sizeLine := by rw [sizeLine_eq]; exact h
theorem se_tup {es : List Expr} {fa : DA} {k : Nat} {pos : Pos} (ha : SA X cl W es fa) : SE X cl W (.Tuple es k pos) (dTup fa) :=
  PEweak (pe_tup ha) fun σ H Q ⟨ρ, env, M, hE, hS, h⟩ => by
    refine ⟨ρ, env, M, hE, hS, (post_bind h).imp (fun x M1 hx ρ1 v H1 e1 S1 r1 => ?_) (fun _ _ _ z => z)⟩
    split at hx
    · rename_i hl
      exact ⟨by rw [r1.length]; exact line_of hl, fun p hp => hx ρ1 _ _ (e1.trans (Ext.new S1 hp)) (S1.new hp) (.tup (TpA.of upd_same) (r1.mono (Ext.new S1 hp)))⟩
    · exact hx.elim
theorem se_lst {es : List Expr} {fa : DA} {pos : Pos} (ha : SA X cl W es fa) : SE X cl W (.List es pos) (dLst fa) :=
  PEweak (pe_lst ha) fun σ H Q ⟨ρ, env, M, hE, hS, h⟩ => by
    refine ⟨ρ, env, M, hE, hS, (post_bind h).imp (fun x M1 hx ρ1 v H1 e1 S1 r1 => ?_) (fun _ _ _ z => z)⟩
    split at hx
    · rename_i hl
      exact ⟨by rw [r1.length]; exact line_of hl, fun p hp => hx ρ1 _ _ (e1.trans (Ext.new S1 hp)) (S1.new hp) (.lst upd_same (S1.fresh hp) (r1.mono (Ext.new S1 hp)))⟩
    · exact hx.elim
theorem RS.newLst {H : Hp} {ρ : Rho} {M : Sto} {ds : List D} {vs : List V} {p : Addr} (S : RS G H ρ M) (hp : H p = none) (r : RVs G H ρ ds vs) : RS G (upd H p (.lst vs)) (ρ.add p) (M ++ [.lst ds]) :=
  S.cell hp ⟨vs, upd_same, r.mono (Ext.cell S hp)⟩
theorem RS.at_new {H : Hp} {ρ : Rho} {M : Sto} {p : Addr} (S : RS G H ρ M) : (ρ.add p).c[M.length]? = some p := by show (ρ.c ++ [p])[M.length]? = some p; rw [← S.len]; simp
theorem se_lstC {es : List Expr} {fa : DA} {pos : Pos} (ha : SA X cl W es fa) : SE X cl W (.List es pos) (dLstC fa) :=
  PEweak (pe_lst ha) fun σ H Q ⟨ρ, env, M, hE, hS, h⟩ => by
    refine ⟨ρ, env, M, hE, hS, (post_bind h).imp (fun x M1 hx ρ1 v H1 e1 S1 r1 => ?_) (fun _ _ _ z => z)⟩
    split at hx
    · rename_i hl
      exact ⟨by rw [r1.length]; exact line_of hl, fun p hp => hx _ _ _ (e1.trans (Ext.cell S1 hp)) (S1.newLst hp r1) (.ref S1.at_new)⟩
    · exact hx.elim
theorem se_callB {id : String} {r : List V → Hp → VK → Prop} {g : List D → Sto → Option (D × Sto)} {x : Str} {e : Expr} {es : List Expr} {fa : DA} {p pos : Pos} (hc : CallR X (.builtin id) r) (hg' : CallS (gx X cl) r g) (hg : Gl X x) (hm : X.mg x = none) (hv : bootBuiltins x = some (.builtin id)) (ha : SA X cl W (e :: es) fa)
    (hn : x ≠ "__name__" := by decide) (hdb : (x == ("__debug__" : Str)) = false := by decide)
    (he : starEach (e :: es) X.env = (false, eval e X.env) :: starEach es X.env := by rfl) (hpl : (backTo pos (starEach es X.env)).any (·.1) = false := by rfl) : SE X cl W (.Call (.Name x p) (e :: es) [] pos) (dCallB g fa) :=
  PEweak (pe_callB hc hg hm hv ha hn hdb he hpl) fun σ H Q ⟨ρ, env, M, hE, hS, h⟩ => by
    refine ⟨ρ, env, M, hE, hS, (post_bind h).imp (fun x M1 hx ρ1 v H1 e1 S1 r1 => ?_) (fun _ _ _ z => z)⟩
    obtain ⟨d, M', e, q⟩ := lift_some hx
    exact hg' H1 ρ1 M1 v x d M' Q S1 r1 e (oP.sh e1 q)
theorem se_callTy {T : String} {r : List V → Hp → VK → Prop} {g : List D → Sto → Option (D × Sto)} {x : Str} {e : Expr} {es : List Expr} {fa : DA} {p pos : Pos} (hc : CallR X (.type T) r) (hg' : CallS (gx X cl) r g) (hg : Gl X x) (hm : X.mg x = none) (hv : bootBuiltins x = some (.type T)) (ha : SA X cl W (e :: es) fa)
    (hn : x ≠ "__name__" := by decide) (hdb : (x == ("__debug__" : Str)) = false := by decide)
    (he : starEach (e :: es) X.env = (false, eval e X.env) :: starEach es X.env := by rfl) (hpl : (backTo pos (starEach es X.env)).any (·.1) = false := by rfl) : SE X cl W (.Call (.Name x p) (e :: es) [] pos) (dCallB g fa) :=
  PEweak (pe_callTy hc hg hm hv ha hn hdb he hpl) fun σ H Q ⟨ρ, env, M, hE, hS, h⟩ => by
    refine ⟨ρ, env, M, hE, hS, (post_bind h).imp (fun x M1 hx ρ1 v H1 e1 S1 r1 => ?_) (fun _ _ _ z => z)⟩
    obtain ⟨d, M', e, q⟩ := lift_some hx
    exact hg' H1 ρ1 M1 v x d M' Q S1 r1 e (oP.sh e1 q)
theorem tru_ok' {H : Hp} {ρ : Rho} {M : Sto} {d : D} {v : V} {b : Bool} (S : RS G H ρ M) (r : RV G H ρ d v) (h : truD d M = some b) : TruV G.K v H b := by
  cases r with
  | non => cases h; rfl
  | bl c => cases h; rfl
  | int i => cases h; rfl
  | str s => cases h
  | ty s => cases h
  | tup hs rs => cases h; exact .inr (.inl ⟨_, hs.1, by cases rs <;> rfl⟩)
  | lst hs hn rs => cases h; exact .inl ⟨_, SqL.of hs, by cases rs <;> rfl⟩
  | scr hs => cases h
  | obj => cases h
  | cls => cases h
  | dK => cases h
  | dT => cases h
  | ref hn =>
    rename_i n a
    have h' : (match M[n]? with
      | some (.lst l) => some (!l.isEmpty)
      | _ => none) = some b := h
    split at h'
    · rename_i l hl
      cases h'
      obtain ⟨b, hb, vs, hv, rs⟩ := S.at_ _ _ hl
      rw [hn] at hb; cases hb
      exact .inl ⟨_, SqL.of hv, by cases rs <;> rfl⟩
    · cases h'
theorem st_val {e : Expr} {fe : DE} (he : SE X cl W e fe) (ht : ∀ whole, isTrue e X.env whole = (do let v ← whole; standAt e.pos; holding [v] (truthy v)) := by intro _; rfl) : ST X cl W e (dTru fe) :=
  PTweak (pt_truth he ht) fun σ H Q ⟨ρ, env, M, hE, hS, h⟩ => by
    refine ⟨ρ, env, M, hE, hS, (post_bind h).imp (fun x M1 hx ρ1 v H1 e1 S1 r1 => ?_) (fun _ _ _ z => z)⟩
    split at hx
    · rename_i b hb
      exact ⟨b, tru_ok' S1 r1 hb, hx ρ1 H1 e1 S1⟩
    · exact hx.elim
def dB (fe : DE) : DT := fun env M => (fe env M).bind fun x M1 => match x with
  | .bl b => .ok b M1
  | _ => .bad
theorem dB_ok {fe : DE} {σ : L2.St} {H : Hp} {Q : Bool → Hp → Prop} (h : dT G W (dB fe) σ H Q) : dE G W fe σ H fun x H' => ∃ k, x = .bl k ∧ Q k H' := by
  obtain ⟨ρ, env, M, hE, hS, h⟩ := h
  refine ⟨ρ, env, M, hE, hS, (post_bind h).imp (fun x M1 hx ρ1 v H1 e1 S1 r1 => ?_) (fun _ _ _ z => z)⟩
  cases r1 with
  | bl b => exact ⟨b, rfl, hx ρ1 H1 e1 S1⟩
  | _ => exact hx.elim
theorem st_cmp {op : CmpOp} {r : R2} {g : G2} {a b : Expr} {fa fb : DE} {pos : Pos} (ho : OpR X (compareOp op) r) (hg : OpS (gx X cl) r g) (ha : SE X cl W a fa) (hb : SE X cl W b fb) (hm : behindInMarks op b = false) : ST X cl W (.Compare a [op] [b] pos) (dB (dBin g fa fb)) :=
  PTweak (pt_cmpR ho ha hb hm) fun σ H Q h => by
    obtain ⟨ρ, env, M, hE, hS, h⟩ := dB_ok h
    exact two hg hE hS h
theorem sw_and1 {a : Expr} {fa : DT} {pos : Pos} (ha : ST X cl W a fa) : SW X cl W (.BoolOp .And [a] pos) fa := pw_and1 ha
theorem sw_or1 {a : Expr} {fa : DT} {pos : Pos} (ha : ST X cl W a fa) : SW X cl W (.BoolOp .Or [a] pos) fa := pw_or1 ha
theorem sw_and {a b : Expr} {rest : List Expr} {fa fb : DT} {pos : Pos} (ha : ST X cl W a fa) (hb : SW X cl W (.BoolOp .And (b :: rest) pos) fb) : SW X cl W (.BoolOp .And (a :: b :: rest) pos) (dAnd fa fb) :=
  PWweak (pw_and ha hb) fun σ H Q ⟨ρ, env, M, hE, hS, h⟩ => by
    refine ⟨ρ, env, M, hE, hS, (post_bind h).imp (fun c M1 hx ρ1 H1 e1 S1 => ?_) (fun _ _ _ z => z)⟩
    cases c with
    | true => exact ⟨ρ1, env, M1, hE.mono e1, S1, Out.post.imp hx (fun _ _ z => bP.sh e1 z) (fun _ _ _ z => eP.sh e1 z)⟩
    | false => exact hx ρ1 H1 e1 S1
theorem sw_or {a b : Expr} {rest : List Expr} {fa fb : DT} {pos : Pos} (ha : ST X cl W a fa) (hb : SW X cl W (.BoolOp .Or (b :: rest) pos) fb) : SW X cl W (.BoolOp .Or (a :: b :: rest) pos) (dOr fa fb) :=
  PWweak (pw_or ha hb) fun σ H Q ⟨ρ, env, M, hE, hS, h⟩ => by
    refine ⟨ρ, env, M, hE, hS, (post_bind h).imp (fun c M1 hx ρ1 H1 e1 S1 => ?_) (fun _ _ _ z => z)⟩
    cases c with
    | false => exact ⟨ρ1, env, M1, hE.mono e1, S1, Out.post.imp hx (fun _ _ z => bP.sh e1 z) (fun _ _ _ z => eP.sh e1 z)⟩
    | true => exact hx ρ1 H1 e1 S1
theorem SW.st {e : Expr} {f : DT} (h : SW X cl W e f) : ST X cl W e f := PW.pt h
theorem st_not {a : Expr} {fa : DT} {pos : Pos} (ha : ST X cl W a fa) : ST X cl W (.UnaryOp .Not a pos) (dNot fa) :=
  PTweak (pt_not ha) fun σ H Q ⟨ρ, env, M, hE, hS, h⟩ => ⟨ρ, env, M, hE, hS, (post_bind h).imp (fun c M1 hx ρ1 H1 e1 S1 => hx ρ1 H1 e1 S1) (fun _ _ _ z => z)⟩
theorem se_one {op : BoolOp} {a : Expr} {fa : DE} {pos : Pos} (ha : SE X cl W a fa) : SE X cl W (.BoolOp op [a] pos) fa := pe_one ha
theorem se_and {a b : Expr} {rest : List Expr} {fa fb : DE} {pos : Pos} (ha : SE X cl W a fa) (hb : SE X cl W (.BoolOp .And (b :: rest) pos) fb) : SE X cl W (.BoolOp .And (a :: b :: rest) pos) (dAndV fa fb) :=
  PEweak (pe_and ha hb) fun σ H Q ⟨ρ, env, M, hE, hS, h⟩ => by
    refine ⟨ρ, env, M, hE, hS, (post_bind h).imp (fun c M1 hx ρ1 v H1 e1 S1 r1 => ?_) (fun _ _ _ z => z)⟩
    cases r1 with
    | bl b =>
      cases b with
      | true => exact ⟨true, rfl, ρ1, env, M1, hE.mono e1, S1, Out.post.imp hx (fun _ _ z => oP.sh e1 z) (fun _ _ _ z => eP.sh e1 z)⟩
      | false => exact ⟨false, rfl, hx ρ1 _ H1 e1 S1 (.bl false)⟩
    | _ => exact hx.elim
theorem se_not {a : Expr} {fa : DE} {pos : Pos} (ha : SE X cl W a fa) : SE X cl W (.UnaryOp .Not a pos) (dNotV fa) :=
  PEweak (pe_not ha) fun σ H Q ⟨ρ, env, M, hE, hS, h⟩ => by
    refine ⟨ρ, env, M, hE, hS, (post_bind h).imp (fun c M1 hx ρ1 v H1 e1 S1 r1 => ?_) (fun _ _ _ z => z)⟩
    cases r1 with
    | bl b => exact ⟨b, rfl, hx ρ1 _ H1 e1 S1 (.bl _)⟩
    | _ => exact hx.elim
theorem se_if {c a b : Expr} {fc : DT} {fa fb : DE} {pos : Pos} (hc : ST X cl W c fc) (ha : SE X cl W a fa) (hb : SE X cl W b fb) : SE X cl W (.IfExp c a b pos) (dIfE fc fa fb) :=
  PEweak (pe_ifExp hc ha hb) fun σ H Q ⟨ρ, env, M, hE, hS, h⟩ => by
    refine ⟨ρ, env, M, hE, hS, (post_bind h).imp (fun c M1 hx ρ1 H1 e1 S1 => ?_) (fun _ _ _ z => z)⟩
    cases c with
    | true => exact ⟨ρ1, env, M1, hE.mono e1, S1, Out.post.imp hx (fun _ _ z => oP.sh e1 z) (fun _ _ _ z => eP.sh e1 z)⟩
    | false => exact ⟨ρ1, env, M1, hE.mono e1, S1, Out.post.imp hx (fun _ _ z => oP.sh e1 z) (fun _ _ _ z => eP.sh e1 z)⟩
theorem se_chain {op op' : CmpOp} {r r' : R2} {g g' : G2} {a b c : Expr} {fa fb fc : DE} {pos : Pos} (ho : OpR X (compareOp op) r) (hg : OpS (gx X cl) r g) (ho' : OpR X (compareOp op') r') (hg' : OpS (gx X cl) r' g') (ha : SE X cl W a fa) (hb : SE X cl W b fb) (hc : SE X cl W c fc)
    (hm : lastMarks [op, op'] [b, c] = false := by with_unfolding_all rfl) : SE X cl W (.Compare a [op, op'] [b, c] pos) (dChain g g' fa fb fc) :=
  PEweak (pe_chain ho ho' ha hb hc hm) fun σ H Q ⟨ρ, env, M, hE, hS, h⟩ => by
    refine ⟨ρ, env, M, hE, hS, (post_bind h).imp (fun x M1 hx ρ1 v H1 e1 S1 r1 => ?_) (fun _ _ _ z => z)⟩
    refine ⟨ρ1, env, M1, hE.mono e1, S1, (post_bind hx).imp (fun y M2 hy ρ2 w H2 e2 S2 r2 => ?_) (fun _ _ _ z => eP.sh e1 z)⟩
    obtain ⟨d, M3, e, q⟩ := lift_some (post_bind hy)
    refine hg H2 ρ2 M2 v w x y d M3 _ S2 (r1.mono e2) r2 e fun ρ3 z H3 e3 S3 r3 => ?_
    cases r3 with
    | bl k =>
      refine ⟨k, rfl, ?_⟩
      cases k with
      | false =>
        rw [if_neg (by decide)]
        exact q ρ3 _ H3 (e1.trans (e2.trans e3)) S3 (.bl _)
      | true =>
        rw [if_pos rfl]
        refine ⟨ρ3, env, M3, hE.mono (e1.trans (e2.trans e3)), S3, (post_bind q).imp (fun u M4 hu ρ4 w4 H4 e4 S4 r4 => ?_) (fun _ _ _ z => eP.sh (e1.trans (e2.trans e3)) z)⟩
        obtain ⟨d5, M5, e5, q5⟩ := lift_some hu
        exact hg' H4 ρ4 M4 w w4 y u d5 M5 Q S4 (r2.mono (e3.trans e4)) r4 e5 (oP.sh (e1.trans (e2.trans (e3.trans e4))) q5)
    | _ => exact q.elim
theorem st_chain {op op' : CmpOp} {r r' : R2} {g g' : G2} {a b c : Expr} {fa fb fc : DE} {pos : Pos} (ho : OpR X (compareOp op) r) (hg : OpS (gx X cl) r g) (ho' : OpR X (compareOp op') r') (hg' : OpS (gx X cl) r' g') (ha : SE X cl W a fa) (hb : SE X cl W b fb) (hc : SE X cl W c fc)
    (hm : lastMarks [op, op'] [b, c] = false := by with_unfolding_all rfl) : ST X cl W (.Compare a [op, op'] [b, c] pos) (dB (dChain g g' fa fb fc)) := by
  refine PTweak (pt_chain ho ho' ha hb hc hm) fun σ H Q h => ?_
  obtain ⟨ρ, env, M, hE, hS, h⟩ := dB_ok h
  refine ⟨ρ, env, M, hE, hS, (post_bind h).imp (fun x M1 hx ρ1 v H1 e1 S1 r1 => ?_) (fun _ _ _ z => z)⟩
  refine ⟨ρ1, env, M1, hE.mono e1, S1, (post_bind hx).imp (fun y M2 hy ρ2 w H2 e2 S2 r2 => ?_) (fun _ _ _ z => eP.sh e1 z)⟩
  obtain ⟨d, M3, e, q⟩ := lift_some (post_bind hy)
  refine hg H2 ρ2 M2 v w x y d M3 _ S2 (r1.mono e2) r2 e fun ρ3 z H3 e3 S3 r3 => ?_
  cases r3 with
  | bl k =>
    refine ⟨k, rfl, ?_⟩
    cases k with
    | false =>
      rw [if_neg (by decide)]
      exact q ρ3 _ H3 (e1.trans (e2.trans e3)) S3 (.bl _)
    | true =>
      rw [if_pos rfl]
      refine ⟨ρ3, env, M3, hE.mono (e1.trans (e2.trans e3)), S3, (post_bind q).imp (fun u M4 hu ρ4 w4 H4 e4 S4 r4 => ?_) (fun _ _ _ z => eP.sh (e1.trans (e2.trans e3)) z)⟩
      obtain ⟨d5, M5, e5, q5⟩ := lift_some hu
      exact hg' H4 ρ4 M4 w w4 y u d5 M5 _ S4 (r2.mono (e3.trans e4)) r4 e5 (oP.sh (e1.trans (e2.trans (e3.trans e4))) q5)
  | _ => exact q.elim
end
end Ip
end
section
set_option Elab.async false
set_option linter.all false
set_option maxRecDepth 100000
set_option maxHeartbeats 4000000
set_option autoImplicit false
namespace Ip
open PySem L2
inductive Fl where
  | nx (env : En) | rt (d : D) | bk (env : En) | ct (env : En)
abbrev DS := En → Sto → Out Fl
def nP (G : Gx) (H : Hp) (ρ : Rho) (N : L2.St → Hp → Prop) : En → Sto → Prop := fun env' M' => ∀ ρ' σ' H', Ext G H ρ H' ρ' → RS G H' ρ' M' → RE G H' ρ' env' σ' → N σ' H'
def sP (G : Gx) (H : Hp) (ρ : Rho) (D : Ends) : Fl → Sto → Prop
  | .nx env', M' => nP G H ρ D.nx env' M'
  | .rt d, M' => oP G H ρ D.rt d M'
  | .bk env', M' => nP G H ρ D.bk env' M'
  | .ct env', M' => nP G H ρ D.ct env' M'
def dS (G : Gx) (W : WX) (f : DS) : TS := fun D σ H => ∃ ρ env M, RE G H ρ env σ ∧ RS G H ρ M ∧ (f env M).post (sP G H ρ D) (eP G W H ρ)
def SS (X : Cx) (cl : Str → Option Addr) (W : WX) (st : Stmt) (f : DS) : Prop := PS X st (dS (gx X cl) W f)
def SSs (X : Cx) (cl : Str → Option Addr) (W : WX) (sts : List Stmt) (f : DS) : Prop := PSs X sts (dS (gx X cl) W f)
def dSeq (f g : DS) : DS := fun env M => (f env M).bind fun fl M1 => match fl with
  | .nx env1 => g env1 M1
  | o => .ok o M1
def dSkip : DS := fun env M => .ok (.nx env) M
def dSet (i : Nat) (fe : DE) : DS := fun env M => (fe env M).bind fun d M1 => .ok (.nx (env.set i (some d))) M1
def dDrop (fe : DE) : DS := fun env M => (fe env M).bind fun _ M1 => .ok (.nx env) M1
def dRet (fe : DE) : DS := fun env M => (fe env M).bind fun d M1 => .ok (.rt d) M1
def dRetN : DS := fun _ M => .ok (.rt .non) M
def dIf (ft : DT) (fa fb : DS) : DS := fun env M => (ft env M).bind fun c M1 => if c then fa env M1 else fb env M1
def dBad : DS := fun _ _ => .bad
abbrev DG := D → En → Option En
def dG (G : Gx) (t : DG) : TG := fun v σ H Q => ∃ ρ env d env', RE G H ρ env σ ∧ RV G H ρ d v ∧ t d env = some env' ∧ ∀ σ', RE G H ρ env' σ' → Q σ' H
def tgName (i : Nat) : DG := fun d env => some (env.set i (some d))
def tgAll : List Nat → List D → En → Option En
  | [], [], env => some env
  | i :: is, d :: ds, env => tgAll is ds (env.set i (some d))
  | _, _, _ => none
def tgTup (is : List Nat) : DG := fun d env => match d with
  | .tup ds => tgAll is ds env
  | _ => none
def SG (X : Cx) (cl : Str → Option Addr) (tg : Expr) (t : DG) : Prop := PG X tg (dG (gx X cl) t)
section
variable {X : Cx} {cl : Str → Option Addr} {W : WX} {G : Gx} {H H1 : Hp} {ρ ρ1 : Rho}
theorem nP.sh (x : Ext G H ρ H1 ρ1) {N : L2.St → Hp → Prop} {env : En} {M : Sto} (h : nP G H ρ N env M) : nP G H1 ρ1 N env M := fun ρ' v H' a b c => h ρ' v H' (x.trans a) b c
theorem sP.sh (x : Ext G H ρ H1 ρ1) {D : Ends} {fl : Fl} {M : Sto} (h : sP G H ρ D fl M) : sP G H1 ρ1 D fl M := by
  cases fl with
  | nx env => exact nP.sh x h
  | rt d => exact oP.sh x h
  | bk env => exact nP.sh x h
  | ct env => exact nP.sh x h
theorem PGweak {tg : Expr} {t t' : TG} (h : PG X tg t) (w : ∀ v σ H Q, t' v σ H Q → t v σ H Q) : PG X tg t' := ⟨fun pins s σ H v u Q I r z => h.run pins s σ H v u Q I r (w v σ H Q z)⟩
theorem ss_nil : SSs X cl W [] dSkip := PSsweak pss_nil fun D σ H ⟨ρ, env, M, hE, hS, h⟩ => h ρ σ H .refl hS hE
theorem ss_cons {st : Stmt} {sts : List Stmt} {f g : DS} (h1 : SS X cl W st f) (h2 : SSs X cl W sts g) : SSs X cl W (st :: sts) (dSeq f g) :=
  PSsweak (pss_cons h1 h2) fun D σ H ⟨ρ, env, M, hE, hS, h⟩ => by
    refine ⟨ρ, env, M, hE, hS, (post_bind h).imp (fun fl M1 hx => ?_) (fun _ _ _ z => z)⟩
    cases fl with
    | nx env1 => exact fun ρ' σ' H' e1 S1 E1 => ⟨ρ', env1, M1, E1, S1, Out.post.imp hx (fun _ _ z => sP.sh e1 z) (fun _ _ _ z => eP.sh e1 z)⟩
    | rt d => exact hx
    | bk env1 => exact hx
    | ct env1 => exact hx
theorem ss_one {st : Stmt} {f : DS} (h1 : SS X cl W st f) : SSs X cl W [st] f := pss_one h1
theorem ss_never {st : Stmt} : SS X cl W st dBad := PSweak ps_never fun D σ H ⟨ρ, env, M, hE, hS, h⟩ => h
theorem ss_expr {e : Expr} {fe : DE} {pos : Pos} (he : SE X cl W e fe) (hs : swapsWith e none pos.line X.env = pure false := by rfl) : SS X cl W (.Expr e pos) (dDrop fe) :=
  PSweak (ps_expr he hs) fun D σ H ⟨ρ, env, M, hE, hS, h⟩ =>
    ⟨ρ, env, M, hE, hS, (post_bind h).imp (fun d M1 hx ρ1 v H1 e1 S1 r1 => hx ρ1 σ H1 e1 S1 (hE.mono e1)) (fun _ _ _ z => z)⟩
theorem ss_ret {e : Expr} {fe : DE} {pos : Pos} (he : SE X cl W e fe) : SS X cl W (.Return (some e) pos) (dRet fe) :=
  PSweak (ps_ret he) fun D σ H ⟨ρ, env, M, hE, hS, h⟩ =>
    ⟨ρ, env, M, hE, hS, (post_bind h).imp (fun d M1 hx ρ1 v H1 e1 S1 r1 => hx ρ1 v H1 e1 S1 r1) (fun _ _ _ z => z)⟩
theorem ss_if {c : Expr} {a b : List Stmt} {ft : DT} {fa fb : DS} {pos : Pos} (hc : ST X cl W c ft) (ha : SSs X cl W a fa) (hb : SSs X cl W b fb) : SS X cl W (.If c a b pos) (dIf ft fa fb) :=
  PSweak (ps_if hc ha hb) fun D σ H ⟨ρ, env, M, hE, hS, h⟩ => by
    refine ⟨ρ, env, M, hE, hS, (post_bind h).imp (fun c M1 hx ρ1 H1 e1 S1 => ?_) (fun _ _ _ z => z)⟩
    cases c with
    | true => exact ⟨ρ1, env, M1, hE.mono e1, S1, Out.post.imp hx (fun _ _ z => sP.sh e1 z) (fun _ _ _ z => eP.sh e1 z)⟩
    | false => exact ⟨ρ1, env, M1, hE.mono e1, S1, Out.post.imp hx (fun _ _ z => sP.sh e1 z) (fun _ _ _ z => eP.sh e1 z)⟩
theorem ss_set {i : Nat} {x : Str} {e : Expr} {fe : DE} {pos pos' : Pos} (hN : X.N.Nodup) (hi : X.N[i]? = some x) (hx : Loc X.env.scope x) (he : SE X cl W e fe) (hs : swapsWith e (some (.Name x pos')) pos.line X.env = pure false := by rfl) (hf : X.fn x = true ∨ X.env.scope.names.lookup x = some .local := by first | exact .inl rfl | exact .inr rfl | assumption) :
    SS X cl W (.Assign [.Name x pos'] e pos) (dSet i fe) :=
  PSweak (ps_set hN hi hx he hs hf) fun D σ H ⟨ρ, env, M, hE, hS, h⟩ =>
    ⟨ρ, env, M, hE, hS, (post_bind h).imp (fun d M1 hx ρ1 v H1 e1 S1 r1 => hx ρ1 _ H1 e1 S1 ((hE.mono e1).set i r1)) (fun _ _ _ z => z)⟩
theorem sg_name {i : Nat} {x : Str} {pos : Pos} (hN : X.N.Nodup) (hi : X.N[i]? = some x) (hx : Loc X.env.scope x) (hf : X.fn x = true ∨ X.env.scope.names.lookup x = some .local := by first | exact .inl rfl | exact .inr rfl | assumption) : SG X cl (.Name x pos) (tgName i) :=
  PGweak (pg_name hN hi hx hf) fun v σ H Q ⟨ρ, env, d, env', hE, r, e, h⟩ => by
    cases e
    exact h _ (hE.set i r)
/-- names of a tuple target -/
def gsNames : List Nat → TGs
  | [] => gNil
  | i :: is => gCons (gName i) (gsNames is)
theorem gsNames_ok {is : List Nat} : ∀ {ds : List D} {vs : List V} {env env' : En} {σ : L2.St} {Q : L2.St → Hp → Prop}, RVs G H ρ ds vs → RE G H ρ env σ → tgAll is ds env = some env' → (∀ σ', RE G H ρ env' σ' → Q σ' H) → gsNames is vs σ H Q := by
  induction is with
  | nil =>
    intro ds vs env env' σ Q r hE e h
    cases r with
    | nil => cases e; exact ⟨rfl, h σ hE⟩
    | cons _ _ => cases e
  | cons i is ih =>
    intro ds vs env env' σ Q r hE e h
    cases r with
    | nil => cases e
    | cons r1 r2 => exact ⟨_, _, rfl, ih r2 (hE.set i r1) e h⟩
theorem tgAll_len : ∀ {is : List Nat} {ds : List D} {env env' : En}, tgAll is ds env = some env' → ds.length = is.length
  | [], [], _, _, _ => rfl
  | [], _ :: _, _, _, h => by cases h
  | _ :: _, [], _, _, h => by cases h
  | i :: is, d :: ds, env, env', h => by
    have := tgAll_len (is := is) (ds := ds) h
    simp [this]
theorem sg_tup {es : List Expr} {k n : Nat} {is : List Nat} {pos : Pos} (hc : X.calm = true) (h : PGs X es (gsNames is)) (hl : is.length = n) (hn : (assignEach es X.env).length = n := by rfl) (hst : (assignEach es X.env).findIdx? (·.1) = none := by rfl) : SG X cl (.Tuple es k pos) (tgTup is) :=
  PGweak (pg_tup hc h hn hst) fun v σ H Q ⟨ρ, env, d, env', hE, r, e, q⟩ => by
    cases r with
    | tup hs rs => exact ⟨_, _, rfl, hs.1, by rw [rs.length, tgAll_len e, hl], gsNames_ok rs hE e q⟩
    | _ => cases e
def dAsg (t : DG) (fe : DE) : DS := fun env M => (fe env M).bind fun d M1 => match t d env with
  | some env' => .ok (.nx env') M1
  | none => .bad
theorem ss_asg {tg e : Expr} {fe : DE} {t : DG} {pos : Pos} (he : SE X cl W e fe) (hg : SG X cl tg t) (hs : swapsWithSole [tg] e pos.line X.env = pure false := by rfl) (hw : swappedStores [tg] e X.env = pure none := by rfl)
    (h1 : (assignEach [tg] X.env).map (·.2) = [assign tg X.env] := by rfl) : SS X cl W (.Assign [tg] e pos) (dAsg t fe) :=
  PSweak (ps_asg he hg hs hw h1) fun D σ H ⟨ρ, env, M, hE, hS, h⟩ => by
    refine ⟨ρ, env, M, hE, hS, (post_bind h).imp (fun d M1 hx ρ1 v H1 e1 S1 r1 => ?_) (fun _ _ _ z => z)⟩
    split at hx
    · rename_i env' he'
      exact ⟨ρ1, env, d, env', hE.mono e1, r1, he', fun σ' E' => hx ρ1 σ' H1 e1 S1 E'⟩
    · exact hx.elim
def dPar (i j : Nat) (fa : DA) : DS := fun env M => (fa env M).bind fun ds M1 => match ds with
  | [x, y] => .ok (.nx ((env.set i (some x)).set j (some y))) M1
  | _ => .bad
def Good (J : It) (G : Gx) (items : List D) (ρ0 : Rho) (H0 : Hp) : Prop := ∀ (H : Hp) (ρ : Rho), Mo G H0 ρ0 H ρ → ∀ i : Nat,
  (∀ d, items[i]? = some d → J.go i H ∧ ∀ x H', J.yld i H x H' → (∃ M, RS G H ρ M) → Ext G H ρ H' ρ ∧ (∀ M, RS G H ρ M → RS G H' ρ M) ∧ RV G H' ρ d x) ∧ (items.length ≤ i → J.stop i H)
def dI (G : Gx) (W : WX) (f : DA) : TI := fun σ H R => ∃ ρ env M, RE G H ρ env σ ∧ RS G H ρ M ∧ (f env M).post (fun items M' => ∀ ρ' H' J, Ext G H ρ H' ρ' → RS G H' ρ' M' → Good J G items ρ' H' → R J H') (eP G W H ρ)
def SI (X : Cx) (cl : Str → Option Addr) (W : WX) (tg iter : Expr) (f : DA) : Prop := PI X tg iter (dI (gx X cl) W f)
def forGo (t : DG) (fb : DS) : List D → DS
  | [], env, M => .ok (.nx env) M
  | d :: ds, env, M => match t d env with
    | none => .bad
    | some env1 => (fb env1 M).bind fun fl M1 => match fl with
      | .nx e => forGo t fb ds e M1
      | .ct e => forGo t fb ds e M1
      | .bk e => .ok (.nx e) M1
      | .rt d => .ok (.rt d) M1
def dFor (t : DG) (fi : DA) (fb : DS) : DS := fun env M => (fi env M).bind fun items M1 => forGo t fb items env M1
theorem ss_for {tg iter : Expr} {body : List Stmt} {t : DG} {fi : DA} {fb : DS} {pos : Pos} (hp : PassesOwn (model X.prog X.w) X.A X.env X.xe) (hc : X.calm = true) (hi : SI X cl W tg iter fi) (hg : SG X cl tg t) (hb : SSs X cl W body fb)
    (hs : ∀ x, foldedSetIterable iter X.env x = pure x := by intro _; rfl) : SS X cl W (.For tg iter body [] pos) (dFor t fi fb) :=
  PSweak (ps_for hp hc hi hg hb hs) fun D σ H ⟨ρ, env, M, hE, hS, h⟩ => by
    refine ⟨ρ, env, M, hE, hS, (post_bind h).imp (fun items M1 hx ρ1 H1 J e1 S1 good => ?_) (fun _ _ _ z => z)⟩
    refine ⟨fun i m σ H => m = items.length - i ∧ i ≤ items.length ∧ ∃ ρ env M, Ext (gx X cl) H1 ρ1 H ρ ∧ RE (gx X cl) H ρ env σ ∧ RS (gx X cl) H ρ M ∧ (forGo t fb (items.drop i) env M).post (sP (gx X cl) H ρ D) (eP (gx X cl) W H ρ),
      ⟨items.length, by simp, Nat.zero_le _, ρ1, env, M1, .refl, hE.mono e1, S1, Out.post.imp hx (fun _ _ z => sP.sh e1 z) (fun _ _ _ z => eP.sh e1 z)⟩, ?_⟩
    rintro i m σ' H' ⟨rfl, hi, ρ', env', M', x1, E', S', q⟩
    obtain ⟨g1, g2⟩ := good H' ρ' x1.mo i
    by_cases hlt : i < items.length
    · have hd : items[i]? = some items[i] := List.getElem?_eq_getElem hlt
      obtain ⟨go, yl⟩ := g1 _ hd
      have hdrop : items.drop i = items[i] :: items.drop (i + 1) := List.drop_eq_getElem_cons hlt
      rw [hdrop] at q
      refine .inr ⟨go, fun σ H => ∃ ρ env M, Ext (gx X cl) H1 ρ1 H ρ ∧ RE (gx X cl) H ρ env σ ∧ RS (gx X cl) H ρ M ∧ (forGo t fb (items.drop (i + 1)) env M).post (sP (gx X cl) H ρ D) (eP (gx X cl) W H ρ),
        fun σ2 H2 n2 => ⟨items.length - (i + 1), by omega, rfl, hlt, n2⟩, fun x H2 y => ?_⟩
      obtain ⟨x2, rs2, r2⟩ := yl x H2 y ⟨M', S'⟩
      unfold forGo at q
      split at q
      · exact q.elim
      · rename_i env1 he1
        refine ⟨ρ', env', items[i], env1, E'.mono x2, r2, he1, fun σ3 E3 => ?_⟩
        refine ⟨ρ', env1, M', E3, rs2 M' S', (post_bind q).imp (fun fl M4 h4 => ?_) (fun _ _ _ z => eP.sh x2 z)⟩
        cases fl with
        | nx e => exact fun ρ5 σ5 H5 x5 S5 E5 => ⟨ρ5, e, M4, x1.trans (x2.trans x5), E5, S5, Out.post.imp h4 (fun _ _ z => sP.sh (x2.trans x5) z) (fun _ _ _ z => eP.sh (x2.trans x5) z)⟩
        | ct e => exact fun ρ5 σ5 H5 x5 S5 E5 => ⟨ρ5, e, M4, x1.trans (x2.trans x5), E5, S5, Out.post.imp h4 (fun _ _ z => sP.sh (x2.trans x5) z) (fun _ _ _ z => eP.sh (x2.trans x5) z)⟩
        | bk e => exact nP.sh x2 h4
        | rt d => exact oP.sh x2 h4
    · have e : i = items.length := by omega
      subst e
      rw [List.drop_length] at q
      exact .inl ⟨g2 (Nat.le_refl _), q ρ' σ' H' .refl S' E'⟩
end
end Ip
end
section
set_option Elab.async false
set_option linter.all false
set_option maxRecDepth 100000
set_option maxHeartbeats 4000000
set_option autoImplicit false
namespace Ip
open PySem L2
def noex {α : Type} (o : Out α) : Out α := match o with
  | .ok a M => .ok a M
  | _ => .bad
theorem noex_post {α : Type} {o : Out α} {Q : α → Sto → Prop} {E E' : Exn → En → Sto → Prop} (h : (noex o).post Q E) : o.post Q E' := by
  cases o with
  | ok a M => exact h
  | exc e env M => exact h.elim
  | bad => exact h
abbrev W0 : WX := fun _ _ _ _ => False
def wipeE (env : En) : List Nat → En
  | [] => env
  | v :: vs => (wipeE env vs).set v none
def lcGo (t : DG) (ft : DT) (fe : DE) : List D → List D → En → Sto → Out (List D)
  | [], acc, _, M => .ok acc M
  | d :: ds, acc, env, M => match t d env with
    | none => .bad
    | some env1 => (noex (ft env1 M)).bind fun b M1 => if b then (noex (fe env1 M1)).bind fun y M2 => if acc.length < 16777216 then lcGo t ft fe ds (acc ++ [y]) env M2 else .bad
      else lcGo t ft fe ds acc env M1
def dLc (vs : List Nat) (t : DG) (fi : DA) (ft : DT) (fe : DE) : DE := fun env M => (fi env M).bind fun items M1 => (lcGo t ft fe items [] (wipeE env vs) M1).bind fun l M2 => .ok (.lst l) M2
def dYes : DT := fun _ M => .ok true M
theorem wipeE_len (env : En) : ∀ vs : List Nat, (wipeE env vs).length = env.length
  | [] => rfl
  | v :: vs => by unfold wipeE; rw [List.length_set, wipeE_len env vs]
theorem wipeE_some {env : En} {i : Nat} {d : D} : ∀ {vs : List Nat}, (wipeE env vs)[i]? = some (some d) → env[i]? = some (some d) ∧ i ∉ vs
  | [], h => ⟨h, by simp⟩
  | v :: vs, h => by
    unfold wipeE at h
    by_cases e : v = i
    · subst e
      rw [List.getElem?_set] at h
      simp at h
    · rw [List.getElem?_set_ne e] at h
      obtain ⟨a, b⟩ := wipeE_some h
      exact ⟨a, fun z => (List.mem_cons.mp z).elim (fun z => e z.symm) b⟩
theorem RE.wipe {G : Gx} {H : Hp} {ρ : Rho} {env : En} {σ : L2.St} (vs : List Nat) (h : RE G H ρ env σ) : RE G H ρ (wipeE env vs) (wipe σ vs) :=
  ⟨by rw [wipeE_len, wipe_length, h.1], fun i d q => by
    obtain ⟨a, b⟩ := wipeE_some q
    obtain ⟨v, e, r⟩ := h.2 i d a
    exact ⟨v, by rw [wipe_out b]; exact e, r⟩⟩
theorem wipe_in {σ : L2.St} {i : Nat} : ∀ {vs : List Nat}, i ∈ vs → (wipe σ vs)[i]? = if i < σ.length then some none else none
  | v :: vs, h => by
    unfold wipe
    by_cases e : v = i
    · subst e
      rw [List.getElem?_set, if_pos rfl, wipe_length]
    · rw [List.getElem?_set_ne e]
      exact wipe_in ((List.mem_cons.mp h).elim (fun z => absurd z.symm e) id)
theorem wipe_eq {σ τ : L2.St} {vs : List Nat} (hl : σ.length = τ.length) (h : ∀ i : Nat, i ∉ vs → σ[i]? = τ[i]?) : wipe σ vs = wipe τ vs := by
  refine List.ext_getElem? fun i => ?_
  by_cases hi : i ∈ vs
  · rw [wipe_in hi, wipe_in hi, hl]
  · rw [wipe_out hi, wipe_out hi, h i hi]
/-- a target whose names are all the comprehension's own -/
def TgOk (G : Gx) (vs : List Nat) (g : TG) (t : DG) : Prop := ∀ (H : Hp) (ρ : Rho) (v : V) (σ : L2.St) (env env' : En) (d : D) (Q : L2.St → Hp → Prop), RE G H ρ env σ → RV G H ρ d v → t d env = some env' →
  (∀ σ', RE G H ρ env' σ' → wipe σ' vs = wipe σ vs → Q σ' H) → g v σ H Q
theorem tgok_name {G : Gx} {vs : List Nat} {i : Nat} (hi : i ∈ vs) : TgOk G vs (gName i) (tgName i) := fun H ρ v σ env env' d Q hE r e h => by
  cases e
  exact h _ (hE.set i r) (wipe_eq (by simp) fun j hj => List.getElem?_set_ne (fun z : i = j => hj (z ▸ hi)))
theorem gsNames_ok2 {G : Gx} {H : Hp} {ρ : Rho} {us : List Nat} {is : List Nat} (hu : ∀ i ∈ is, i ∈ us) : ∀ {ds : List D} {vs : List V} {env env' : En} {σ : L2.St} {Q : L2.St → Hp → Prop}, RVs G H ρ ds vs → RE G H ρ env σ → tgAll is ds env = some env' → (∀ σ', RE G H ρ env' σ' → wipe σ' us = wipe σ us → Q σ' H) → gsNames is vs σ H Q := by
  induction is with
  | nil =>
    intro ds vs env env' σ Q r hE e h
    cases r with
    | nil => cases e; exact ⟨rfl, h σ hE rfl⟩
    | cons _ _ => cases e
  | cons i is ih =>
    intro ds vs env env' σ Q r hE e h
    cases r with
    | nil => cases e
    | cons r1 r2 =>
      refine ⟨_, _, rfl, ih (fun j hj => hu j (List.mem_cons_of_mem _ hj)) r2 (hE.set i r1) e fun σ' E' w => h σ' E' (w.trans ?_)⟩
      exact wipe_eq (by simp) fun j hj => List.getElem?_set_ne (fun z : i = j => hj (z ▸ hu i List.mem_cons_self))
theorem tgok_tup {G : Gx} {vs : List Nat} {is : List Nat} {n : Nat} (hi : ∀ i ∈ is, i ∈ vs) (hn : is.length = n) : TgOk G vs (gTup G.K n (gsNames is)) (tgTup is) := fun H ρ v σ env env' d Q hE r e h => by
  cases r with
  | tup hs rs => exact ⟨_, _, rfl, hs.1, by rw [rs.length, tgAll_len e, hn], gsNames_ok2 hi rs hE e h⟩
  | _ => cases e
section
variable {X : Cx} {cl : Str → Option Addr} {W : WX} {G : Gx}
theorem lc_ok {vs : List Nat} {g : TG} {t : DG} {fi : DA} {ft : DT} {fe : DE} (hg : TgOk G vs g t) {σ : L2.St} {H : Hp} {Q : VK} (h : dE G W (dLc vs t fi ft fe) σ H Q) : tLc (dI G W fi) g (dT G W0 ft) (dE G W0 fe) vs σ H Q := by
  obtain ⟨ρ, env, M, hE, hS, h⟩ := h
  refine ⟨ρ, env, M, hE, hS, (post_bind h).imp (fun items M1 hx ρ1 H1 J e1 S1 good D hD => ?_) (fun _ _ _ z => z)⟩
  have hD1 : D ∉ ρ1 := S1.fresh hD
  refine ⟨fun i m H => m = items.length - i ∧ i ≤ items.length ∧ ∃ (ρ : Rho) (M : Sto) (acc : List Ip.D) (av : List V), ρ.t = D :: ρ1.t ∧ Ext G H1 ρ1 H ⟨ρ.c, ρ1.t⟩ ∧ H D = some (.lst av) ∧ RVs G H ρ acc av ∧ RE G H ρ (wipeE env vs) (wipe σ vs) ∧ RS G H ρ M ∧
    (lcGo t ft fe (items.drop i) acc (wipeE env vs) M).post (fun l M' => oP G H1 ρ1 Q (.lst l) M') (fun _ _ _ => False), ⟨items.length, by simp, Nat.zero_le _, ⟨ρ1.c, D :: ρ1.t⟩, M1, [], [], rfl, ?_, upd_same, .nil, ?_, ?_, ?_⟩, ?_⟩
  · exact Ext.new S1 hD
  · refine RE.mo (H := H1) (ρ := ρ1) ?_ ((hE.mono e1).wipe vs)
    exact ⟨fun _ _ z => z, fun a xs z => tpA_upd z (fun u w => by rw [hD] at w; cases w), fun a o n nt z => ⟨by rw [upd_ne (ne_of_none z hD)]; exact z, fun w => by
      rcases w with w | w
      · exact n (.inl w)
      · rcases List.mem_cons.mp w with w | w
        · exact ne_of_none z hD w
        · exact n (.inr w)⟩⟩
  · have mo : Mo G H1 ρ1 (upd H1 D (.lst [])) ⟨ρ1.c, D :: ρ1.t⟩ := ⟨fun _ _ z => z, fun a xs z => tpA_upd z (fun u w => by rw [hD] at w; cases w), fun a o n nt z => ⟨by rw [upd_ne (ne_of_none z hD)]; exact z, fun w => by
      rcases w with w | w
      · exact n (.inl w)
      · rcases List.mem_cons.mp w with w | w
        · exact ne_of_none z hD w
        · exact n (.inr w)⟩⟩
    refine ⟨S1.len, S1.nd, fun a ha hb => ?_, fun a ha => ?_, fun n c hc => ?_, S1.tb.keeps fun b u z _ => by rw [upd_ne (ne_of_none z hD)]; exact z⟩
    · rcases List.mem_cons.mp hb with z | z
      · exact hD1 (.inl (by rw [← z]; exact ha))
      · exact S1.dis a ha z
    · rcases List.mem_cons.mp ha with z | z
      · exact ⟨_, by rw [z]; exact upd_same, .inl ⟨_, rfl⟩⟩
      · rw [upd_ne (S1.ne_new hD (.inr z))]; exact S1.trt a z
    · obtain ⟨a, ha, q⟩ := S1.at_ n c hc
      exact ⟨a, ha, q.mo mo (upd_ne (S1.ne_new hD (.inl (List.mem_of_getElem? ha))))⟩
  · have hx' := post_bind hx
    rw [List.drop_zero]
    cases hlc : lcGo t ft fe items [] (wipeE env vs) M1 with
    | ok l M2 => rw [hlc] at hx'; exact oP.sh e1 hx'
    | bad => rw [hlc] at hx'; exact hx'
    | exc e ev M2 =>
      exfalso
      -- a comprehension's walk raises nothing
      have : ∀ (ds acc : List Ip.D) (env : En) (M : Sto) (e : Exn) (ev : En) (M2 : Sto), lcGo t ft fe ds acc env M ≠ .exc e ev M2 := by
        intro ds
        induction ds with
        | nil => intro acc env M e ev M2 z; cases z
        | cons d ds ih =>
          intro acc env M e ev M2 z
          unfold lcGo at z
          split at z
          · cases z
          · cases h1 : ft _ M with
            | bad => rw [h1] at z; cases z
            | exc _ _ _ => rw [h1] at z; cases z
            | ok b M3 =>
              rw [h1] at z
              cases b with
              | false => exact ih _ _ _ _ _ _ z
              | true =>
                change (noex (fe _ M3)).bind _ = _ at z
                cases h2 : fe _ M3 with
                | bad => rw [h2] at z; cases z
                | exc _ _ _ => rw [h2] at z; cases z
                | ok y M4 =>
                  rw [h2] at z
                  change (if acc.length < 16777216 then _ else _) = _ at z
                  split at z
                  · exact ih _ _ _ _ _ _ z
                  · cases z
      exact this _ _ _ _ _ _ _ hlc
  · rintro i m H2 ⟨rfl, hi, ρ2, M2, acc, av, ht, x2, hDv, ra, E2, S2, q⟩
    have mk2 : ∀ (a : Addr) (o : HO), a ∉ ρ1 → (∀ ps, o ≠ .tbl ps) → H1 a = some o → H2 a = some o ∧ a ∉ ρ2 := fun a o n nt z => ⟨(x2.keep a o n nt z).1, fun w => by
      rcases w with w | w
      · exact (x2.keep a o n nt z).2 (.inl w)
      · rw [ht] at w
        rcases List.mem_cons.mp w with w | w
        · exact ne_of_none z hD w
        · exact n (.inr w)⟩
    have mo2 : Mo G H1 ρ1 H2 ρ2 := ⟨x2.pre, x2.tup, fun a o n p z => mk2 a o n p.tbl z⟩
    have hDt : D ∈ ρ2.t := by rw [ht]; exact List.mem_cons_self
    obtain ⟨g1, g2⟩ := good H2 ρ2 mo2 i
    by_cases hlt : i < items.length
    · have hd : items[i]? = some items[i] := List.getElem?_eq_getElem hlt
      obtain ⟨go, yl⟩ := g1 _ hd
      have hdrop : items.drop i = items[i] :: items.drop (i + 1) := List.drop_eq_getElem_cons hlt
      rw [hdrop] at q
      refine .inr ⟨go, fun H => ∃ (ρ : Rho) (M : Sto) (acc : List Ip.D) (av : List V), ρ.t = D :: ρ1.t ∧ Ext G H1 ρ1 H ⟨ρ.c, ρ1.t⟩ ∧ H D = some (.lst av) ∧ RVs G H ρ acc av ∧ RE G H ρ (wipeE env vs) (wipe σ vs) ∧ RS G H ρ M ∧
        (lcGo t ft fe (items.drop (i + 1)) acc (wipeE env vs) M).post (fun l M' => oP G H1 ρ1 Q (.lst l) M') (fun _ _ _ => False), fun H' n2 => ⟨items.length - (i + 1), by omega, rfl, hlt, n2⟩, fun x H3 y => ?_⟩
      obtain ⟨x3, rs3, r3⟩ := yl x H3 y ⟨M2, S2⟩
      unfold lcGo at q
      split at q
      · exact q.elim
      · rename_i env1 he1
        refine hg H3 ρ2 x _ _ env1 _ _ (E2.mono x3) r3 he1 fun σ4 E4 w4 => ⟨w4.trans (by rw [wipe_eq (σ := wipe σ vs) (τ := σ) (vs := vs) (wipe_length _ _) fun j hj => wipe_out hj]), ?_⟩
        -- from where the turn began to where it is
        have step : ∀ {H5 : Hp} {ρ5 : Rho}, Ext G H2 ρ2 H5 ρ5 → Ext G H1 ρ1 H5 ⟨ρ5.c, ρ1.t⟩ ∧ ρ5.t = D :: ρ1.t ∧ H5 D = some (.lst av) := fun {H5 ρ5} x5 =>
          ⟨⟨fun n a z => x5.pre n a (x2.pre n a z), rfl, fun a z => (x5.same a (by rw [ht]; exact List.mem_cons_of_mem _ z)).trans (x2.same a z), fun a xs z => x5.tup a xs (x2.tup a xs z), fun a o n nt z => by
              obtain ⟨k1, k2⟩ := mk2 a o n nt z
              obtain ⟨k3, k4⟩ := x5.keep a o k2 nt k1
              exact ⟨k3, fun w => by
                rcases w with w | w
                · exact k4 (.inl w)
                · exact n (.inr w)⟩⟩, x5.res.trans ht, (x5.same D hDt).trans hDv⟩
        refine ⟨ρ2, env1, M2, E4, rs3 M2 S2, (noex_post (post_bind q)).imp (fun b M5 hb ρ5 H5 x5 S5 => ?_) (fun _ _ _ z => z)⟩
        cases b with
        | false =>
          obtain ⟨s1, s2, s3⟩ := step (x3.trans x5)
          exact ⟨ρ5, M5, acc, av, s2, s1, s3, ra.mono (x3.trans x5), E2.mono (x3.trans x5), S5, hb⟩
        | true =>
          rw [if_pos rfl]
          refine ⟨ρ5, env1, M5, E4.mono x5, S5, (noex_post (post_bind (show (Out.bind (noex (fe env1 M5)) _).post _ _ from hb))).imp (fun y M6 hy ρ6 v6 H6 x6 S6 r6 => ?_) (fun _ _ _ z => z)⟩
          obtain ⟨s1, s2, s3⟩ := step (x3.trans (x5.trans x6))
          split at hy
          · rename_i hlen
            have hD6 : D ∈ ρ6.t := by rw [s2]; exact List.mem_cons_self
            have mo6 : Mo G H6 ρ6 (upd H6 D (.lst (av ++ [v6]))) ρ6 := ⟨fun _ _ z => z, fun a xs z => tpA_upd z (fun u w => by rw [s3] at w; cases w; exact ⟨fun _ z => (by cases z), fun _ _ z => (by cases z)⟩), fun a o n nt z => ⟨by rw [upd_ne (fun w : a = D => n (by rw [w]; exact .inr hD6))]; exact z, n⟩⟩
            have la : av.length = acc.length := ra.length
            refine ⟨av, s3, by rw [la]; rw [sizeLine_eq]; exact hlen, ρ6, M6, acc ++ [y], av ++ [v6], s2, ⟨s1.pre, rfl, fun a z => ?_, fun a xs z => mo6.tup a xs (s1.tup a xs z), fun a o n nt z => ?_⟩, upd_same, ?_, (E2.mono (x3.trans (x5.trans x6))).mo mo6, ?_, hy⟩
            · rw [upd_ne (fun w : a = D => hD1 (by rw [← w]; exact .inr z))]
              exact s1.same a z
            · obtain ⟨k1, k2⟩ := s1.keep a o n nt z
              exact ⟨by rw [upd_ne (ne_of_none z hD)]; exact k1, k2⟩
            · exact ((ra.mono (x3.trans (x5.trans x6))).append (.one r6)).mo mo6
            · refine ⟨S6.len, S6.nd, S6.dis, fun a ha => ?_, fun n c hc => ?_, S6.tb.keeps fun b u z nz => by rw [upd_ne (fun w : b = D => nz (by rw [w, s3] at z; cases z; exact .inl ⟨_, rfl⟩))]; exact z⟩
              · by_cases z : a = D
                · exact ⟨_, by rw [z]; exact upd_same, .inl ⟨_, rfl⟩⟩
                · rw [upd_ne z]; exact S6.trt a ha
              · obtain ⟨a, ha, q⟩ := S6.at_ n c hc
                exact ⟨a, ha, q.mo mo6 (upd_ne (fun z : a = D => S6.dis a (List.mem_of_getElem? ha) (by rw [z]; exact hD6)))⟩
          · exact hy.elim
    · have e : i = items.length := by omega
      subst e
      rw [List.drop_length] at q
      refine .inl ⟨g2 (Nat.le_refl _), q ⟨ρ2.c, ρ1.t⟩ (.ref D) H2 x2 ?_ ?_⟩
      · have mo : Mo G H2 ρ2 H2 ⟨ρ2.c, ρ1.t⟩ := ⟨fun _ _ z => z, fun _ _ z => z, fun a o n nt z => ⟨z, fun w => by
          rcases w with w | w
          · exact n (.inl w)
          · exact n (.inr (by rw [ht]; exact List.mem_cons_of_mem _ w))⟩⟩
        refine ⟨S2.len, S2.nd, fun a ha hb => S2.dis a ha (by rw [ht]; exact List.mem_cons_of_mem _ hb), fun a ha => S2.trt a (by rw [ht]; exact List.mem_cons_of_mem _ ha), fun n c hc => ?_, S2.tb⟩
        obtain ⟨a, ha, q⟩ := S2.at_ n c hc
        exact ⟨a, ha, q.mo mo rfl⟩
      · have mo : Mo G H2 ρ2 H2 ⟨ρ2.c, ρ1.t⟩ := ⟨fun _ _ z => z, fun _ _ z => z, fun a o n nt z => ⟨z, fun w => by
          rcases w with w | w
          · exact n (.inl w)
          · exact n (.inr (by rw [ht]; exact List.mem_cons_of_mem _ w))⟩⟩
        exact .lst hDv (fun w => by
          rcases w with w | w
          · exact S2.dis D w hDt
          · exact hD1 (.inr w)) (ra.mo mo)
end
end Ip
end
section
set_option Elab.async false
set_option linter.all false
set_option maxRecDepth 100000
set_option maxHeartbeats 4000000
set_option autoImplicit false
namespace Ip
open PySem PyProof.Rows L2
section
variable {X : Cx} {cl : Str → Option Addr} {W : WX} {G : Gx}
theorem se_lc {elt tg iter : Expr} {ifs : List Expr} {scope : Scope} {own : List (Str × Nat)} {pos : Pos} {g : TG} {t : DG} {fi : DA} {ft : DT} {fe : DE} (hc : X.calm = true) (hN : X.N.Nodup) (hi : SI X cl W tg iter fi) (ok : BlkOk X.N X.env.scope scope own)
    (hgp : ∀ (s : Shared) (H : Hp) (C : Addr) (c : List (Str × Addr)) (fp : List Addr), PG (X.blk s H scope (compEnvC scope c C X.env) fp) tg g) (hg : TgOk (gx X cl) (own.map (·.2)) g t)
    (ht : ∀ (s : Shared) (H : Hp) (C : Addr) (c : List (Str × Addr)) (fp : List Addr), PTs (X.blk s H scope (compEnvC scope c C X.env) fp) ifs (dT (gx X cl) W0 ft))
    (he : ∀ (s : Shared) (H : Hp) (C : Addr) (c : List (Str × Addr)) (fp : List Addr), PE (X.blk s H scope (compEnvC scope c C X.env) fp) elt (dE (gx X cl) W0 fe)) (hs : ∀ x, foldedSetIterable iter X.env x = pure x := by intro _; rfl) :
    SE X cl W (.ListComp elt [⟨tg, iter, ifs, 0⟩] scope pos) (dLc (own.map (·.2)) t fi ft fe) :=
  PEweak (pe_lc hc hN hi ok hgp ht he hs) fun σ H Q h => lc_ok hg h
theorem ss_setLc {i : Nat} {y : Str} {py : Pos} {elt tg iter : Expr} {ifs : List Expr} {scope : Scope} {own : List (Str × Nat)} {pos spos : Pos} {g : TG} {t : DG} {fi : DA} {ft : DT} {fe : DE} (hc : X.calm = true) (hN : X.N.Nodup) (hy : X.N[i]? = some y) (hyl : X.env.scope.names.lookup y = some .local)
    (hsw : swapsWith (.ListComp elt [⟨tg, iter, ifs, 0⟩] scope pos) (some (.Name y py)) spos.line X.env = pure true) (hi : SI X cl W tg iter fi) (ok : BlkOk X.N X.env.scope scope own)
    (hgp : ∀ (s : Shared) (H : Hp) (C : Addr) (c : List (Str × Addr)) (fp : List Addr), PG (X.blk s H scope (compEnvC scope c C X.env) fp) tg g) (hg : TgOk (gx X cl) (own.map (·.2)) g t)
    (ht : ∀ (s : Shared) (H : Hp) (C : Addr) (c : List (Str × Addr)) (fp : List Addr), PTs (X.blk s H scope (compEnvC scope c C X.env) fp) ifs (dT (gx X cl) W0 ft))
    (he : ∀ (s : Shared) (H : Hp) (C : Addr) (c : List (Str × Addr)) (fp : List Addr), PE (X.blk s H scope (compEnvC scope c C X.env) fp) elt (dE (gx X cl) W0 fe)) (hs : ∀ x, foldedSetIterable iter X.env x = pure x := by intro _; rfl) :
    SS X cl W (.Assign [.Name y py] (.ListComp elt [⟨tg, iter, ifs, 0⟩] scope pos) spos) (dSet i (dLc (own.map (·.2)) t fi ft fe)) :=
  PSweak (ps_setLc hc hN hy hyl hsw hi ok hgp ht he hs) fun D σ H ⟨ρ, env, M, hE, hS, h⟩ => by
    refine lc_ok (Q := fun x H1 => gName i x σ H1 D.nx) hg ⟨ρ, env, M, hE, hS, ?_⟩
    exact (post_bind h).imp (fun d M1 hx ρ1 v H1 e1 S1 r1 => hx ρ1 _ H1 e1 S1 ((hE.mono e1).set i r1)) (fun _ _ _ z => z)
theorem pts_yes : PTs X [] (dT G W0 dYes) := PTsweak pts_nil fun σ H Q ⟨ρ, env, M, hE, hS, h⟩ => h ρ H .refl hS
def iterD (x : D) : Option (List D) := match x with
  | .lst l => some l
  | .tup l => some l
  | .scr ns => some (ns.map D.int)
  | _ => none
def dIter (fe : DE) : DA := fun env M => (fe env M).bind fun x M1 => match iterD x with
  | some l => .ok l M1
  | none => .bad
theorem good_lst {H0 : Hp} {ρ0 : Rho} {a : Addr} {vs : List V} {ds : List D} (hs : H0 a = some (.lst vs)) (hn : a ∉ ρ0) (rs : RVs G H0 ρ0 ds vs) : Good (Itl G.K a) G ds ρ0 H0 := by
  intro H ρ mo i
  have hl := (mo.keep _ _ hn (by first | exact .l | exact .f) hs).1
  have rs' := rs.mo mo
  refine ⟨fun d hd => ?_, fun hi => ⟨vs, SqL.of hl, by rw [rs.length]; exact hi⟩⟩
  obtain ⟨v, hv, rv⟩ := rs'.get hd
  refine ⟨⟨vs, v, SqL.of hl, hv⟩, fun x H' y _ => ?_⟩
  obtain ⟨rfl, y⟩ := y
  have e := y vs (SqL.of hl)
  rw [hv] at e; cases e
  exact ⟨.refl, fun _ z => z, rv⟩
theorem good_scr {H0 : Hp} {ρ0 : Rho} {a : Addr} {ns : List Int} (hs : (Rd H0 a (.lst (ns.map V.int)) ∧ a ∉ ρ0) ∨ (∀ H', SqL G.K H' a (ns.map V.int))) : Good (Itl G.K a) G (ns.map D.int) ρ0 H0 := by
  intro H ρ mo i
  have hl : SqL G.K H a (ns.map V.int) := by
    rcases hs with ⟨h | ⟨o, h⟩, n⟩ | h
    · exact .inl (.inl (mo.keep _ _ n (by first | exact .l | exact .f) h).1)
    · exact .inl (.inr ⟨o, (mo.keep _ _ n (by first | exact .l | exact .f) h).1⟩)
    · exact h H
  have rs' : RVs G H ρ (ns.map D.int) (ns.map V.int) := RVs.ints ns
  refine ⟨fun d hd => ?_, fun hi => ⟨_, hl, by rw [rs'.length]; exact hi⟩⟩
  obtain ⟨v, hv, rv⟩ := rs'.get hd
  refine ⟨⟨_, v, hl, hv⟩, fun x H' y _ => ?_⟩
  obtain ⟨rfl, y⟩ := y
  have e := y _ hl
  rw [hv] at e; cases e
  exact ⟨.refl, fun _ z => z, rv⟩
theorem good_tup {H0 : Hp} {ρ0 : Rho} {a : Addr} {vs : List V} {ds : List D} (hs : TpA G H0 a vs) (rs : RVs G H0 ρ0 ds vs) : Good (Itt G.K a) G ds ρ0 H0 := by
  intro H ρ mo i
  have hl := (mo.tup _ _ hs).1
  have rs' := rs.mo mo
  refine ⟨fun d hd => ?_, fun hi => ⟨vs, hl, by rw [rs.length]; exact hi⟩⟩
  obtain ⟨v, hv, rv⟩ := rs'.get hd
  refine ⟨⟨vs, v, hl, hv⟩, fun x H' y _ => ?_⟩
  obtain ⟨rfl, y⟩ := y
  have e := y vs hl
  rw [hv] at e; cases e
  exact ⟨.refl, fun _ z => z, rv⟩
def rngD (lo : Int) (n : Nat) : List D := (List.range n).map fun k => D.int (lo + (k : Nat))
theorem good_rng {H0 : Hp} {ρ0 : Rho} {lo : Int} {n : Nat} : Good (Itr lo n) G (rngD lo n) ρ0 H0 := by
  intro H ρ mo i
  refine ⟨fun d hd => ?_, fun hi => show n ≤ i by simpa [rngD] using hi⟩
  have hi : i < n := by
    have := (List.getElem?_eq_some_iff.mp hd).1
    simpa [rngD] using this
  have e : d = D.int (lo + (i : Nat)) := by
    unfold rngD at hd
    rw [List.getElem?_map, List.getElem?_range hi] at hd
    exact (Option.some.inj hd).symm
  subst e
  refine ⟨hi, fun x H' y _ => ?_⟩
  obtain ⟨rfl, rfl⟩ := y
  exact ⟨.refl, fun _ z => z, .int _⟩
def enumD (k : Nat) : List D → List D
  | [] => []
  | d :: ds => .tup [.int (k : Nat), d] :: enumD (k + 1) ds
theorem enumD_get : ∀ {ds : List D} {k i : Nat}, (enumD k ds)[i]? = (ds[i]?).map fun d => D.tup [.int ((k + i : Nat) : Int), d]
  | [], k, i => by simp [enumD]
  | d :: ds, k, 0 => by simp [enumD]
  | d :: ds, k, i + 1 => by
    have := enumD_get (ds := ds) (k := k + 1) (i := i)
    simp only [enumD, List.getElem?_cons_succ]
    rw [this]
    have e : k + 1 + i = k + (i + 1) := by omega
    rw [e]
theorem enumD_len : ∀ {ds : List D} {k : Nat}, (enumD k ds).length = ds.length
  | [], k => rfl
  | d :: ds, k => by simp [enumD, enumD_len]
theorem good_enum {H0 : Hp} {ρ0 : Rho} {a : Addr} {vs : List V} {ds : List D} (hs : H0 a = some (.lst vs)) (hn : a ∉ ρ0) (rs : RVs G H0 ρ0 ds vs) : Good (Ite G.K a) G (enumD 0 ds) ρ0 H0 := by
  intro H ρ mo i
  have hl := (mo.keep _ _ hn (by first | exact .l | exact .f) hs).1
  have rs' := rs.mo mo
  refine ⟨fun d hd => ?_, fun hi => ⟨vs, SqL.of hl, by rw [rs.length]; rw [enumD_len] at hi; exact hi⟩⟩
  rw [enumD_get] at hd
  cases e : ds[i]? with
  | none => rw [e] at hd; cases hd
  | some d0 =>
    rw [e] at hd
    cases hd
    obtain ⟨v, hv, rv⟩ := rs'.get e
    refine ⟨⟨vs, v, SqL.of hl, hv⟩, fun x H' y ⟨M, S⟩ => ?_⟩
    obtain ⟨T, x', rfl, hT, rfl, y⟩ := y
    have e := y vs (SqL.of hl)
    rw [hv] at e; cases e
    refine ⟨Ext.new S hT, fun M' S' => S'.new hT, .tup (TpA.of upd_same) (.cons ?_ (.one (rv.mono (Ext.new S hT))))⟩
    have e0 : ((0 + i : Nat) : Int) = (i : Nat) := by omega
    rw [e0]; exact .int _
end
theorem PI.or {X : Cx} {tg e : Expr} {t t' : TI} (h : PI X tg e t) (h' : PI X tg e t') : PI X tg e (fun σ H R => t σ H R ∨ t' σ H R) :=
  ⟨fun pins s σ H R I z => z.elim (h.run pins s σ H R I) (h'.run pins s σ H R I)⟩
section
variable {X : Cx} {cl : Str → Option Addr} {W : WX} {G : Gx}
theorem si_iter {tg e : Expr} {fe : DE} (he : SE X cl W e fe) : SI X cl W tg e (dIter fe) :=
  PIweak (PI.or (pi_list he) (pi_tup he)) fun σ H R ⟨ρ, env, M, hE, hS, h⟩ => by
    have h' := post_bind h
    cases hf : fe env M with
    | bad => rw [hf] at h'; exact h'.elim
    | exc e ev M1 => exact .inl ⟨ρ, env, M, hE, hS, by rw [hf] at h' ⊢; exact h'⟩
    | ok d M1 =>
      rw [hf] at h'
      cases d with
      | lst l => exact .inl ⟨ρ, env, M, hE, hS, by
          rw [hf]
          intro ρ1 v H1 e1 S1 r1
          cases r1 with
          | lst hs hn rs => exact ⟨_, rfl, ⟨_, SqL.of hs⟩, h' ρ1 H1 _ e1 S1 (good_lst (G := gx X cl) hs hn rs)⟩⟩
      | scr ns => exact .inl ⟨ρ, env, M, hE, hS, by
          rw [hf]
          intro ρ1 v H1 e1 S1 r1
          cases r1 with
          | scr hs =>
            refine ⟨_, rfl, ⟨ns.map V.int, ?_⟩, h' ρ1 H1 _ e1 S1 (good_scr (G := gx X cl) hs)⟩
            rcases hs with ⟨h, _⟩ | h
            · exact .inl h
            · exact h H1⟩
      | tup l => exact .inr ⟨ρ, env, M, hE, hS, by
          rw [hf]
          intro ρ1 v H1 e1 S1 r1
          cases r1 with
          | tup hs rs => exact ⟨_, rfl, ⟨_, hs.1⟩, h' ρ1 H1 _ e1 S1 (good_tup (G := gx X cl) hs rs)⟩⟩
      | _ => exact h'.elim
def in62 (j : Int) : Bool := decide (-(2 ^ 62) ≤ j) && decide (j < 2 ^ 62)
theorem in62_ok {j : Int} (h : in62 j = true) : -(2 ^ 62) ≤ j ∧ j < 2 ^ 62 := by
  unfold in62 at h
  simp only [Bool.and_eq_true, decide_eq_true_eq] at h
  exact h
def dRng1 (fa : DA) : DA := fun env M => (fa env M).bind fun ds M1 => match ds with
  | [.int j] => if in62 j then .ok (rngD 0 j.toNat) M1 else .bad
  | _ => .bad
def dRng2 (fa : DA) : DA := fun env M => (fa env M).bind fun ds M1 => match ds with
  | [.int i, .int j] => if in62 i && in62 j then .ok (rngD i (j - i).toNat) M1 else .bad
  | _ => .bad
theorem si_range1 {tg a : Expr} {fa : DA} {p pos : Pos} (hg : Gl X "range") (hm : X.mg "range" = none) (ha : SA X cl W [a] fa) (hs : starEach [a] X.env = [(false, eval a X.env)] := by rfl) : SI X cl W tg (.Call (.Name "range" p) [a] [] pos) (dRng1 fa) :=
  PIweak (pi_range1 hg hm ha hs) fun σ H R ⟨ρ, env, M, hE, hS, h⟩ => by
    refine ⟨ρ, env, M, hE, hS, (post_bind h).imp (fun ds M1 hx ρ1 vs H1 e1 S1 r1 => ?_) (fun _ _ _ z => z)⟩
    split at hx
    · rename_i j
      split at hx
      · rename_i hj
        cases r1 with
        | cons q1 q2 =>
          cases q1
          cases q2
          exact ⟨j, rfl, (in62_ok hj).1, (in62_ok hj).2, hx ρ1 H1 _ e1 S1 good_rng⟩
      · exact hx.elim
    · exact hx.elim
abbrev DF := List D → Sto → Out D
def spD (G : Gx) (F : DF) : Sp := fun vs H Q _ => ∃ ρ M ds, RS G H ρ M ∧ RVs G H ρ ds vs ∧ (F ds M).post (oP G H ρ Q) (fun _ _ _ => False)
def dCall (F : DF) (fa : DA) : DE := fun env M => (fa env M).bind fun ds M1 => noex (F ds M1)
theorem noexF {α : Type} {o : Out α} {Q : α → Sto → Prop} {E : Exn → En → Sto → Prop} (h : (noex o).post Q E) : o.post Q (fun _ _ _ => False) := noex_post h
theorem se_call {F : DF} {k : Nat} {f : Addr} {fd : FuncData} {ps : List Str} {x : Str} {e : Expr} {es : List Expr} {fa : DA} {p pos : Pos} (Fk : FnOk X.prog X.w X.K X.mg X.base CX0 k f fd ps (spD (gx X cl) F)) (hr : Room k X.A) (hg : Gl X x) (hm : X.mg x = some (.ref f)) (hk : PySem.W.keepIn X.K (.ref f) = true) (hb : Binds X.K fd ps [])
    (ha : SA X cl W (e :: es) fa) (hdb : (x == ("__debug__" : Str)) = false := by decide) (he : starEach (e :: es) X.env = (false, eval e X.env) :: starEach es X.env := by rfl) (hpl : (backTo pos (starEach es X.env)).any (·.1) = false := by rfl) :
    SE X cl W (.Call (.Name x p) (e :: es) [] pos) (dCall F fa) :=
  PEweak (pe_call Fk hr hg hm hk hb .nil (E := E0) pass0 ha hdb he hpl) fun σ H Q ⟨ρ, env, M, hE, hS, h⟩ => by
    refine ⟨ρ, env, M, hE, hS, (post_bind h).imp (fun ds M1 hx ρ1 vs H1 e1 S1 r1 => ?_) (fun _ _ _ z => z)⟩
    show spD (gx X cl) F (vs ++ []) H1 Q E0
    rw [List.append_nil]
    exact ⟨ρ1, M1, ds, S1, r1, (noexF hx).imp (fun _ _ z => oP.sh e1 z) (fun _ _ _ z => z)⟩
def runF (n m : Nat) (fb : DS) : DF := fun ds M => if ds.length = m then (fb (ds.map some ++ List.replicate (n - m) none) M).bind fun fl M1 => match fl with
    | .nx _ => .ok .non M1
    | .rt d => .ok d M1
    | _ => .bad
  else .bad
theorem runF_len {n m : Nat} {fb : DS} {ds : List D} {M : Sto} {Q : D → Sto → Prop} {E : Exn → En → Sto → Prop} (h : (runF n m fb ds M).post Q E) : ds.length = m ∧ ((fb (ds.map some ++ List.replicate (n - m) none) M).bind fun fl M1 => match fl with
    | .nx _ => Out.ok D.non M1
    | .rt d => .ok d M1
    | _ => .bad).post Q E := by
  unfold runF at h
  split at h
  · exact ⟨by assumption, h⟩
  · exact h.elim
theorem RE.start {H : Hp} {ρ : Rho} {N : List Str} {ds : List D} {vs : List V} (r : RVs G H ρ ds vs) : RE G H ρ (ds.map some ++ List.replicate (N.length - ds.length) none) (start N vs) := by
  have hl := r.length
  refine ⟨by simp [L2.start, hl], fun i d h => ?_⟩
  by_cases hi : i < ds.length
  · rw [List.getElem?_append_left (by simpa using hi)] at h
    rw [List.getElem?_map] at h
    cases e : ds[i]? with
    | none => rw [e] at h; cases h
    | some d0 =>
      rw [e] at h
      cases h
      obtain ⟨v, hv, rv⟩ := r.get e
      refine ⟨v, ?_, rv⟩
      unfold L2.start
      rw [List.getElem?_append_left (by simp [hl]; exact hi), List.getElem?_map, hv]
      rfl
  · rw [List.getElem?_append_right (by simpa using hi)] at h
    rw [List.getElem?_replicate] at h
    split at h
    · cases h
    · cases h
theorem fnok {P : Program} {w : World} {K : PySem.W.Frag} {mg : Str → Option Value} {base : Heap} {cl : Str → Option Addr} {x qual : Str} {st : Stmt} {f : Addr} {fd : FuncData} {N ps : List Str} {k : Nat} {fb : DS} (F : Fun K x qual st f fd) (S : FnScope N ps (defScope st))
    (hb : ∀ (cdv : Value) (A : Around) (outer : List Env) (s : Shared) (H : Hp) (E : XK), Room k (A.deeper (envOfC qual (defScope st) s.heap.objs.size f cdv)) → SSs (cxOf CX0 P w K mg base N qual (defScope st) f cdv A outer s H E).nox cl W0 (defBody st) fb) :
    FnOk P w K mg base CX0 (k + 1) f fd ps (spD ⟨K, cl⟩ (runF N.length ps.length fb)) := by
  refine F.ok S (fun vs H Q E ⟨ρ, M, ds, hS, r, h⟩ => by rw [r.length]; exact (runF_len h).1) fun cdv A outer s H vs Q E hr ⟨ρ, M, ds, hS, r, h⟩ => ⟨_, hb cdv A outer s H E hr, ?_⟩
  obtain ⟨hl, h⟩ := runF_len h
  rw [← hl] at h
  refine ⟨ρ, _, M, RE.start (N := N) r, hS, (post_bind h).imp (fun fl M1 hx => ?_) (fun _ _ _ z => z.elim)⟩
  cases fl with
  | nx env => exact fun ρ1 σ1 H1 e1 S1 E1 => hx ρ1 .non H1 e1 S1 .non
  | rt d => exact hx
  | bk env => exact hx.elim
  | ct env => exact hx.elim
end
end Ip
end
section
set_option Elab.async false
set_option linter.all false
set_option maxRecDepth 100000
set_option maxHeartbeats 4000000
set_option autoImplicit false
namespace Ip
open PySem PyProof.Rows L2
mutual
def closed (k : Nat) : D → Bool
  | .tup l => closedAll k l
  | .lst l => closedAll k l
  | .obj _ _ l => closedAll k l
  | .ref n => decide (n < k)
  | .non => true
  | .bl _ => true
  | .int _ => true
  | .str _ => true
  | .scr _ => true
  | .ty _ => true
  | .cls _ => true
  | .dK _ l => closedAll k l
  | .dT _ l => closedAll k l
def closedAll (k : Nat) : List D → Bool
  | [] => true
  | d :: ds => closed k d && closedAll k ds
end
def cellClosed (k : Nat) : Cell → Bool
  | .lst ds => closedAll k ds
  | .ins _ _ ds => closedAll k ds
  | .dK _ ds => closedAll k ds
  | .dT _ ds => closedAll k ds
def thaw (k : Nat) (M : Sto) (d : D) : Option D := match d with
  | .ref n => if n < k then some (.ref n) else match M[n]? with
    | some (.lst ds) => if closedAll k ds then some (.lst ds) else none
    | some (.ins c ks ds) => if closedAll k ds then some (.obj c ks ds) else none
    | some (.dK ks ds) => if closedAll k ds then some (.dK ks ds) else none
    | some (.dT ks ds) => if closedAll k ds then some (.dT ks ds) else none
    | none => none
  | d => if closed k d then some d else none
def frzO (k : Nat) (d : D) (M1 : Sto) : Out D := match thaw k M1 d with
  | some d' => if (M1.take k).all (cellClosed k) then .ok d' (M1.take k) else .bad
  | none => .bad
def frz (F : DF) : DF := fun ds M => (F ds M).bind fun d M1 => frzO M.length d M1
section
variable {G : Gx} {H : Hp} {ρ : Rho} {k : Nat}
def Rho.cut (ρ : Rho) (k : Nat) : Rho := ⟨ρ.c.take k, ρ.t⟩
theorem Rho.cut_sub {a : Addr} (h : a ∉ ρ) : a ∉ ρ.cut k := fun z => by
  rcases z with z | z
  · exact h (.inl (List.mem_of_mem_take z))
  · exact h (.inr z)
mutual
theorem RV.cut : ∀ {d : D} {v : V}, RV G H ρ d v → closed k d = true → RV G H (ρ.cut k) d v
  | _, _, .non, _ => .non
  | _, _, .bl b, _ => .bl b
  | _, _, .int i, _ => .int i
  | _, _, .str s, _ => .str s
  | _, _, .ty s, _ => .ty s
  | _, _, .tup h r, c => .tup h (RVs.cut r (by simpa [closed] using c))
  | _, _, .lst h n r, c => .lst h (Rho.cut_sub n) (RVs.cut r (by simpa [closed] using c))
  | _, _, .scr h, _ => .scr (h.elim (fun z => .inl ⟨z.1, Rho.cut_sub z.2⟩) .inr)
  | _, _, .ref (n := n) (a := a) h, c => .ref (by
      have c' : n < k := by simpa [closed] using c
      show (ρ.c.take k)[n]? = some a
      rw [List.getElem?_take_of_lt c']; exact h)
  | _, _, .obj c h l n r, z => .obj c h l (Rho.cut_sub n) (RVs.cut r (by simpa [closed] using z))
  | _, _, .cls h, _ => .cls h
  | _, _, .dK h l n r, z => .dK h l (Rho.cut_sub n) (RVs.cut r (by simpa [closed] using z))
  | _, _, .dT h l n r, z => .dT h l (Rho.cut_sub n) (RVs.cut r (by simpa [closed] using z))
theorem RVs.cut : ∀ {ds : List D} {vs : List V}, RVs G H ρ ds vs → closedAll k ds = true → RVs G H (ρ.cut k) ds vs
  | _, _, .nil, _ => .nil
  | _, _, .cons a b, c => by
    simp only [closedAll, Bool.and_eq_true] at c
    exact .cons (RV.cut a c.1) (RVs.cut b c.2)
end
theorem RS.cut {M : Sto} (S : RS G H ρ M) (hc : (M.take k).all (cellClosed k) = true) : RS G H (ρ.cut k) (M.take k) := by
  refine ⟨by show (ρ.c.take k).length = _; simp [S.len], S.nd.sublist (List.take_sublist _ _), fun a ha => S.dis a (List.mem_of_mem_take ha), S.trt, fun n c h => ?_, S.tb⟩
  have hn : n < k := by
    have := (List.getElem?_eq_some_iff.mp h).1
    simp at this; omega
  have hcc : cellClosed k c = true := List.all_eq_true.mp hc c (List.mem_of_getElem? h)
  rw [List.getElem?_take_of_lt hn] at h
  obtain ⟨a, ha, q⟩ := S.at_ n c h
  refine ⟨a, by show (ρ.c.take k)[n]? = some a; rw [List.getElem?_take_of_lt hn]; exact ha, ?_⟩
  cases c with
  | lst ds => obtain ⟨vs, e, r⟩ := q; exact ⟨vs, e, r.cut hcc⟩
  | ins c ks ds => obtain ⟨C, dx, vs, e0, e, l, r⟩ := q; exact ⟨C, dx, vs, e0, e, l, r.cut hcc⟩
  | dK ks ds => obtain ⟨vs, e, l, r⟩ := q; exact ⟨vs, e, l, r.cut hcc⟩
  | dT ks ds => obtain ⟨vs, e, l, r⟩ := q; exact ⟨vs, e, l, r.cut hcc⟩
theorem cut_notin {M : Sto} (S : RS G H ρ M) {n : Nat} {a : Addr} (hn : k ≤ n) (h : ρ.c[n]? = some a) : a ∉ ρ.cut k := fun z => by
  rcases z with z | z
  · have z' : a ∈ ρ.c.take k := z
    obtain ⟨m, hm, e⟩ := List.getElem_of_mem z'
    have hm' : m < k := by
      rw [List.length_take] at hm; omega
    have : ρ.c[m]? = some a := by
      have q : (ρ.c.take k)[m]? = some a := by rw [List.getElem?_eq_getElem hm, e]
      rw [List.getElem?_take_of_lt hm'] at q; exact q
    have := nodup_at S.nd this h
    omega
  · exact S.dis a (List.mem_of_getElem? h) z
theorem thaw_ok {M : Sto} (S : RS G H ρ M) {d d' : D} {v : V} (r : RV G H ρ d v) (h : thaw k M d = some d') : RV G H (ρ.cut k) d' v := by
  cases r with
  | ref hn =>
    rename_i n a
    have h' : (if n < k then some (D.ref n) else match M[n]? with
      | some (.lst ds) => if closedAll k ds then some (D.lst ds) else none
      | some (.ins c ks ds) => if closedAll k ds then some (D.obj c ks ds) else none
      | some (.dK ks ds) => if closedAll k ds then some (D.dK ks ds) else none
      | some (.dT ks ds) => if closedAll k ds then some (D.dT ks ds) else none
      | none => none) = some d' := h
    split at h'
    · rename_i hlt
      cases h'
      exact .ref (by show (ρ.c.take k)[n]? = some a; rw [List.getElem?_take_of_lt hlt]; exact hn)
    · rename_i hge
      split at h'
      · rename_i ds hm
        split at h'
        · rename_i hc
          cases h'
          obtain ⟨b, hb, vs, e, r⟩ := S.at_ _ _ hm
          rw [hn] at hb; cases hb
          exact .lst e (cut_notin S (by omega) hn) (r.cut hc)
        · cases h'
      · rename_i c ks ds hm
        split at h'
        · rename_i hc
          cases h'
          obtain ⟨b, hb, C, dx, vs, e0, e, l, r⟩ := S.at_ _ _ hm
          rw [hn] at hb; cases hb
          exact .obj e0 e l (cut_notin S (by omega) hn) (r.cut hc)
        · cases h'
      · rename_i ks ds hm
        split at h'
        · rename_i hc
          cases h'
          obtain ⟨b, hb, vs, e, l, r⟩ := S.at_ _ _ hm
          rw [hn] at hb; cases hb
          exact .dK e l (cut_notin S (by omega) hn) (r.cut hc)
        · cases h'
      · rename_i ks ds hm
        split at h'
        · rename_i hc
          cases h'
          obtain ⟨b, hb, vs, e, l, r⟩ := S.at_ _ _ hm
          rw [hn] at hb; cases hb
          exact .dT (.inl e) l (cut_notin S (by omega) hn) (r.cut hc)
        · cases h'
      · cases h'
  | non => cases (show (if closed k .non then some D.non else none) = some d' from h); exact .non
  | bl b => cases (show (if closed k (.bl b) then some (D.bl b) else none) = some d' from h); exact .bl b
  | int i => cases (show (if closed k (.int i) then some (D.int i) else none) = some d' from h); exact .int i
  | str s => cases (show (if closed k (.str s) then some (D.str s) else none) = some d' from h); exact .str s
  | ty s => cases (show (if closed k (.ty s) then some (D.ty s) else none) = some d' from h); exact .ty s
  | scr hs =>
    rename_i a ns
    cases (show (if closed k (.scr ns) then some (D.scr ns) else none) = some d' from h); exact RV.cut (.scr hs) rfl
  | tup hs rs =>
    unfold thaw at h
    have h' := h
    simp only at h'
    split at h'
    · rename_i hc
      cases h'
      exact RV.cut (.tup hs rs) hc
    · cases h'
  | lst hs hn rs =>
    unfold thaw at h
    have h' := h
    simp only at h'
    split at h'
    · rename_i hc
      cases h'
      exact RV.cut (.lst hs hn rs) hc
    · cases h'
  | obj e0 hs l hn rs =>
    unfold thaw at h
    have h' := h
    simp only at h'
    split at h'
    · rename_i hc
      cases h'
      exact RV.cut (.obj e0 hs l hn rs) hc
    · cases h'
  | cls e0 => cases h; exact .cls e0
  | dK hs l hn rs =>
    unfold thaw at h
    have h' := h
    simp only at h'
    split at h'
    · rename_i hc
      cases h'
      exact RV.cut (.dK hs l hn rs) hc
    · cases h'
  | dT hs l hn rs =>
    unfold thaw at h
    have h' := h
    simp only at h'
    split at h'
    · rename_i hc
      cases h'
      exact RV.cut (.dT hs l hn rs) hc
    · cases h'
theorem Ext.cut {H' : Hp} {ρ' : Rho} {M M' : Sto} (S : RS G H ρ M) (e : Ext G H ρ H' ρ') : Ext G H ρ H' (ρ'.cut M.length) :=
  ⟨fun n a h => by
    have hn : n < M.length := by rw [← S.len]; exact (List.getElem?_eq_some_iff.mp h).1
    show (ρ'.c.take M.length)[n]? = some a
    rw [List.getElem?_take_of_lt hn]; exact e.pre n a h, e.res, e.same, e.tup, fun a o h1 nt h2 => ⟨(e.keep a o h1 nt h2).1, Rho.cut_sub (e.keep a o h1 nt h2).2⟩⟩
theorem frzO_ok {M M1 : Sto} {d : D} {Q : VK} {E : Exn → En → Sto → Prop} (S : RS G H ρ M) (h : (frzO M.length d M1).post (oP G H ρ Q) E) : oP G H ρ Q d M1 := by
  unfold frzO at h
  split at h
  · rename_i d' hd
    split at h
    · rename_i hc
      intro ρ1 v H1 e1 S1 r1
      exact h (ρ1.cut M.length) v H1 (Ext.cut (M' := M1) S e1) (S1.cut hc) (thaw_ok S1 r1 hd)
    · exact h.elim
  · exact h.elim
end
theorem spD_frz {G : Gx} {F : DF} {vs : List V} {H : Hp} {Q : VK} {E : XK} (h : spD G (frz F) vs H Q E) : spD G F vs H Q E := by
  obtain ⟨ρ, M, ds, S, r, h⟩ := h
  exact ⟨ρ, M, ds, S, r, (post_bind h).imp (fun d M1 hx => frzO_ok S hx) (fun _ _ _ z => z)⟩
theorem fn_frz {P : Program} {w : World} {K : PySem.W.Frag} {mg : Str → Option Value} {base : Heap} {k : Nat} {f : Addr} {fd : FuncData} {ps : List Str} {G : Gx} {F : DF} (h : FnOk P w K mg base CX0 k f fd ps (spD G F)) : FnOk P w K mg base CX0 k f fd ps (spD G (frz F)) :=
  h.imp fun _ _ _ _ z => spD_frz z
section
variable {X : Cx} {cl : Str → Option Addr} {W : WX} {G : Gx}
def objOf (c : Str) (x : D) (M : Sto) : Option (List Str × List D) := match x with
  | .obj c' ks ds => if c' = c then some (ks, ds) else none
  | .ref n => match M[n]? with
    | some (.ins c' ks ds) => if c' = c then some (ks, ds) else none
    | _ => none
  | _ => none
def dFld (c f : Str) (fe : DE) : DE := fun env M => (fe env M).bind fun x M1 => match objOf c x M1 with
  | some (ks, ds) => match (ks.zip ds).lookup f with
    | some d => .ok d M1
    | none => .bad
  | none => .bad
def putKs (f : Str) : List Str → List Str
  | [] => [f]
  | g :: r => if g = f then g :: r else g :: putKs f r
def putVs {α : Type} (f : Str) (x : α) : List Str → List α → List α
  | [], _ => [x]
  | g :: r, y :: ys => if g = f then x :: ys else y :: putVs f x r ys
  | _ :: _, [] => []
def dSetFld (c f : Str) (fo fe : DE) : DS := fun env M => (fe env M).bind fun y M1 => (fo env M1).bind fun x M2 => match x with
  | .ref n => match M2[n]? with
    | some (.ins c' ks ds) => if c' = c ∧ ks.length < 1000 then .ok (.nx env) (M2.set n (.ins c' (putKs f ks) (putVs f y ks ds))) else .bad
    | _ => .bad
  | _ => .bad
def dMeth (c m : Str) (F : DF) (fo : DE) (fa : DA) : DE := fun env M => (fo env M).bind fun x M1 => match objOf c x M1 with
  | some (ks, ds) => match (ks.zip ds).lookup m with
    | none => (fa env M1).bind fun as M2 => noex (F (x :: as) M2)
    | some _ => .bad
  | none => .bad
def dMake (c : Str) (F : DF) (fa : DA) : DE := fun env M => (fa env M).bind fun ds M1 => (noex (F (.ref M1.length :: ds) (M1 ++ [.ins c [] []]))).bind fun d M2 => match d with
  | .non => frzO M1.length (.ref M1.length) M2
  | _ => .bad
end
end Ip
end
section
set_option Elab.async false
set_option linter.all false
set_option maxRecDepth 100000
set_option maxHeartbeats 4000000
set_option autoImplicit false
namespace Ip
open PySem PyProof.Rows L2
section
variable {X : Cx} {cl : Str → Option Addr} {W : WX} {G : Gx}
/-- a list, tree or cell -/
def asL (x : D) (M : Sto) : Option (List D) := match x with
  | .lst l => some l
  | .ref n => match M[n]? with
    | some (.lst l) => some l
    | _ => none
  | _ => none
theorem asL_ok {H : Hp} {ρ : Rho} {M : Sto} {x : D} {v : V} {l : List D} (S : RS G H ρ M) (r : RV G H ρ x v) (h : asL x M = some l) : ∃ a vs, v = .ref a ∧ H a = some (.lst vs) ∧ RVs G H ρ l vs := by
  cases r with
  | lst hs hn rs => cases h; exact ⟨_, _, rfl, hs, rs⟩
  | ref hn =>
    rename_i n a
    have h' : (match M[n]? with
      | some (.lst l) => some l
      | _ => none) = some l := h
    split at h'
    · rename_i l' hm
      cases h'
      obtain ⟨b, hb, vs, e, rs⟩ := S.at_ _ _ hm
      rw [hn] at hb; cases hb
      exact ⟨_, _, rfl, e, rs⟩
    · cases h'
  | _ => cases h
theorem oP.new {H : Hp} {ρ : Rho} {M : Sto} {Q : VK} {d : D} {p : Addr} {o : HO} (h : oP G H ρ Q d M) (S : RS G H ρ M) (hp : H p = none) (r : RV G (upd H p o) ρ d (.ref p)) : Q (.ref p) (upd H p o) := h ρ _ _ (Ext.new S hp) (S.new hp) r
theorem RV.newL {H : Hp} {ρ : Rho} {M : Sto} {ds : List D} {vs : List V} {p : Addr} (S : RS G H ρ M) (hp : H p = none) (r : RVs G H ρ ds vs) : RV G (upd H p (.lst vs)) ρ (.lst ds) (.ref p) := .lst upd_same (S.fresh hp) (r.mono (Ext.new S hp))
theorem RV.newT {H : Hp} {ρ : Rho} {M : Sto} {ds : List D} {vs : List V} {p : Addr} (S : RS G H ρ M) (hp : H p = none) (r : RVs G H ρ ds vs) : RV G (upd H p (.tup vs)) ρ (.tup ds) (.ref p) := .tup (TpA.of upd_same) (r.mono (Ext.new S hp))
def gInt (f : Int → Int → Int) : G2 := fun x y M => match x, y with
  | .int i, .int j => some (.int (f i j), M)
  | _, _ => none
def gIntB (f : Int → Int → Bool) : G2 := fun x y M => match x, y with
  | .int i, .int j => some (.bl (f i j), M)
  | _, _ => none
theorem ops_int {f : Int → Int → Int} : OpS G (rI0 fun i j => .int (f i j)) (gInt f) := fun H ρ M x y dx dy d M' Q S rx ry e h => by
  cases rx with
  | int i =>
    cases ry with
    | int j => cases e; exact ⟨i, j, rfl, rfl, h ρ _ H .refl S (.int _)⟩
    | _ => cases e
  | _ => cases e
theorem ops_intB {f : Int → Int → Bool} : OpS G (rI0 fun i j => .bl (f i j)) (gIntB f) := fun H ρ M x y dx dy d M' Q S rx ry e h => by
  cases rx with
  | int i =>
    cases ry with
    | int j => cases e; exact ⟨i, j, rfl, rfl, h ρ _ H .refl S (.bl _)⟩
    | _ => cases e
  | _ => cases e
def gIntC (c : Int → Int → Bool) (f : Int → Int → Int) : G2 := fun x y M => match x, y with
  | .int i, .int j => if c i j then some (.int (f i j), M) else none
  | _, _ => none
theorem ops_intC {C : Int → Int → Prop} {c : Int → Int → Bool} {f : Int → Int → Int} (hc : ∀ i j, c i j = true → C i j) : OpS G (rI C fun i j => .int (f i j)) (gIntC c f) := fun H ρ M x y dx dy d M' Q S rx ry e h => by
  cases rx with
  | int i =>
    cases ry with
    | int j =>
      have e' : (if c i j then some (D.int (f i j), M) else none) = some (d, M') := e
      split at e'
      · rename_i hcc
        cases e'
        exact ⟨i, j, rfl, rfl, hc i j hcc, h ρ _ H .refl S (.int _)⟩
      · cases e'
    | _ => cases e
  | _ => cases e
def gStr (f : Str → Str → Str) : G2 := fun x y M => match x, y with
  | .str s, .str t => if s.length + t.length ≤ 16777216 then some (.str (f s t), M) else none
  | _, _ => none
theorem ops_addS : OpS G (fun x y H Q => ∃ i j, x = .str i ∧ y = .str j ∧ i.length + j.length ≤ sizeLine ∧ Q (.str (i ++ j)) H) (gStr fun s t => s ++ t) := fun H ρ M x y dx dy d M' Q S rx ry e h => by
  cases rx with
  | str i =>
    cases ry with
    | str j =>
      have e' : (if i.length + j.length ≤ 16777216 then some (D.str (i ++ j), M) else none) = some (d, M') := e
      split at e'
      · rename_i hcc
        cases e'
        exact ⟨i, j, rfl, rfl, line_of hcc, h ρ _ H .refl S (.str _)⟩
      · cases e'
    | _ => cases e
  | _ => cases e
def gCat : G2 := fun x y M => match asL x M, asL y M with
  | some a, some b => if a.length + b.length ≤ 16777216 then some (.lst (a ++ b), M) else none
  | _, _ => none
def gCatC : G2 := fun x y M => match asL x M, asL y M with
  | some a, some b => if a.length + b.length ≤ 16777216 then some (.ref M.length, M ++ [.lst (a ++ b)]) else none
  | _, _ => none
theorem ops_cat : OpS G rCat gCat := fun H ρ M x y dx dy d M' Q S rx ry e h => by
  unfold gCat at e
  split at e
  · rename_i a b ha hb
    split at e
    · rename_i hl
      cases e
      obtain ⟨p, vs, rfl, hp, rs⟩ := asL_ok S rx ha
      obtain ⟨q, ws, rfl, hq, rt⟩ := asL_ok S ry hb
      exact ⟨p, q, vs, ws, rfl, rfl, hp, hq, by rw [rs.length, rt.length]; exact line_of hl, fun z hz => h.new S hz (RV.newL S hz (rs.append rt))⟩
    · cases e
  · cases e
theorem ops_catC : OpS G rCat gCatC := fun H ρ M x y dx dy d M' Q S rx ry e h => by
  unfold gCatC at e
  split at e
  · rename_i a b ha hb
    split at e
    · rename_i hl
      cases e
      obtain ⟨p, vs, rfl, hp, rs⟩ := asL_ok S rx ha
      obtain ⟨q, ws, rfl, hq, rt⟩ := asL_ok S ry hb
      exact ⟨p, q, vs, ws, rfl, rfl, hp, hq, by rw [rs.length, rt.length]; exact line_of hl, fun z hz => h _ _ _ (Ext.cell S hz) (S.newLst hz (rs.append rt)) (.ref S.at_new)⟩
    · cases e
  · cases e
def gCatT : G2 := fun x y M => match x, y with
  | .tup a, .tup b => if a.length + b.length ≤ 16777216 then some (.tup (a ++ b), M) else none
  | _, _ => none
theorem ops_catT : OpS G (rCatA G.K) gCatT := fun H ρ M x y dx dy d M' Q S rx ry e h => by
  cases rx with
  | tup hs rs =>
    cases ry with
    | tup ht rt =>
      unfold gCatT at e
      simp only at e
      split at e
      · rename_i hl
        cases e
        refine ⟨_, _, _, _, rfl, rfl, hs.1, ht.1, by rw [rs.length, rt.length]; exact line_of hl, fun z => ?_, fun _ z => ?_, fun _ _ p hp => h.new S hp (RV.newT S hp (rs.append rt))⟩
        · subst z
          cases rs
          exact h ρ _ H .refl S (.tup ht rt)
        · subst z
          cases rt
          rw [List.append_nil] at h
          exact h ρ _ H .refl S (.tup hs rs)
      · cases e
    | _ => cases e
  | _ => cases e
def in63 (k : Int) : Bool := decide (-(2 ^ 63) ≤ k) && decide (k < 2 ^ 63)
def gRep : G2 := fun x y M => match y with
  | .int k => match asL x M with
    | some a => if in63 k && decide (a.length * k.toNat ≤ 16777216) then some (.lst (List.replicate k.toNat a).flatten, M) else none
    | none => none
  | _ => none
theorem ops_rep : OpS G rRep gRep := fun H ρ M x y dx dy d M' Q S rx ry e h => by
  cases ry with
  | int k =>
    unfold gRep at e
    simp only at e
    split at e
    · rename_i a ha
      split at e
      · rename_i hl
        simp only [in63, Bool.and_eq_true, decide_eq_true_eq] at hl
        cases e
        obtain ⟨p, vs, rfl, hp, rs⟩ := asL_ok S rx ha
        exact ⟨p, k, vs, rfl, rfl, hp, hl.1.1, hl.1.2, by rw [rs.length]; exact line_of hl.2, fun z hz => h.new S hz (RV.newL S hz (rs.rep _))⟩
      · cases e
    · cases e
  | _ => cases e
def orG (g g' : G2) : G2 := fun x y M => match g x y M with
  | some p => some p
  | none => g' x y M
theorem OpS.or {r r' : R2} {g g' : G2} (h : OpS G r g) (h' : OpS G r' g') : OpS G (fun x y H Q => r x y H Q ∨ r' x y H Q) (orG g g') := fun H ρ M x y dx dy d M' Q S rx ry e z => by
  unfold orG at e
  split at e
  · rename_i p hp
    cases e
    exact .inl (h H ρ M x y dx dy d M' Q S rx ry hp z)
  · exact .inr (h' H ρ M x y dx dy d M' Q S rx ry e z)
/-- a + b -/
def gAdd : G2 := fun x y M => match x, y with
  | .int i, .int j => some (.int (i + j), M)
  | _, _ => orG (gStr fun s t => s ++ t) (orG gCat gCatT) x y M
abbrev rAddA (K : PySem.W.Frag) : R2 := fun x y H Q => rI0 (fun i j => .int (i + j)) x y H Q ∨ ((∃ i j, x = .str i ∧ y = .str j ∧ i.length + j.length ≤ sizeLine ∧ Q (.str (i ++ j)) H) ∨ (rCat x y H Q ∨ rCatA K x y H Q))
theorem op_addA : OpR X (binaryOp .Add) (rAddA X.K) := op_add.or (op_add_str.or (op_cat.or op_catA))
theorem ops_addA : OpS G (rAddA G.K) gAdd := fun H ρ M x y dx dy d M' Q S rx ry e z => by
  unfold gAdd at e
  split at e
  · cases e
    cases rx
    cases ry
    exact .inl ⟨_, _, rfl, rfl, z ρ _ H .refl S (.int _)⟩
  · exact .inr ((ops_addS.or (ops_cat.or ops_catT)) H ρ M x y dx dy d M' Q S rx ry e z)
def toV : D → Option V
  | .non => some .non
  | .bl b => some (.bl b)
  | .int i => some (.int i)
  | .str s => some (.str s)
  | _ => none
mutual
def toPy : D → Option PyData
  | .non => some .none
  | .bl b => some (.bool b)
  | .int i => some (.int i)
  | .str s => some (.str s)
  | .tup l => (toPys l).map .tuple
  | .lst l => (toPys l).map .list
  | .scr _ => none
  | .ty _ => none
  | .ref _ => none
  | .obj _ _ _ => none
  | .cls _ => none
  | .dK _ _ => none
  | .dT _ _ => none
def toPys : List D → Option (List PyData)
  | [] => some []
  | d :: ds => match toPy d, toPys ds with
    | some p, some ps => some (p :: ps)
    | _, _ => none
end
def pyM (x : D) (M : Sto) : Option PyData := match x with
  | .ref n => match M[n]? with
    | some (.lst l) => (toPys l).map .list
    | _ => none
  | d => toPy d
mutual
theorem toPy_ok {H : Hp} {ρ : Rho} : ∀ {d : D} {v : V} {p : PyData}, RV G H ρ d v → toPy d = some p → Dp G.K H v p
  | _, _, _, .non, h => by cases h; exact .non
  | _, _, _, .bl b, h => by cases h; exact .bl b
  | _, _, _, .int i, h => by cases h; exact .int i
  | _, _, _, .str s, h => by cases h; exact .str s
  | _, _, _, .ty s, h => by cases h
  | _, _, _, .scr s, h => by cases h
  | _, _, _, .ref s, h => by cases h
  | _, _, _, .obj _ _ _ _ _, h => by cases h
  | _, _, _, .cls _, h => by cases h
  | _, _, _, .dK _ _ _ _, h => by cases h
  | _, _, _, .dT _ _ _ _, h => by cases h
  | _, _, p, .tup (ds := ds) hs rs, h => by
    simp only [toPy] at h
    cases e : toPys ds with
    | none => rw [e] at h; cases h
    | some ps => rw [e] at h; cases h; exact .tup hs.1 (toPys_ok rs e)
  | _, _, p, .lst (ds := ds) hs hn rs, h => by
    simp only [toPy] at h
    cases e : toPys ds with
    | none => rw [e] at h; cases h
    | some ps => rw [e] at h; cases h; exact .lst (SqL.of hs) (toPys_ok rs e)
theorem toPys_ok {H : Hp} {ρ : Rho} : ∀ {ds : List D} {vs : List V} {ps : List PyData}, RVs G H ρ ds vs → toPys ds = some ps → DpAll G.K H vs ps
  | _, _, _, .nil, h => by cases h; exact .nil
  | _, _, _, .cons (d := d) (ds := ds) r rs, h => by
    simp only [toPys] at h
    cases e : toPy d with
    | none => rw [e] at h; cases h
    | some p =>
      cases e2 : toPys ds with
      | none => rw [e, e2] at h; cases h
      | some ps => rw [e, e2] at h; cases h; exact .cons (toPy_ok r e) (toPys_ok rs e2)
end
theorem pyM_ok {H : Hp} {ρ : Rho} {M : Sto} {d : D} {v : V} {p : PyData} (S : RS G H ρ M) (r : RV G H ρ d v) (h : pyM d M = some p) : Dp G.K H v p := by
  cases r with
  | ref hn =>
    rename_i n a
    have h' : (match M[n]? with
      | some (.lst l) => (toPys l).map PyData.list
      | _ => none) = some p := h
    split at h'
    · rename_i l hm
      cases e : toPys l with
      | none => rw [e] at h'; cases h'
      | some ps =>
        rw [e] at h'; cases h'
        obtain ⟨b, hb, vs, e0, rs⟩ := S.at_ _ _ hm
        rw [hn] at hb; cases hb
        exact .lst (SqL.of e0) (toPys_ok rs e)
    · cases h'
  | non => exact toPy_ok (ρ := ρ) .non h
  | bl b => exact toPy_ok (ρ := ρ) (.bl b) h
  | int i => exact toPy_ok (ρ := ρ) (.int i) h
  | str s => exact toPy_ok (ρ := ρ) (.str s) h
  | ty s => exact toPy_ok (ρ := ρ) (.ty s) h
  | scr s => exact toPy_ok (.scr s) h
  | tup a b => exact toPy_ok (.tup a b) h
  | lst a b c => exact toPy_ok (.lst a b c) h
  | obj a b c d e => exact toPy_ok (.obj a b c d e) h
  | cls a => exact toPy_ok (ρ := ρ) (.cls a) h
  | dK a b c d => exact toPy_ok (.dK a b c d) h
  | dT a b c d => exact toPy_ok (.dT a b c d) h
theorem toV_ok {H : Hp} {ρ : Rho} {d : D} {v w : V} (r : RV G H ρ d v) (h : toV d = some w) : v = w := by
  cases r <;> first | (cases h; done) | (cases h; rfl)
def eqD (x y : D) (M : Sto) : Option Bool := match toV x, toV y with
  | some v, some w => if scal v w then some (decide (v = w)) else none
  | _, _ => match pyM x M, pyM y M with
    | some p, some q => if SeqAt.shaped p && SeqAt.shaped q then some (PyData.eqv p q) else none
    | _, _ => none
def gEq (n : Bool) : G2 := fun x y M => (eqD x y M).map fun b => (.bl (if n then !b else b), M)
theorem op_eqA (hu : X.A.units + 64 < cLine) : OpR X (compareOp .Eq) (fun x y H Q => rEq x y H Q ∨ rEqD X.K x y H Q) := op_eq.or (op_eqD hu)
theorem op_neA (hu : X.A.units + 64 < cLine) : OpR X (compareOp .NotEq) (fun x y H Q => rNe x y H Q ∨ rNeD X.K x y H Q) := op_ne.or (op_neD hu)
theorem eqD_some {x y : D} {M : Sto} {b : Bool} (h : eqD x y M = some b) : (∃ v w, toV x = some v ∧ toV y = some w ∧ scal v w = true ∧ b = decide (v = w)) ∨ (∃ p q, pyM x M = some p ∧ pyM y M = some q ∧ SeqAt.shaped p = true ∧ SeqAt.shaped q = true ∧ b = PyData.eqv p q) := by
  unfold eqD at h
  split at h
  · rename_i v w hv hw
    split at h
    · rename_i hs
      cases h
      exact .inl ⟨v, w, hv, hw, hs, rfl⟩
    · cases h
  · split at h
    · rename_i p q hp hq
      split at h
      · rename_i hs
        rw [Bool.and_eq_true] at hs
        cases h
        exact .inr ⟨p, q, hp, hq, hs.1, hs.2, rfl⟩
      · cases h
    · cases h
theorem ops_eq : OpS G (fun x y H Q => rEq x y H Q ∨ rEqD G.K x y H Q) (gEq false) := fun H ρ M x y dx dy d M' Q S rx ry e z => by
  unfold gEq at e
  cases hb : eqD dx dy M with
  | none => rw [hb] at e; cases e
  | some b =>
    rw [hb] at e; cases e
    have hq : Q (.bl b) H := z ρ _ H .refl S (.bl _)
    rcases eqD_some hb with ⟨v, w, h1, h2, h3, rfl⟩ | ⟨p, q, h1, h2, h3, h4, rfl⟩
    · rw [toV_ok rx h1, toV_ok ry h2]
      exact .inl ⟨h3, hq⟩
    · exact .inr ⟨p, q, pyM_ok S rx h1, pyM_ok S ry h2, h3, h4, hq⟩
theorem ops_ne : OpS G (fun x y H Q => rNe x y H Q ∨ rNeD G.K x y H Q) (gEq true) := fun H ρ M x y dx dy d M' Q S rx ry e z => by
  unfold gEq at e
  cases hb : eqD dx dy M with
  | none => rw [hb] at e; cases e
  | some b =>
    rw [hb] at e; cases e
    have hq : Q (.bl (!b)) H := z ρ _ H .refl S (.bl _)
    rcases eqD_some hb with ⟨v, w, h1, h2, h3, rfl⟩ | ⟨p, q, h1, h2, h3, h4, rfl⟩
    · rw [toV_ok rx h1, toV_ok ry h2]
      exact .inl ⟨h3, hq⟩
    · exact .inr ⟨p, q, pyM_ok S rx h1, pyM_ok S ry h2, h3, h4, hq⟩
def isNon : D → Bool
  | .non => true
  | _ => false
theorem isNon_ok {H : Hp} {ρ : Rho} {d : D} {v : V} (r : RV G H ρ d v) : decide (v = .non) = isNon d := by
  cases r <;> simp [isNon]
def gIs (n : Bool) : G2 := fun x y M => match y with
  | .non => some (.bl (if n then !isNon x else isNon x), M)
  | _ => none
theorem ops_is : OpS G (fun x y H Q => y = .non ∧ Q (.bl (decide (x = .non))) H) (gIs false) := fun H ρ M x y dx dy d M' Q S rx ry e z => by
  cases ry with
  | non => cases e; exact ⟨rfl, by rw [isNon_ok rx]; exact z ρ _ H .refl S (.bl _)⟩
  | _ => cases e
theorem ops_isnot : OpS G (fun x y H Q => y = .non ∧ Q (.bl (!decide (x = .non))) H) (gIs true) := fun H ρ M x y dx dy d M' Q S rx ry e z => by
  cases ry with
  | non => cases e; exact ⟨rfl, by rw [isNon_ok rx]; exact z ρ _ H .refl S (.bl _)⟩
  | _ => cases e
def gIx : G2 := fun x y M => match y with
  | .int i => match x with
    | .tup l => (atI l i).map (·, M)
    | x => match asL x M with
      | some l => (atI l i).map (·, M)
      | none => none
  | _ => none
theorem RVs.atI {H : Hp} {ρ : Rho} {ds : List D} {vs : List V} {i : Int} {d : D} (r : RVs G H ρ ds vs) (h : L2.atI ds i = some d) : ∃ v, L2.atI vs i = some v ∧ RV G H ρ d v := by
  unfold L2.atI at h ⊢
  rw [r.length]
  cases e : ixN ds.length i with
  | none => rw [e] at h; cases h
  | some j =>
    rw [e] at h
    exact r.get h
theorem ops_ix : OpS G (rIx G.K) gIx := fun H ρ M x y dx dy d M' Q S rx ry e z => by
  cases ry with
  | int i =>
    unfold gIx at e
    simp only at e
    split at e
    · rename_i l
      cases rx with
      | tup hs rs =>
        cases e2 : L2.atI l i with
        | none => rw [e2] at e; cases e
        | some d0 =>
          rw [e2] at e; cases e
          obtain ⟨v, hv, rv⟩ := rs.atI e2
          exact .inr (.inl ⟨_, _, _, v, rfl, rfl, hs.1, hv, z ρ _ H .refl S rv⟩)
    · split at e
      · rename_i l hl
        obtain ⟨a, vs, rfl, ha, rs⟩ := asL_ok S rx hl
        cases e2 : L2.atI l i with
        | none => rw [e2] at e; cases e
        | some d0 =>
          rw [e2] at e; cases e
          obtain ⟨v, hv, rv⟩ := rs.atI e2
          exact .inl ⟨_, _, _, v, rfl, rfl, SqL.of ha, hv, z ρ _ H .refl S rv⟩
      · cases e
  | _ => cases e
def cutD {α : Type} (xs : List α) (lo hi : Option Int) : List α := (xs.drop (HT.sIx xs.length 0 lo)).take (HT.sIx xs.length xs.length hi - HT.sIx xs.length 0 lo)
theorem RVs.cutD {H : Hp} {ρ : Rho} {ds : List D} {vs : List V} (r : RVs G H ρ ds vs) (lo hi : Option Int) : RVs G H ρ (Ip.cutD ds lo hi) (cutV vs lo hi) := by
  unfold Ip.cutD cutV
  rw [r.length]
  exact (r.drop _).take _
def gSl (x : D) (lo hi : Option Int) (M : Sto) : Option (D × Sto) := match x with
  | .tup l => some (.tup (cutD l lo hi), M)
  | .scr ns => some (.lst (cutD (ns.map D.int) lo hi), M)
  | x => match asL x M with
    | some l => some (.lst (cutD l lo hi), M)
    | none => none
abbrev rSlAll (K : PySem.W.Frag) : V → Option Int → Option Int → Hp → VK → Prop := fun x lo hi H Q => rSlL K x lo hi H Q ∨ rSlA K x lo hi H Q
theorem sl_all : SlR X (rSlAll X.K) := sl_list.or sl_tupA
def DO := En → Sto → Out (Option Int)
def dO (G : Gx) (W : WX) (f : DO) : TO := fun σ H Q => ∃ ρ env M, RE G H ρ env σ ∧ RS G H ρ M ∧ (f env M).post (fun o M' => ∀ ρ' H', Ext G H ρ H' ρ' → RS G H' ρ' M' → Q o H') (eP G W H ρ)
def SO (X : Cx) (cl : Str → Option Addr) (W : WX) (e : Option Expr) (f : DO) : Prop := PO X e (dO (gx X cl) W f)
def dNoPart : DO := fun _ M => .ok none M
def dPart (fe : DE) : DO := fun env M => (fe env M).bind fun x M1 => match x with
  | .int i => .ok (some i) M1
  | _ => .bad
theorem so_none : SO X cl W none dNoPart := POweak po_none fun σ H Q ⟨ρ, env, M, hE, hS, h⟩ => h ρ H .refl hS
theorem so_some {e : Expr} {fe : DE} (he : SE X cl W e fe) : SO X cl W (some e) (dPart fe) := POweak (po_some he) fun σ H Q ⟨ρ, env, M, hE, hS, h⟩ => by
  refine ⟨ρ, env, M, hE, hS, (post_bind h).imp (fun x M1 hx ρ1 v H1 e1 S1 r1 => ?_) (fun _ _ _ z => z)⟩
  cases r1 with
  | int i => exact ⟨i, rfl, hx ρ1 H1 e1 S1⟩
  | _ => exact hx.elim
def dSl (fe : DE) (fl fh : DO) : DE := fun env M => (fe env M).bind fun x M1 => (fl env M1).bind fun lo M2 => (fh env M2).bind fun hi M3 => liftM (gSl x lo hi M3)
theorem cut_whole {α : Type} {l : List α} {lo hi : Option Int} (h : HT.sIx l.length 0 lo = 0 ∧ HT.sIx l.length l.length hi = l.length) : cutD l lo hi = l := by
  unfold cutD
  rw [h.1, h.2]
  simp
theorem gSl_ok {H : Hp} {ρ : Rho} {M M' : Sto} {x d : D} {v : V} {lo hi : Option Int} {Q : VK} (S : RS G H ρ M) (r : RV G H ρ x v) (e : gSl x lo hi M = some (d, M')) (h : oP G H ρ Q d M') : rSlAll G.K v lo hi H Q := by
  unfold gSl at e
  split at e
  · cases r with
    | tup hs rs =>
      cases e
      refine .inr ⟨_, _, rfl, hs.1, fun w => ?_, fun _ p hp => h.new S hp (RV.newT S hp (rs.cutD lo hi))⟩
      rw [rs.length] at w
      rw [cut_whole w] at h
      exact h ρ _ H .refl S (.tup hs rs)
  · cases r with
    | scr hs =>
      rename_i ns a
      cases e
      have hl : SqL G.K H a (ns.map V.int) := by
        rcases hs with ⟨h, _⟩ | h
        · exact .inl h
        · exact h H
      exact .inl ⟨_, _, rfl, hl, fun p hp => h.new S hp (RV.newL S hp ((RVs.ints ns).cutD lo hi))⟩
  · split at e
    · rename_i l hl
      cases e
      obtain ⟨a, vs, rfl, ha, rs⟩ := asL_ok S r hl
      exact .inl ⟨_, _, rfl, SqL.of ha, fun p hp => h.new S hp (RV.newL S hp (rs.cutD lo hi))⟩
    · cases e
theorem se_slice {e : Expr} {lo hi : Option Expr} {fe : DE} {fl fh : DO} {p2 pos : Pos} (he : SE X cl W e fe) (hl : SO X cl W lo fl) (hh : SO X cl W hi fh) : SE X cl W (.Subscript e (.Slice lo hi none p2) pos) (dSl fe fl fh) :=
  PEweak (pe_slice sl_all he hl hh) fun σ H Q ⟨ρ, env, M, hE, hS, h⟩ => by
    refine ⟨ρ, env, M, hE, hS, (post_bind h).imp (fun x M1 hx ρ1 v H1 e1 S1 r1 => ?_) (fun _ _ _ z => z)⟩
    refine ⟨ρ1, env, M1, hE.mono e1, S1, (post_bind hx).imp (fun o M2 hy ρ2 H2 e2 S2 => ?_) (fun _ _ _ z => eP.sh e1 z)⟩
    refine ⟨ρ2, env, M2, hE.mono (e1.trans e2), S2, (post_bind hy).imp (fun o2 M3 hz ρ3 H3 e3 S3 => ?_) (fun _ _ _ z => eP.sh (e1.trans e2) z)⟩
    obtain ⟨d, M', eq, q⟩ := lift_some hz
    exact gSl_ok (G := gx X cl) S3 (r1.mono (e2.trans e3)) eq (oP.sh (e1.trans (e2.trans e3)) q)
end
end Ip
end
section
set_option Elab.async false
set_option linter.all false
set_option maxRecDepth 100000
set_option maxHeartbeats 4000000
set_option autoImplicit false
namespace Ip
open PySem PyProof.Rows L2
section
variable {X : Cx} {cl : Str → Option Addr} {W : WX} {G : Gx}
abbrev GM := D → List D → Sto → Option (D × Sto)
def MtS (G : Gx) (r : V → List V → Hp → VK → Prop) (g : GM) : Prop := ∀ (H : Hp) (ρ : Rho) (M : Sto) (x : V) (dx : D) (vs : List V) (ds : List D) (d : D) (M' : Sto) (Q : VK), RS G H ρ M → RV G H ρ dx x → RVs G H ρ ds vs → g dx ds M = some (d, M') → oP G H ρ Q d M' → r x vs H Q
def dLm (g : GM) (fo : DE) (fa : DA) : DE := fun env M => (fo env M).bind fun x M1 => match asL x M1 with
  | some _ => (fa env M1).bind fun as M2 => liftM (g x as M2)
  | none => .bad
theorem lm_ok {r : V → List V → Hp → VK → Prop} {g : GM} (hg : MtS G r g) {fo : DE} {fa : DA} {σ : L2.St} {H : Hp} {Q : VK} (h : dE G W (dLm g fo fa) σ H Q) : tBM G.K "list" r (dE G W fo) (dA G W fa) σ H Q := by
  obtain ⟨ρ, env, M, hE, hS, h⟩ := h
  refine ⟨ρ, env, M, hE, hS, (post_bind h).imp (fun x M1 hx ρ1 v H1 e1 S1 r1 => ?_) (fun _ _ _ z => z)⟩
  split at hx
  · rename_i l hl
    obtain ⟨a, vs, rfl, ha, rs⟩ := asL_ok S1 r1 hl
    refine ⟨.inl ⟨rfl, _, SqL.of ha⟩, ρ1, env, M1, hE.mono e1, S1, (post_bind hx).imp (fun as M2 hy ρ2 ws H2 e2 S2 r2 => ?_) (fun _ _ _ z => eP.sh e1 z)⟩
    obtain ⟨d, M', e, q⟩ := lift_some hy
    exact hg H2 ρ2 M2 _ x ws as d M' Q S2 (r1.mono e2) r2 e (oP.sh (e1.trans e2) q)
  · exact hx.elim
theorem se_lm {name : Str} {id : String} {r : V → List V → Hp → VK → Prop} {g : GM} {o e : Expr} {es : List Expr} {fo : DE} {fa : DA} {apos cpos : Pos} (slot : Slot "list" name id) (hty : typeOf (.builtin id) = pure (.type "method_descriptor")) (hm : MtR X id r) (hg : MtS (gx X cl) r g) (ho : SE X cl W o fo) (ha : SA X cl W (e :: es) fa)
    (hbase : attributeBase o name X.env (eval o X.env) = eval o X.env := by rfl)
    (hfew : ((backTo cpos (starEach (e :: es) X.env)).all (fun x => !x.1) && (backToKw cpos (keywordEach [] X.env)).all (fun x => x.1.isSome)
      && decide ((e :: es).length + ([] : List Keyword).length + (if ([] : List Keyword).isEmpty then 0 else 1) < 30)) = true := by rfl)
    (hline : (apos.endLine == cpos.line) = true := by rfl) (hs : starEach (e :: es) X.env = (false, eval e X.env) :: starEach es X.env := by rfl) (hplain : (backTo cpos (starEach es X.env)).any (·.1) = false := by rfl) :
    SE X cl W (.Call (.Attribute o name apos) (e :: es) [] cpos) (dLm g fo fa) :=
  PEweak (pe_bm PySem.F.plainAttrs_list slot hty hm ho ha hbase hfew hline hs hplain) fun σ H Q h => lm_ok (G := gx X cl) hg h
theorem se_lm0 {name : Str} {id : String} {r : V → List V → Hp → VK → Prop} {g : GM} {o : Expr} {fo : DE} {apos cpos : Pos} (slot : Slot "list" name id) (hty : typeOf (.builtin id) = pure (.type "method_descriptor")) (hm : MtR X id r) (hg : MtS (gx X cl) r g) (ho : SE X cl W o fo)
    (hbase : attributeBase o name X.env (eval o X.env) = eval o X.env := by rfl) (hline : (apos.endLine == cpos.line) = true := by rfl) :
    SE X cl W (.Call (.Attribute o name apos) [] [] cpos) (dLm g fo dNilA) :=
  PEweak (pe_bm0 PySem.F.plainAttrs_list slot hty hm ho hbase hline) fun σ H Q h => by
    obtain ⟨ρ, env, M, hE, hS, q⟩ := lm_ok (G := gx X cl) hg h
    refine ⟨ρ, env, M, hE, hS, q.imp (fun x M1 hx ρ1 v H1 e1 S1 r1 => ?_) (fun _ _ _ z => z)⟩
    obtain ⟨t, ρ2, env2, M2, E2, S2, z⟩ := hx ρ1 v H1 e1 S1 r1
    exact ⟨t, z ρ2 [] H1 .refl S2 .nil⟩
def setL (x : D) (M : Sto) (k : List D → Option (List D)) : Option Sto := match x with
  | .ref n => match M[n]? with
    | some (.lst l) => (k l).map fun l' => M.set n (.lst l')
    | _ => none
  | _ => none
theorem setL_ok {H : Hp} {ρ : Rho} {M M' : Sto} {x : D} {v : V} {k : List D → Option (List D)} (S : RS G H ρ M) (r : RV G H ρ x v) (h : setL x M k = some M') :
    ∃ a l l' vs, v = .ref a ∧ H a = some (.lst vs) ∧ RVs G H ρ l vs ∧ k l = some l' ∧ ∀ vs', RVs G H ρ l' vs' → Ext G H ρ (upd H a (.lst vs')) ρ ∧ RS G (upd H a (.lst vs')) ρ M' := by
  cases r with
  | ref hn =>
    rename_i n a
    have h' : (match M[n]? with
      | some (.lst l) => (k l).map fun l' => M.set n (.lst l')
      | _ => none) = some M' := h
    split at h'
    · rename_i l hm
      cases e : k l with
      | none => rw [e] at h'; cases h'
      | some l' =>
        rw [e] at h'; cases h'
        obtain ⟨b, hb, vs, e0, rs⟩ := S.at_ _ _ hm
        rw [hn] at hb; cases hb
        exact ⟨a, l, l', vs, rfl, e0, rs, e, fun vs' r' => ⟨Ext.write S hn, S.write hn ⟨vs', upd_same, r'.mono (Ext.write S hn)⟩⟩⟩
    · cases h'
  | _ => cases h
def gApp : GM := fun x as M => match as with
  | [y] => (setL x M fun l => if l.length < 16777216 then some (l ++ [y]) else none).map (D.non, ·)
  | _ => none
theorem mts_app : MtS G rAppend gApp := fun H ρ M x dx vs ds d M' Q S rx rs e h => by
  unfold gApp at e
  split at e
  · rename_i y
    cases rs with
    | cons q1 q2 =>
      cases q2
      cases e2 : setL dx M fun l => if l.length < 16777216 then some (l ++ [y]) else none with
      | none => rw [e2] at e; cases e
      | some M2 =>
        rw [e2] at e; cases e
        obtain ⟨a, l, l', ws, rfl, ha, rl, ek, up⟩ := setL_ok S rx e2
        split at ek
        · rename_i hl
          cases ek
          obtain ⟨x1, s1⟩ := up _ (rl.append (.one q1))
          exact ⟨a, ws, _, rfl, rfl, ha, by rw [rl.length, sizeLine_eq]; exact hl, h ρ _ _ x1 s1 .non⟩
        · cases ek
  · cases e
def gClear : GM := fun x as M => match as with
  | [] => (setL x M fun _ => some []).map (D.non, ·)
  | _ => none
theorem se_append {o e : Expr} {fo fe : DE} {apos cpos : Pos} (ho : SE X cl W o fo) (ha : SE X cl W e fe) (hst : starEach [e] X.env = (false, eval e X.env) :: starEach [] X.env := by rfl)
    (hbase : attributeBase o "append" X.env (eval o X.env) = eval o X.env := by rfl)
    (hfew : ((backTo cpos (starEach [e] X.env)).all (fun x => !x.1) && (backToKw cpos (keywordEach [] X.env)).all (fun x => x.1.isSome)
      && decide ([e].length + ([] : List Keyword).length + (if ([] : List Keyword).isEmpty then 0 else 1) < 30)) = true := by rfl)
    (hline : (apos.endLine == cpos.line) = true := by rfl) (hplain : (backTo cpos (starEach [] X.env)).any (·.1) = false := by rfl) : SE X cl W (.Call (.Attribute o "append" apos) [e] [] cpos) (dLm gApp fo (dConsA fe dNilA)) :=
  se_lm PySem.F.slot_list_append PySem.F.type_list_append mt_append mts_app ho (sa_cons ha sa_nil hst) hbase hfew hline hst hplain
/-- o[i] = e over a cell -/
def dSetIx (fo fi fe : DE) : DS := fun env M => (fe env M).bind fun y M1 => (fo env M1).bind fun x M2 => (fi env M2).bind fun i M3 => match i with
  | .int k => match setL x M3 fun l => (ixN l.length k).map fun j => l.set j y with
    | some M4 => .ok (.nx env) M4
    | none => .bad
  | _ => .bad
theorem ss_setIx {o i e : Expr} {fo fi fe : DE} {pos pos' : Pos} (ho : SE X cl W o fo) (hi : SE X cl W i fi) (he : SE X cl W e fe)
    (hg : PG X (.Subscript o i pos') (gSub (dE (gx X cl) W fo) (dE (gx X cl) W fi) rSetL))
    (hs : swapsWithSole [.Subscript o i pos'] e pos.line X.env = pure false := by rfl) (hw : swappedStores [.Subscript o i pos'] e X.env = pure none := by rfl)
    (h1 : (assignEach [.Subscript o i pos'] X.env).map (·.2) = [assign (.Subscript o i pos') X.env] := by rfl) : SS X cl W (.Assign [.Subscript o i pos'] e pos) (dSetIx fo fi fe) :=
  PSweak (ps_asg he hg hs hw h1) fun D σ H ⟨ρ, env, M, hE, hS, h⟩ => by
    refine ⟨ρ, env, M, hE, hS, (post_bind h).imp (fun y M1 hy ρ1 v H1 e1 S1 r1 => ?_) (fun _ _ _ z => z)⟩
    refine ⟨ρ1, env, M1, hE.mono e1, S1, (post_bind hy).imp (fun x M2 hx ρ2 w H2 e2 S2 r2 => ?_) (fun _ _ _ z => eP.sh e1 z)⟩
    refine ⟨ρ2, env, M2, hE.mono (e1.trans e2), S2, (post_bind hx).imp (fun ii M3 hz ρ3 u H3 e3 S3 r3 => ?_) (fun _ _ _ z => eP.sh (e1.trans e2) z)⟩
    cases r3 with
    | int k =>
      have hz' : (match setL x M3 fun l => (ixN l.length k).map fun j => l.set j y with
        | some M4 => Out.ok (Fl.nx env) M4
        | none => .bad).post (sP (gx X cl) H ρ D) (eP (gx X cl) W H ρ) := hz
      split at hz'
      · rename_i M4 hm4
        obtain ⟨a, l, l', ws, rfl, ha, rl, ek, up⟩ := setL_ok S3 (r2.mono e3) hm4
        cases ej : ixN l.length k with
        | none => rw [ej] at ek; cases ek
        | some j =>
          rw [ej] at ek; cases ek
          obtain ⟨x1, s1⟩ := up _ (rl.set (r1.mono (e2.trans e3)) j)
          exact ⟨a, ws, k, j, rfl, rfl, ha, by rw [rl.length]; exact ej, hz' ρ3 σ _ (e1.trans (e2.trans (e3.trans x1))) s1 (hE.mono (e1.trans (e2.trans (e3.trans x1))))⟩
      · exact hz'.elim
    | _ => exact hz.elim
abbrev GC := List D → Sto → Option (D × Sto)
def gLen : GC := fun as M => match as with
  | [.tup l] => some (.int (l.length : Nat), M)
  | [x] => match asL x M with
    | some l => some (.int (l.length : Nat), M)
    | none => none
  | _ => none
theorem cs_len : CallS G (fun xs H Q => ∃ p ys, xs = [.ref p] ∧ (SqL G.K H p ys ∨ SqT G.K H p ys) ∧ Q (.int ys.length) H) gLen := fun H ρ M xs ds d M' Q S rs e h => by
  unfold gLen at e
  split at e
  · rename_i l
    cases e
    cases rs with
    | cons q1 q2 =>
      cases q2
      cases q1 with
      | tup hs rs => exact ⟨_, _, rfl, .inr hs.1, by rw [rs.length]; exact h ρ _ H .refl S (.int _)⟩
  · split at e
    · rename_i x _ l hl
      cases e
      cases rs with
      | cons q1 q2 =>
        cases q2
        obtain ⟨a, vs, rfl, ha, rl⟩ := asL_ok S q1 hl
        exact ⟨_, _, rfl, .inl (SqL.of ha), by rw [rl.length]; exact h ρ _ H .refl S (.int _)⟩
    · cases e
  · cases e
def seqOf (x : D) (M : Sto) : Option (List D) := match x with
  | .tup l => some l
  | x => asL x M
theorem seqOf_ok {H : Hp} {ρ : Rho} {M : Sto} {x : D} {v : V} {l : List D} (S : RS G H ρ M) (r : RV G H ρ x v) (h : seqOf x M = some l) : ∃ a vs, v = .ref a ∧ (SqL G.K H a vs ∨ SqT G.K H a vs) ∧ RVs G H ρ l vs := by
  unfold seqOf at h
  split at h
  · cases h
    cases r with
    | tup hs rs => exact ⟨_, _, rfl, .inr hs.1, rs⟩
  · obtain ⟨a, vs, e, ha, rl⟩ := asL_ok S r h
    exact ⟨a, vs, e, .inl (SqL.of ha), rl⟩
def gList : GC := fun as M => match as with
  | [x] => (seqOf x M).map fun l => (.lst l, M)
  | _ => none
def gListC : GC := fun as M => match as with
  | [x] => (seqOf x M).map fun l => (.ref M.length, M ++ [.lst l])
  | _ => none
theorem cs_list : CallS G (fun xs H Q => ∃ p ys, xs = [.ref p] ∧ (SqL G.K H p ys ∨ SqT G.K H p ys) ∧ ∀ l, H l = none → Q (.ref l) (upd H l (.lst ys))) gList := fun H ρ M xs ds d M' Q S rs e h => by
  unfold gList at e
  split at e
  · rename_i x
    cases e2 : seqOf x M with
    | none => rw [e2] at e; cases e
    | some l =>
      rw [e2] at e; cases e
      cases rs with
      | cons q1 q2 =>
        cases q2
        obtain ⟨a, vs, rfl, ha, rl⟩ := seqOf_ok S q1 e2
        exact ⟨_, _, rfl, ha, fun p hp => h.new S hp (RV.newL S hp rl)⟩
  · cases e
theorem cs_listC : CallS G (fun xs H Q => ∃ p ys, xs = [.ref p] ∧ (SqL G.K H p ys ∨ SqT G.K H p ys) ∧ ∀ l, H l = none → Q (.ref l) (upd H l (.lst ys))) gListC := fun H ρ M xs ds d M' Q S rs e h => by
  unfold gListC at e
  split at e
  · rename_i x
    cases e2 : seqOf x M with
    | none => rw [e2] at e; cases e
    | some l =>
      rw [e2] at e; cases e
      cases rs with
      | cons q1 q2 =>
        cases q2
        obtain ⟨a, vs, rfl, ha, rl⟩ := seqOf_ok S q1 e2
        exact ⟨_, _, rfl, ha, fun p hp => h _ _ _ (Ext.cell S hp) (S.newLst hp rl) (.ref S.at_new)⟩
  · cases e
def gTuple : GC := fun as M => match as with
  | [.tup l] => some (.tup l, M)
  | [x] => (asL x M).map fun l => (.tup l, M)
  | _ => none
theorem cs_tuple : CallS G (fun xs H Q => ∃ p ys, xs = [.ref p] ∧ ((SqL G.K H p ys ∧ ∀ l, H l = none → Q (.ref l) (upd H l (.tup ys))) ∨ (SqT G.K H p ys ∧ Q (.ref p) H))) gTuple := fun H ρ M xs ds d M' Q S rs e h => by
  unfold gTuple at e
  split at e
  · cases e
    cases rs with
    | cons q1 q2 =>
      cases q2
      cases q1 with
      | tup hs rs => exact ⟨_, _, rfl, .inr ⟨hs.1, h ρ _ H .refl S (.tup hs rs)⟩⟩
  · rename_i x _
    cases e2 : asL x M with
    | none => rw [e2] at e; cases e
    | some l =>
      rw [e2] at e; cases e
      cases rs with
      | cons q1 q2 =>
        cases q2
        obtain ⟨a, vs, rfl, ha, rl⟩ := asL_ok S q1 e2
        exact ⟨_, _, rfl, .inl ⟨SqL.of ha, fun p hp => h.new S hp (RV.newT S hp rl)⟩⟩
  · cases e
def bls : List D → Option (List Bool)
  | [] => some []
  | .bl b :: ds => (bls ds).map (b :: ·)
  | _ :: _ => none
theorem bls_ok {H : Hp} {ρ : Rho} : ∀ {ds : List D} {vs : List V} {bs : List Bool}, RVs G H ρ ds vs → bls ds = some bs → vs = bs.map V.bl
  | _, _, _, .nil, h => by cases h; rfl
  | _, _, _, .cons (d := d) (ds := ds) r rs, h => by
    cases r with
    | bl b =>
      unfold bls at h
      cases e : bls ds with
      | none => rw [e] at h; cases h
      | some bs => rw [e] at h; cases h; rw [bls_ok rs e]; rfl
    | _ => cases h
def gAll : GC := fun as M => match as with
  | [.lst l] => (bls l).map fun bs => (.bl (bs.all id), M)
  | _ => none
theorem cs_all : CallS G (rAll G.K) gAll := fun H ρ M xs ds d M' Q S rs e h => by
  unfold gAll at e
  split at e
  · rename_i l
    cases e2 : bls l with
    | none => rw [e2] at e; cases e
    | some bs =>
      rw [e2] at e; cases e
      cases rs with
      | cons q1 q2 =>
        cases q2
        cases q1 with
        | lst hs hn rl => exact ⟨_, bs, rfl, by rw [← bls_ok rl e2]; exact SqL.of hs, h ρ _ H .refl S (.bl _)⟩
  · cases e
def gStrI : GC := fun as M => match as with
  | [.int i] => if i.natAbs.log2 < 1920 then some (.str (toString i), M) else none
  | _ => none
theorem cs_str : CallS G (fun xs H Q => ∃ i : Int, xs = [.int i] ∧ i.natAbs.log2 < 1920 ∧ Q (.str (toString i)) H) gStrI := fun H ρ M xs ds d M' Q S rs e h => by
  unfold gStrI at e
  split at e
  · split at e
    · rename_i hl
      cases e
      cases rs with
      | cons q1 q2 => cases q1; cases q2; exact ⟨_, rfl, hl, h ρ _ H .refl S (.str _)⟩
    · cases e
  · cases e
def tyD (x : D) (M : Sto) : Option String := match x with
  | .non => some "NoneType"
  | .bl _ => some "bool"
  | .int _ => some "int"
  | .str _ => some "str"
  | .tup _ => some "tuple"
  | .lst _ => some "list"
  | .ref n => match M[n]? with
    | some (.lst _) => some "list"
    | _ => none
  | _ => none
theorem tyD_ok {H : Hp} {ρ : Rho} {M : Sto} {x : D} {v : V} {t : String} (S : RS G H ρ M) (r : RV G H ρ x v) (h : tyD x M = some t) : TyX G.K H v (.type t) := by
  cases r with
  | non => cases h; exact .base .non
  | bl b => cases h; exact .base (.bl b)
  | int i => cases h; exact .base (.int i)
  | str s => cases h; exact .base (.str s)
  | ty s => cases h
  | scr s => cases h
  | obj => cases h
  | cls => cases h
  | dK => cases h
  | dT => cases h
  | tup hs rs =>
    cases h
    rcases hs.1 with (h | ⟨o, h⟩) | ⟨o, its, n, k, c, _⟩
    · exact .base (.tup h)
    · exact .fTuple h
    · exact .kTuple k c
  | lst hs hn rs => cases h; exact .base (.lst hs)
  | ref hn =>
    rename_i n a
    have h' : (match M[n]? with
      | some (.lst _) => some "list"
      | _ => none) = some t := h
    split at h'
    · rename_i l hm
      cases h'
      obtain ⟨b, hb, vs, e0, rs⟩ := S.at_ _ _ hm
      rw [hn] at hb; cases hb
      exact .base (.lst e0)
    · cases h'
/-- t is a T (the six plain types) -/
def isA (t T : String) : Option Bool := kitB t T
def gIsi (T : String) : D → Sto → Option (D × Sto) := fun x M => match tyD x M with
  | some t => (isA t T).map fun b => (.bl b, M)
  | none => none
def dIsi (T : String) (fe : DE) : DE := dUn (gIsi T) fe
theorem boot_ty_rel {n : String} : RelV (.ty n) (.type n) := rfl
theorem se_isi {T : String} {x : Str} {e : Expr} {fe : DE} {p p2 pos : Pos} (hg : Gl X "isinstance") (hm : X.mg "isinstance" = none) (hgT : Gl X x) (hmT : X.mg x = none) (hvT : bootBuiltins x = some (.type T)) (he : SE X cl W e fe)
    (hnT : x ≠ "__name__" := by decide) (hdT : (x == ("__debug__" : Str)) = false := by decide)
    (h1 : starEach [e, .Name x p2] X.env = (false, eval e X.env) :: starEach [.Name x p2] X.env := by rfl) (h2 : starEach [.Name x p2] X.env = (false, eval (.Name x p2) X.env) :: starEach [] X.env := by rfl) (hpl : (backTo pos (starEach [.Name x p2] X.env)).any (·.1) = false := by rfl) :
    SE X cl W (.Call (.Name "isinstance" p) [e, .Name x p2] [] pos) (dIsi T fe) :=
  PEweak (pe_callB call_isi hg hm (by decide +kernel) (pa_cons he (pa_cons (pe_bltn hgT hmT hvT boot_ty_rel hnT hdT) pa_nil h2) h1) (by decide) (by decide) h1 hpl) fun σ H Q ⟨ρ, env, M, hE, hS, h⟩ => by
    refine ⟨ρ, env, M, hE, hS, (post_bind h).imp (fun y M1 hx ρ1 v H1 e1 S1 r1 => ?_) (fun _ _ _ z => z)⟩
    obtain ⟨d, M', eq, q⟩ := lift_some hx
    unfold gIsi at eq
    split at eq
    · rename_i t ht
      cases hb : isA t T with
      | none => rw [hb] at eq; cases eq
      | some b =>
        rw [hb] at eq; cases eq
        exact ⟨v, .ty T, .type t, .type T, b, rfl, .ty T, tyD_ok (G := gx X cl) S1 r1 ht, kit_ty hb, q ρ1 _ H1 e1 S1 (.bl _)⟩
    · cases eq
def gIsi2 (T U : String) : D → Sto → Option (D × Sto) := fun x M => match tyD x M with
  | some t => match isA t T, isA t U with
    | some b, some c => some (.bl (b || c), M)
    | _, _ => none
  | none => none
theorem se_isi2 {T U : String} {x y : Str} {e : Expr} {fe : DE} {kk : Nat} {p p2 p3 p4 pos : Pos} (hg : Gl X "isinstance") (hm : X.mg "isinstance" = none) (hgT : Gl X x) (hmT : X.mg x = none) (hvT : bootBuiltins x = some (.type T)) (hgU : Gl X y) (hmU : X.mg y = none) (hvU : bootBuiltins y = some (.type U)) (he : SE X cl W e fe)
    (hnT : x ≠ "__name__" := by decide) (hdT : (x == ("__debug__" : Str)) = false := by decide) (hnU : y ≠ "__name__" := by decide) (hdU : (y == ("__debug__" : Str)) = false := by decide)
    (h1 : starEach [e, .Tuple [.Name x p2, .Name y p3] kk p4] X.env = (false, eval e X.env) :: starEach [.Tuple [.Name x p2, .Name y p3] kk p4] X.env := by rfl)
    (h2 : starEach [.Tuple [.Name x p2, .Name y p3] kk p4] X.env = (false, eval (.Tuple [.Name x p2, .Name y p3] kk p4) X.env) :: starEach [] X.env := by rfl) (hpl : (backTo pos (starEach [.Tuple [.Name x p2, .Name y p3] kk p4] X.env)).any (·.1) = false := by rfl)
    (h3 : starEach [.Name x p2, .Name y p3] X.env = (false, eval (.Name x p2) X.env) :: starEach [.Name y p3] X.env := by rfl) (h4 : starEach [.Name y p3] X.env = (false, eval (.Name y p3) X.env) :: starEach [] X.env := by rfl) :
    SE X cl W (.Call (.Name "isinstance" p) [e, .Tuple [.Name x p2, .Name y p3] kk p4] [] pos) (dUn (gIsi2 T U) fe) :=
  PEweak (pe_callB call_isiT hg hm (by decide +kernel) (pa_cons he (pa_cons (pe_tup (pa_cons (pe_bltn hgT hmT hvT boot_ty_rel hnT hdT) (pa_cons (pe_bltn hgU hmU hvU boot_ty_rel hnU hdU) pa_nil h4) h3)) pa_nil h2) h1) (by decide) (by decide) h1 hpl) fun σ H Q ⟨ρ, env, M, hE, hS, h⟩ => by
    refine ⟨ρ, env, M, hE, hS, (post_bind h).imp (fun y M1 hx ρ1 v H1 e1 S1 r1 => ?_) (fun _ _ _ z => z)⟩
    obtain ⟨d, M', eq, q⟩ := lift_some hx
    unfold gIsi2 at eq
    split at eq
    · rename_i t ht
      split at eq
      · rename_i b c hb hc
        cases eq
        refine ⟨by show 2 ≤ sizeLine; decide, fun tp htp => ⟨v, tp, [.ty T, .ty U], .type t, [.type T, .type U], b || c, rfl, upd_same, .cons (.ty T) (.cons (.ty U) .nil), tyD_ok (G := gx X cl) (S1.new htp) (r1.mono (Ext.new S1 htp)) ht, ?_, q ρ1 _ _ (e1.trans (Ext.new S1 htp)) (S1.new htp) (.bl _)⟩⟩
        refine kitAny_cons (kit_ty hb) (fun z => ?_) (fun z => by rw [z]; rfl)
        refine kitAny_cons (kit_ty hc) (fun z2 => ?_) (fun z2 => by rw [z2]; simp)
        rw [z, z2]
        exact kitAny_nil
      · cases eq
    · cases eq
end
end Ip
end
section
set_option Elab.async false
set_option linter.all false
set_option maxRecDepth 100000
set_option maxHeartbeats 4000000
set_option autoImplicit false
namespace Ip
open PySem PyProof.Rows L2
section
variable {X : Cx} {cl : Str → Option Addr} {W : WX} {a b c e o : Expr} {es : List Expr} {fa fb fc fe fo : DE} {pos p p2 : Pos}
theorem se_v (i : Nat) {x : Str} (hN : X.N[i]? = some x := by rfl) (hv : Vis X.env.scope x := by first | exact Or.inl rfl | exact Or.inr (Or.inl rfl) | exact Or.inr (Or.inr rfl)) (hd : (x == ("__debug__" : Str)) = false := by decide)
    (hcd : (x == ("__classdict__" : Str)) = false := by decide) : SE X cl W (.Name x pos) (dVar i) := se_var hN hv hd hcd
theorem se_at (ha : SE X cl W a fa) (hb : SE X cl W b fb) (hs : PlainIx b := by exact fun _ _ => rfl) : SE X cl W (.Subscript a b pos) (dBin gIx fa fb) := se_ix ix_seq ops_ix ha hb hs
theorem se_add (ha : SE X cl W a fa) (hb : SE X cl W b fb) : SE X cl W (.BinOp a .Add b pos) (dBin gAdd fa fb) := se_bin op_addA ops_addA ha hb
theorem se_addC (ha : SE X cl W a fa) (hb : SE X cl W b fb) : SE X cl W (.BinOp a .Add b pos) (dBin gCatC fa fb) := se_bin op_cat ops_catC ha hb
abbrev gSub : G2 := gInt fun i j => i - j
theorem se_sub (ha : SE X cl W a fa) (hb : SE X cl W b fb) : SE X cl W (.BinOp a .Sub b pos) (dBin Ip.gSub fa fb) := se_bin op_sub ops_int ha hb
def in64 (i : Int) : Bool := decide (-(2 ^ 64) < i) && decide (i < 2 ^ 64)
def gMul : G2 := orG (gIntC (fun i j => in64 i || in64 j) fun i j => i * j) gRep
theorem in64_ok {i : Int} (h : in64 i = true) : -(2 ^ 64) < i ∧ i < 2 ^ 64 := by
  unfold in64 at h
  simp only [Bool.and_eq_true, decide_eq_true_eq] at h
  exact h
theorem se_mul (ha : SE X cl W a fa) (hb : SE X cl W b fb) : SE X cl W (.BinOp a .Mult b pos) (dBin gMul fa fb) :=
  se_bin (op_mul.or op_rep) ((ops_intC fun i j h => by
    rw [Bool.or_eq_true] at h
    exact h.elim (fun z => .inl (in64_ok z)) (fun z => .inr (in64_ok z))).or ops_rep) ha hb
def gMod : G2 := gIntC (fun _ j => decide (0 < j)) fun i j => i % j
theorem se_mod (ha : SE X cl W a fa) (hb : SE X cl W b fb) : SE X cl W (.BinOp a .Mod b pos) (dBin gMod fa fb) := se_bin op_mod (ops_intC fun i j h => by simpa using h) ha hb
def gPow : G2 := gIntC (fun i j => decide (0 ≤ j) && decide (j ≤ 1000000) && decide (i.natAbs < 2 ^ 64)) fun i j => i ^ j.toNat
theorem se_pow (ha : SE X cl W a fa) (hb : SE X cl W b fb) : SE X cl W (.BinOp a .Pow b pos) (dBin gPow fa fb) := se_bin op_pow (ops_intC fun i j h => by
  simp only [Bool.and_eq_true, decide_eq_true_eq] at h
  exact ⟨h.1.1, h.1.2, h.2⟩) ha hb
def gNeg : D → Sto → Option (D × Sto) := fun x M => match x with
  | .int i => some (.int (-i), M)
  | _ => none
theorem se_neg (ha : SE X cl W a fa) : SE X cl W (.UnaryOp .USub a pos) (dUn gNeg fa) := se_un un_neg (fun H ρ M x dx d M' Q S rx e h => by
  cases rx with
  | int i => cases e; exact ⟨i, rfl, h ρ _ H .refl S (.int _)⟩
  | _ => cases e) ha
abbrev gLt : G2 := gIntB fun i j => decide (i < j)
abbrev gLe : G2 := gIntB fun i j => decide (i ≤ j)
abbrev gGt : G2 := gIntB fun i j => decide (j < i)
abbrev gGe : G2 := gIntB fun i j => decide (j ≤ i)
theorem se_ge (ha : SE X cl W a fa) (hb : SE X cl W b fb) : SE X cl W (.Compare a [.GtE] [b] pos) (dBin gGe fa fb) := se_cmp op_ge ops_intB ha hb (nomark _)
theorem se_eq {k : Nat} (hr : Room k X.A) (ha : SE X cl W a fa) (hb : SE X cl W b fb) : SE X cl W (.Compare a [.Eq] [b] pos) (dBin (gEq false) fa fb) := se_cmp (op_eqA hr.units) ops_eq ha hb (nomark _)
theorem se_is (ha : SE X cl W a fa) (hb : SE X cl W b fb) : SE X cl W (.Compare a [.Is] [b] pos) (dBin (gIs false) fa fb) := se_cmp op_isN ops_is ha hb (nomark _)
theorem st_lt (ha : SE X cl W a fa) (hb : SE X cl W b fb) : ST X cl W (.Compare a [.Lt] [b] pos) (dB (dBin gLt fa fb)) := st_cmp op_lt ops_intB ha hb (nomark _)
theorem st_gt (ha : SE X cl W a fa) (hb : SE X cl W b fb) : ST X cl W (.Compare a [.Gt] [b] pos) (dB (dBin gGt fa fb)) := st_cmp op_gt ops_intB ha hb (nomark _)
theorem st_ge (ha : SE X cl W a fa) (hb : SE X cl W b fb) : ST X cl W (.Compare a [.GtE] [b] pos) (dB (dBin gGe fa fb)) := st_cmp op_ge ops_intB ha hb (nomark _)
theorem st_eq {k : Nat} (hr : Room k X.A) (ha : SE X cl W a fa) (hb : SE X cl W b fb) : ST X cl W (.Compare a [.Eq] [b] pos) (dB (dBin (gEq false) fa fb)) := st_cmp (op_eqA hr.units) ops_eq ha hb (nomark _)
theorem st_ne {k : Nat} (hr : Room k X.A) (ha : SE X cl W a fa) (hb : SE X cl W b fb) : ST X cl W (.Compare a [.NotEq] [b] pos) (dB (dBin (gEq true) fa fb)) := st_cmp (op_neA hr.units) ops_ne ha hb (nomark _)
theorem st_is (ha : SE X cl W a fa) (hb : SE X cl W b fb) : ST X cl W (.Compare a [.Is] [b] pos) (dB (dBin (gIs false) fa fb)) := st_cmp op_isN ops_is ha hb (nomark _)
theorem st_isnot (ha : SE X cl W a fa) (hb : SE X cl W b fb) : ST X cl W (.Compare a [.IsNot] [b] pos) (dB (dBin (gIs true) fa fb)) := st_cmp op_notN ops_isnot ha hb (nomark _)
theorem sg_v (i : Nat) {x : Str} (hN : X.N.Nodup) (hi : X.N[i]? = some x := by rfl) (hx : Loc X.env.scope x := by first | exact Or.inl rfl | exact Or.inr rfl) (hf : X.fn x = true ∨ X.env.scope.names.lookup x = some .local := by first | exact .inl rfl | exact .inr rfl | assumption) : SG X cl (.Name x pos) (tgName i) := sg_name hN hi hx hf
theorem ss_let (i : Nat) {x : Str} {pos' : Pos} (hN : X.N.Nodup) (he : SE X cl W e fe) (hi : X.N[i]? = some x := by rfl) (hx : Loc X.env.scope x := by first | exact Or.inl rfl | exact Or.inr rfl) (hs : swapsWith e (some (.Name x pos')) pos.line X.env = pure false := by rfl) (hf : X.fn x = true ∨ X.env.scope.names.lookup x = some .local := by first | exact .inl rfl | exact .inr rfl | assumption) :
    SS X cl W (.Assign [.Name x pos'] e pos) (dSet i fe) := ss_set hN hi hx he hs hf
end
end Ip
end
section
set_option Elab.async false
set_option linter.all false
set_option maxRecDepth 100000
set_option maxHeartbeats 4000000
set_option autoImplicit false
namespace Ip
open PySem PyProof.Rows L2
section
variable {X : Cx} {cl : Str → Option Addr} {W : WX} {G : Gx}
def dLenO (c : Str) (F : DF) (fe : DE) : DE := fun env M => (fe env M).bind fun x M1 => match objOf c x M1 with
  | some _ => (noex (F [x] M1)).bind fun d M2 => match d with
    | .int n => if 0 ≤ n ∧ n < 2 ^ 63 then .ok (.int n) M2 else .bad
    | _ => .bad
  | none => .bad
def dReprO (c : Str) (F : DF) (fe : DE) : DE := fun env M => (fe env M).bind fun x M1 => match objOf c x M1 with
  | some _ => (noex (F [x] M1)).bind fun d M2 => match d with
    | .str m => .ok (.str m) M2
    | _ => .bad
  | none => .bad
def dFmt (fe : DE) : DE := fun env M => (fe env M).bind fun x M1 => match x with
  | .str y => if y.length ≤ 16777216 then .ok (.str y) M1 else .bad
  | .int i => if i.natAbs.log2 < 1920 then .ok (.str (toString i)) M1 else .bad
  | _ => .bad
theorem se_fmt {e : Expr} {fe : DE} {pos : Pos} (he : SE X cl W e fe) : SE X cl W (.FormattedValue e (-1) none pos) (dFmt fe) :=
  PEweak (pe_fmt he) fun σ H Q ⟨ρ, env, M, hE, hS, h⟩ => by
    refine ⟨ρ, env, M, hE, hS, (post_bind h).imp (fun x M1 hx ρ1 v H1 e1 S1 r1 => ?_) (fun _ _ _ z => z)⟩
    cases r1 with
    | str y =>
      have hx' : (if y.length ≤ 16777216 then Out.ok (D.str y) M1 else .bad).post (oP (gx X cl) H ρ Q) (eP (gx X cl) W H ρ) := hx
      split at hx'
      · rename_i hl
        exact .inl ⟨y, rfl, line_of hl, hx' ρ1 _ H1 e1 S1 (.str y)⟩
      · exact hx'.elim
    | int i =>
      have hx' : (if i.natAbs.log2 < 1920 then Out.ok (D.str (toString i)) M1 else .bad).post (oP (gx X cl) H ρ Q) (eP (gx X cl) W H ρ) := hx
      split at hx'
      · rename_i hl
        exact .inr ⟨i, rfl, hl, hx' ρ1 _ H1 e1 S1 (.str _)⟩
      · exact hx'.elim
    | _ => exact hx.elim
def dJs : List DE → Str → DE
  | [], acc => fun _ M => .ok (.str acc) M
  | f :: fs, acc => fun env M => (f env M).bind fun x M1 => match x with
    | .str y => if (acc ++ y).length ≤ 16777216 then dJs fs (acc ++ y) env M1 else .bad
    | _ => .bad
inductive SJ (X : Cx) (cl : Str → Option Addr) (W : WX) : List Expr → List DE → Prop where
  | nil : SJ X cl W [] []
  | cons {e : Expr} {f : DE} {es : List Expr} {fs : List DE} (h : SE X cl W e f) (r : SJ X cl W es fs) : SJ X cl W (e :: es) (f :: fs)
theorem SJ.pj {es : List Expr} {fs : List DE} (h : SJ X cl W es fs) : PJ X es (fs.map (dE (gx X cl) W)) := by
  induction h with
  | nil => exact .nil
  | cons h r ih => exact .cons h ih
theorem dJs_ok : ∀ {fs : List DE} {acc : Str} {σ : L2.St} {H : Hp} {Q : Str → Hp → Prop}, dE G W (dJs fs acc) σ H (fun v H' => ∃ m, v = .str m ∧ Q m H') → tJs (fs.map (dE G W)) acc σ H Q
  | [], acc, σ, H, Q, ⟨ρ, env, M, hE, hS, h⟩ => by
    obtain ⟨m, e, q⟩ := h ρ (.str acc) H .refl hS (.str acc)
    cases e
    exact q
  | f :: fs, acc, σ, H, Q, ⟨ρ, env, M, hE, hS, h⟩ => by
    refine ⟨ρ, env, M, hE, hS, (post_bind h).imp (fun x M1 hx ρ1 v H1 e1 S1 r1 => ?_) (fun _ _ _ z => z)⟩
    cases r1 with
    | str y =>
      have hx' : (if (acc ++ y).length ≤ 16777216 then dJs fs (acc ++ y) env M1 else .bad).post (oP G H ρ (fun v H' => ∃ m, v = .str m ∧ Q m H')) (eP G W H ρ) := hx
      split at hx'
      · rename_i hl
        exact ⟨y, rfl, line_of hl, dJs_ok ⟨ρ1, env, M1, hE.mono e1, S1, hx'.imp (fun _ _ z => oP.sh e1 z) (fun _ _ _ z => eP.sh e1 z)⟩⟩
      · exact hx'.elim
    | _ => exact hx.elim
theorem dJs_str : ∀ {fs : List DE} {acc : Str} {env : En} {M : Sto} {H : Hp} {ρ : Rho} {Q : VK} {E : Exn → En → Sto → Prop}, (dJs fs acc env M).post (oP G H ρ Q) E → (dJs fs acc env M).post (oP G H ρ (fun v H' => ∃ m, v = .str m ∧ Q (.str m) H')) E
  | [], acc, env, M, H, ρ, Q, E, h => fun ρ1 v H1 e1 S1 r1 => by
    have z := h ρ1 v H1 e1 S1 r1
    cases r1
    exact ⟨_, rfl, z⟩
  | f :: fs, acc, env, M, H, ρ, Q, E, h => by
    have h' := post_bind h
    show (Out.bind (f env M) _).post _ _
    cases hf : f env M with
    | bad => rw [hf] at h'; exact h'
    | exc e ev M1 => rw [hf] at h'; exact h'
    | ok x M1 =>
      rw [hf] at h'
      show (match x with
        | .str y => if (acc ++ y).length ≤ 16777216 then dJs fs (acc ++ y) env M1 else .bad
        | _ => .bad).post _ _
      cases x with
      | str y =>
        have h2 : (if (acc ++ y).length ≤ 16777216 then dJs fs (acc ++ y) env M1 else .bad).post (oP G H ρ Q) E := h'
        show (if (acc ++ y).length ≤ 16777216 then dJs fs (acc ++ y) env M1 else .bad).post _ _
        split at h2
        · rename_i hl
          rw [if_pos hl]
          exact dJs_str h2
        · exact h2.elim
      | _ => exact h'.elim
theorem se_joined {v1 v2 : Expr} {rest : List Expr} {fs : List DE} {pos : Pos} (h : SJ X cl W (v1 :: v2 :: rest) fs) : SE X cl W (.JoinedStr (v1 :: v2 :: rest) pos) (dJs fs Str.empty) :=
  PEweak (pe_joined h.pj) fun σ H Q ⟨ρ, env, M, hE, hS, z⟩ => dJs_ok (G := gx X cl) (Q := fun m H' => Q (.str m) H') ⟨ρ, env, M, hE, hS, dJs_str z⟩
end
end Ip
end
section
set_option Elab.async false
set_option linter.all false
set_option maxRecDepth 100000
set_option maxHeartbeats 4000000
set_option autoImplicit false
namespace Ip
open PySem PyProof.Rows L2
open AutoSeq1 (wpAny_loadPart')
abbrev tupIt (t : Addr) : Obj := { cls := .type "tuple_iterator", data := .fields #[.ref t, .int 0 0] }
abbrev enumOb (i : Addr) : Obj := { cls := .type "enumerate", data := .fields #[.none, .bool false, .ref i, rawInt 0, .none, .none] }
theorem enum_newT (t : Addr) (its : Array Value) :
    Meets (Builtin.«enumerate.__new__» ⟨[.type "enumerate", .ref t], []⟩) (fun _ R s => s.heap.IsTuple t its ∧
      R (.ok (.ret (.ref (s.heap.push (tupIt t)).objs.size))) { s with heap := (s.heap.push (tupIt t)).push (enumOb s.heap.objs.size) }) :=
  .of_wp fun prog w A R s hh => by
    obtain ⟨hp, g, dr, tk, os⟩ := s
    obtain ⟨ht, fin⟩ := hh
    have sb := sub_enumerate
    have hT : Heap.IsTuple (Shared.heap ⟨hp, g, dr, tk, os⟩) t its := ht
    obtain ⟨o, ho, hc, hd⟩ := id ht
    wp_walk using wpAny_loadPart' ho
    refine wpAny_stack_any fun stk => wpAny_pure ?_
    split
    · rename_i c _ _ _ _ _
      cases (c == Value.type "enumerate") <;> (wp_walk using wpAny_pyIter_tuple hT; exact ⟨_, rfl, fin⟩)
    · wp_walk using wpAny_pyIter_tuple hT
      exact ⟨_, rfl, fin⟩
theorem call_enumT {prog : Program} {w : World} {A : Around} {E : Value → Shared → Prop} {s : Shared} {t : Addr} {its : Array Value} {Q : Value → Shared → Prop} (ht : s.heap.IsTuple t its)
    (h : ∀ h', IsEnum h' (s.heap.objs.size + 1) s.heap.objs.size 0 .none → h'.IsTupleIter s.heap.objs.size t 0 → (∀ b o, s.heap.get? b = some o → h'.get? b = some o) → Q (.ref (s.heap.objs.size + 1)) { s with heap := h' }) :
    wpAny (model prog w) A (call (.type "enumerate") [.ref t]) Q E s := by
  refine callType_new PySem.F.called_enumerate (by decide) (PySem.F.typeCall_enumerate_1 _) (PySem.F.newCall_enumerate_1 _) (fun ob => PySem.F.args_object_init_2 ob _) PySem.F.entry_enumerate_new (enum_newT t its) ⟨ht, ?_⟩
  have hz : (s.heap.push (tupIt t)).objs.size = s.heap.objs.size + 1 := Heap.size_push ..
  show _ ∧ _
  rw [hz]
  have he : IsEnum ((s.heap.push (tupIt t)).push (enumOb s.heap.objs.size)) (s.heap.objs.size + 1) s.heap.objs.size 0 .none := by
    have q := Heap.get?_push_size (s.heap.push (tupIt t)) (o := enumOb s.heap.objs.size) rfl
    rw [hz] at q
    exact q
  exact ⟨⟨_, he, rfl⟩, h _ he ⟨_, Heap.get?_push_of_some _ (Heap.get?_push_size _ rfl), rfl, rfl⟩ fun b o x => Heap.get?_push_of_some _ (Heap.get?_push_of_some _ x)⟩
/-- the tuple at a, its items in new pairs -/
def IteT (K : PySem.W.Frag) (a : Addr) : It :=
  ⟨fun i H => ∃ (xs : List V) (x : V), SqT K H a xs ∧ xs[i]? = some x, fun i H v H' => ∃ T x, v = .ref T ∧ H T = none ∧ H' = upd H T (.tup [.int (i : Nat), x]) ∧ ∀ xs, SqT K H a xs → xs[i]? = some x, fun i H => ∃ xs : List V, SqT K H a xs ∧ xs.length ≤ i⟩
theorem turn_enumT {P : Program} {w : World} {K : PySem.W.Frag} {elts : List Expr} {kk : Nat} {tpos : Pos} (a e it : Addr) (hai : a ≠ it) (hae : a ≠ e) :
    Turn P w K (.Tuple elts kk tpos) (IteT K a) [e, it] e (fun i h => (∃ old, IsEnum h e it ((i : Nat) : Int) old) ∧ h.IsTupleIter it a i ∧ e ≠ it) where
  mem := by simp
  obj := fun i h st b hb => by
    obtain ⟨⟨old, he⟩, ⟨o, ho, hc, hd⟩, _⟩ := st
    rcases (show b = e ∨ b = it by simpa using hb) with z | z
    · rw [z]; exact ⟨_, he, fun v q => nomatch q⟩
    · rw [z]; exact ⟨o, ho, fun v q => by rw [hd] at q; cases q⟩
  keep := fun i h h' st k => let ⟨⟨old, he⟩, hi, hne⟩ := st; ⟨⟨old, k e (by simp) _ he⟩, hi.at fun o q => k it (by simp) o q, hne⟩
  item := by
    intro X hP hw hK hc i pins s σ H E I hf st hg
    subst hP hw hK
    obtain ⟨⟨old, he⟩, hit, hne⟩ := st
    obtain ⟨xs, x, hq, hx⟩ := hg
    obtain ⟨its, rv, pt, hz⟩ := I.tuple hq
    have ptu : s.heap.IsTuple a its.toArray := pt
    have hel : e < s.heap.objs.size := Heap.lt_size he
    have hil : it < s.heap.objs.size := by obtain ⟨_, q, _⟩ := id hit; exact Heap.lt_size q
    have hal : a < s.heap.objs.size := by obtain ⟨_, q, _⟩ := id ptu; exact Heap.lt_size q
    have hlen : i < its.toArray.size := by
      have q := (List.getElem?_eq_some_iff.mp hx).1
      rw [rv.length] at q
      simpa using q
    have Dr := Draws.tuple (prog := X.prog) (w := X.w) (A := X.A.in1) (I.ok.hd hc) it a hai its.toArray
    refine wpAny_pyNext_enum_itemD Dr he ⟨hit, ptu⟩ hlen hne (by simp; exact ⟨hne, Ne.symm hae⟩) fun u h' tk hu ho hst hT hsz hk => ?_
    obtain ⟨u', hu', ru⟩ := rv.get hx
    have eu : u = u' := by
      have q : its[i]? = some u := by simpa using hu
      rw [hu'] at q
      exact (Option.some.inj q).symm
    subst eu
    refine ⟨_, rfl, wpAny_letOwnedTupleGo_enum (s := { s with heap := h', toks := tk + 1 }) ho fun h'' he' sb => ?_⟩
    have hT2 : h''.get? s.heap.objs.size = some { cls := .type "tuple", data := .seq #[.int i tk, u] } := (sb.2 _ (Nat.ne_of_gt hel)).trans hT
    have new : ObjOk X.prog X.w (upd H s.heap.objs.size (.tup [.int (i : Nat), x])) h'' s.heap.objs.size (.tup [.int (i : Nat), x]) :=
      ⟨by show 2 ≤ sizeLine; decide, [.int i tk, u], .cons ⟨_, rfl⟩ (.cons ru .nil), ⟨_, hT2, rfl, _, rfl⟩⟩
    have I1 : Inv X pins σ (upd H s.heap.objs.size (.tup [.int (i : Nat), x])) { s with heap := h'', toks := tk + 1 } :=
      I.turnedNew (ch := [e, it]) (fun b ob hb q => (sb.2 b (fun z => hb (by simp [z]))).trans (hk b ob (fun z => hb (by simp [z])) (fun z => hb (by simp [z])) q)) hf (Nat.le_refl _) new
    refine ⟨.ref s.heap.objs.size, _, I1, rfl, ⟨_, x, rfl, I.hok.fresh (Nat.le_refl _), rfl, fun ys hy => by rw [I.tuple_inj hy hq]; exact hx⟩, ⟨⟨u, ?_⟩, hst.1.at fun o q => (sb.2 it (Ne.symm hne)).trans q, hne⟩, fun b hb => ?_⟩
    · rw [show ((i + 1 : Nat) : Int) = (i : Int) + 1 by omega]; exact he'
    · have hb' : b < s.heap.objs.size := by
        rcases (show b = e ∨ b = it by simpa using hb) with z | z
        · rw [z]; exact hel
        · rw [z]; exact hil
      rw [upd_ne (Nat.ne_of_lt hb')]
      exact (hf b hb).1
  done := by
    intro X hP hw hK hc i pins s σ H E I hf st hg
    subst hP hw hK
    obtain ⟨⟨old, he⟩, hit, hne⟩ := st
    obtain ⟨xs, hq, hx⟩ := hg
    obtain ⟨its, rv, pt, hz⟩ := I.tuple hq
    have ptu : s.heap.IsTuple a its.toArray := pt
    obtain ⟨f0, f1, f2, f3, f4, f5⟩ := hf it (by simp)
    have hl := rv.length
    have hT : s.TypeIs (.ref e) "enumerate" := ⟨_, he, rfl⟩
    unfold pyNext
    refine wpAny_bind (wpAny_attempt (wpAny_callSpecial?_slot (name := Str.ofString "__next__") hT PySem.F.slot_enumerate_next (wpAny_call_entry PySem.F.slot_enumerate_next hT PySem.F.entry_enumerate_next ?_ (PySem.F.args_enumerate_next_1 _))))
    show wpAny _ _ (field (.ref e) 2 >>= _) _ _ _
    refine wpAny_bind (wpAny_field he rfl (x := .ref it) rfl (wpAny_bind (wpAny_nextOf_tuple_end (I.ok.hd hc) hit ptu (by simp; omega) fun h' x he' hx' => ?_)))
    obtain ⟨o, ho, hcl⟩ := hx'
    refine wpAny_bind (wpAny_isInstance (T := "StopIteration") (b := true) ⟨o, ho, hcl⟩ isSubtype_stop (wpAny_pure ?_))
    exact ⟨rfl, I.turned (t' := s.toks) (fun b o hb q => he' b o hb q) f0 f1 f3 f4 f5⟩
  self := fun A i s Q E st h => let ⟨⟨_, he⟩, _⟩ := st; wpAny_pyIter_enum he h
def iEnumT (K : PySem.W.Frag) (ta : TA) : TI := fun σ H R => ta σ H fun vs H1 => ∃ a xs, vs = [.ref a] ∧ SqT K H1 a xs ∧ R (IteT K a) H1
theorem pi_enumT {X : Cx} {e : Expr} {ta : TA} {p pos tpos : Pos} {elts : List Expr} {kk : Nat} (hg : Gl X "enumerate") (hm : X.mg "enumerate" = none) (ha : PA X [e] ta) (hs : starEach [e] X.env = [(false, eval e X.env)] := by rfl) :
    PI X (.Tuple elts kk tpos) (.Call (.Name "enumerate" p) [e] [] pos) (iEnumT X.K ta) := by
  refine ⟨fun pins s σ H R I h => ?_⟩
  refine Call_ (ld_blt I hg hm boot_enumerate (PyProof.Rows.callWith_type1 (thn (ha.run pos pins s σ H _ I h) fun us s1 ⟨vs, H1, I1, r1, q1⟩ => ?_) hs rfl))
  obtain ⟨a, xs, ex, hq, q⟩ := q1
  subst ex
  cases r1 with
  | cons r rr =>
    cases rr
    cases r
    obtain ⟨its, rv, pt, hz⟩ := I1.tuple hq
    have ptu : s1.heap.IsTuple a its.toArray := pt
    have hal : a < s1.heap.objs.size := by obtain ⟨_, z, _⟩ := id ptu; exact Heap.lt_size z
    refine call_enumT ptu fun h' he hit hk => wpAny_pyIter_enum he ?_
    have I2 : Inv X pins σ H1 { s1 with heap := h' } := I1.kept (t' := s1.toks) hk
    refine ⟨s1.heap.objs.size + 1, [s1.heap.objs.size + 1, s1.heap.objs.size], _, _, H1, rfl, I2, turn_enumT a (s1.heap.objs.size + 1) s1.heap.objs.size (Nat.ne_of_lt hal) (Nat.ne_of_lt (Nat.lt_succ_of_lt hal)), ⟨⟨.none, he⟩, hit, Nat.succ_ne_self _⟩, fun b hb => ?_, q⟩
    have hle : s1.heap.objs.size ≤ b := by
      rcases (show b = s1.heap.objs.size + 1 ∨ b = s1.heap.objs.size by simpa using hb) with z | z
      · rw [z]; exact Nat.le_add_right _ _
      · rw [z]; exact Nat.le_refl _
    exact I1.fpOk hle (I1.hok.fresh hle)
section
variable {X : Cx} {cl : Str → Option Addr} {W : WX} {G : Gx}
theorem good_enumT {H0 : Hp} {ρ0 : Rho} {a : Addr} {vs : List V} {ds : List D} (hs : TpA G H0 a vs) (rs : RVs G H0 ρ0 ds vs) : Good (IteT G.K a) G (enumD 0 ds) ρ0 H0 := by
  intro H ρ mo i
  have hl := (mo.tup _ _ hs).1
  have rs' := rs.mo mo
  refine ⟨fun d hd => ?_, fun hi => ⟨vs, hl, by rw [rs.length]; rw [enumD_len] at hi; exact hi⟩⟩
  rw [enumD_get] at hd
  cases e : ds[i]? with
  | none => rw [e] at hd; cases hd
  | some d0 =>
    rw [e] at hd
    cases hd
    obtain ⟨v, hv, rv⟩ := rs'.get e
    refine ⟨⟨vs, v, hl, hv⟩, fun x H' y ⟨M, S⟩ => ?_⟩
    obtain ⟨T, x', rfl, hT, rfl, y⟩ := y
    have e := y vs hl
    rw [hv] at e; cases e
    refine ⟨Ext.new S hT, fun M' S' => S'.new hT, .tup (TpA.of upd_same) (.cons ?_ (.one (rv.mono (Ext.new S hT))))⟩
    have e0 : ((0 + i : Nat) : Int) = (i : Nat) := by omega
    rw [e0]; exact .int _
/-- enumerate over a list or a tuple -/
def dEnumA (fa : DA) : DA := fun env M => (fa env M).bind fun ds M1 => match ds with
  | [.lst l] => .ok (enumD 0 l) M1
  | [.tup l] => .ok (enumD 0 l) M1
  | _ => .bad
end
end Ip
end
section
set_option Elab.async false
set_option linter.all false
set_option maxRecDepth 100000
set_option maxHeartbeats 4000000
set_option autoImplicit false
namespace Ip
open PySem PyProof.Rows L2
end Ip
end
section
set_option Elab.async false
set_option linter.all false
set_option maxRecDepth 100000
set_option maxHeartbeats 4000000
set_option autoImplicit false
namespace Ip
open PySem PyProof.Rows L2
def celL (o : Option Cell) : Option (List D) := match o with
  | some (.lst l) => some l
  | _ => none
inductive Src where
  | items (l : List D) | cell (n : Nat) | ecell (n : Nat)
def Src.at_ : Src → Nat → Sto → Option (Option D)
  | .items l, i, _ => some l[i]?
  | .cell n, i, M => (celL M[n]?).map fun l => l[i]?
  | .ecell n, i, M => (celL M[n]?).map fun l => (l[i]?).map fun d => .tup [.int (i : Nat), d]
def Good2 (J : It) (G : Gx) (src : Src) (ρ0 : Rho) (H0 : Hp) : Prop := ∀ (H : Hp) (ρ : Rho) (M : Sto), Mo G H0 ρ0 H ρ → RS G H ρ M → ∀ i : Nat,
  (∀ d, src.at_ i M = some (some d) → J.go i H ∧ ∀ x H', J.yld i H x H' → Ext G H ρ H' ρ ∧ RS G H' ρ M ∧ RV G H' ρ d x) ∧ (src.at_ i M = some none → J.stop i H)
abbrev DI := En → Sto → Out Src
def dI2 (G : Gx) (W : WX) (f : DI) : TI := fun σ H R => ∃ ρ env M, RE G H ρ env σ ∧ RS G H ρ M ∧ (f env M).post (fun src M' => ∀ ρ' H' J, Ext G H ρ H' ρ' → RS G H' ρ' M' → Good2 J G src ρ' H' → R J H') (eP G W H ρ)
def SI2 (X : Cx) (cl : Str → Option Addr) (W : WX) (tg iter : Expr) (f : DI) : Prop := PI X tg iter (dI2 (gx X cl) W f)
def forS (t : DG) (fb : DS) (src : Src) : Nat → Nat → DS
  | 0, _, _, _ => .bad
  | f + 1, i, env, M => match src.at_ i M with
    | none => .bad
    | some none => .ok (.nx env) M
    | some (some d) => match t d env with
      | none => .bad
      | some env1 => (fb env1 M).bind fun fl M1 => match fl with
        | .nx e => forS t fb src f (i + 1) e M1
        | .ct e => forS t fb src f (i + 1) e M1
        | .bk e => .ok (.nx e) M1
        | .rt d => .ok (.rt d) M1
def dForS (t : DG) (fi : DI) (fb : DS) : DS := fun env M => (fi env M).bind fun src M1 => forS t fb src 20000000 0 env M1
section
variable {X : Cx} {cl : Str → Option Addr} {W : WX} {G : Gx}
theorem ss_forS {tg iter : Expr} {body : List Stmt} {t : DG} {fi : DI} {fb : DS} {pos : Pos} (hp : PassesOwn (model X.prog X.w) X.A X.env X.xe) (hc : X.calm = true) (hi : SI2 X cl W tg iter fi) (hg : SG X cl tg t) (hb : SSs X cl W body fb)
    (hs : ∀ x, foldedSetIterable iter X.env x = pure x := by intro _; rfl) : SS X cl W (.For tg iter body [] pos) (dForS t fi fb) :=
  PSweak (ps_for hp hc hi hg hb hs) fun D σ H ⟨ρ, env, M, hE, hS, h⟩ => by
    refine ⟨ρ, env, M, hE, hS, (post_bind h).imp (fun src M1 hx ρ1 H1 J e1 S1 good => ?_) (fun _ _ _ z => z)⟩
    refine ⟨fun i m σ H => ∃ ρ env M, Ext (gx X cl) H1 ρ1 H ρ ∧ RE (gx X cl) H ρ env σ ∧ RS (gx X cl) H ρ M ∧ (forS t fb src m i env M).post (sP (gx X cl) H ρ D) (eP (gx X cl) W H ρ),
      ⟨20000000, ρ1, env, M1, .refl, hE.mono e1, S1, Out.post.imp hx (fun _ _ z => sP.sh e1 z) (fun _ _ _ z => eP.sh e1 z)⟩, ?_⟩
    rintro i m σ' H' ⟨ρ', env', M', x1, E', S', q⟩
    obtain ⟨g1, g2⟩ := good H' ρ' M' x1.mo S' i
    cases m with
    | zero => exact q.elim
    | succ m =>
      unfold forS at q
      split at q
      · exact q.elim
      · rename_i hat
        exact .inl ⟨g2 hat, q ρ' σ' H' .refl S' E'⟩
      · rename_i d hat
        obtain ⟨go, yl⟩ := g1 d hat
        refine .inr ⟨go, fun σ H => ∃ ρ env M, Ext (gx X cl) H1 ρ1 H ρ ∧ RE (gx X cl) H ρ env σ ∧ RS (gx X cl) H ρ M ∧ (forS t fb src m (i + 1) env M).post (sP (gx X cl) H ρ D) (eP (gx X cl) W H ρ),
          fun σ2 H2 n2 => ⟨m, Nat.lt_succ_self _, n2⟩, fun x H2 y => ?_⟩
        obtain ⟨x2, rs2, r2⟩ := yl x H2 y
        split at q
        · exact q.elim
        · rename_i env1 he1
          refine ⟨ρ', env', d, env1, E'.mono x2, r2, he1, fun σ3 E3 => ?_⟩
          refine ⟨ρ', env1, M', E3, rs2, (post_bind q).imp (fun fl M4 h4 => ?_) (fun _ _ _ z => eP.sh x2 z)⟩
          cases fl with
          | nx e => exact fun ρ5 σ5 H5 x5 S5 E5 => ⟨ρ5, e, M4, x1.trans (x2.trans x5), E5, S5, Out.post.imp h4 (fun _ _ z => sP.sh (x2.trans x5) z) (fun _ _ _ z => eP.sh (x2.trans x5) z)⟩
          | ct e => exact fun ρ5 σ5 H5 x5 S5 E5 => ⟨ρ5, e, M4, x1.trans (x2.trans x5), E5, S5, Out.post.imp h4 (fun _ _ z => sP.sh (x2.trans x5) z) (fun _ _ _ z => eP.sh (x2.trans x5) z)⟩
          | bk e => exact nP.sh x2 h4
          | rt d => exact oP.sh x2 h4
theorem good2_of {J : It} {l : List D} {ρ0 : Rho} {H0 : Hp} (g : Good J G l ρ0 H0) : Good2 J G (.items l) ρ0 H0 := fun H ρ M mo S i => by
  obtain ⟨g1, g2⟩ := g H ρ mo i
  refine ⟨fun d hd => ?_, fun hn => g2 ?_⟩
  · obtain ⟨go, yl⟩ := g1 d (Option.some.inj hd)
    exact ⟨go, fun x H' y => let ⟨a, b, c⟩ := yl x H' y ⟨M, S⟩; ⟨a, b M S, c⟩⟩
  · exact List.getElem?_eq_none_iff.mp (Option.some.inj hn)
theorem cell_at {H : Hp} {ρ : Rho} {M : Sto} {n : Nat} {a : Addr} {l : List D} (S : RS G H ρ M) (ha : ρ.c[n]? = some a) (h : celL M[n]? = some l) : ∃ vs, H a = some (.lst vs) ∧ RVs G H ρ l vs := by
  cases e : M[n]? with
  | none => rw [e] at h; cases h
  | some c =>
    rw [e] at h
    cases c with
    | lst l' =>
      cases h
      obtain ⟨b, hb, vs, q, r⟩ := S.at_ _ _ e
      rw [ha] at hb; cases hb
      exact ⟨vs, q, r⟩
    | ins _ _ _ => cases h
    | dK _ _ => cases h
    | dT _ _ => cases h
theorem good2_cell {ρ0 : Rho} {H0 : Hp} {n : Nat} {a : Addr} (ha : ρ0.c[n]? = some a) : Good2 (Itl G.K a) G (.cell n) ρ0 H0 := fun H ρ M mo S i => by
  have ha' := mo.pre n a ha
  refine ⟨fun d hd => ?_, fun hn => ?_⟩
  · have hd' : (celL M[n]?).map (fun l => l[i]?) = some (some d) := hd
    cases e : celL M[n]? with
    | none => rw [e] at hd'; cases hd'
    | some l =>
      rw [e] at hd'
      have hi : l[i]? = some d := Option.some.inj hd'
      obtain ⟨vs, hv, rs⟩ := cell_at S ha' e
      obtain ⟨v, hvi, rv⟩ := rs.get hi
      refine ⟨⟨vs, v, SqL.of hv, hvi⟩, fun x H' y => ?_⟩
      obtain ⟨rfl, y⟩ := y
      have q := y vs (SqL.of hv)
      rw [hvi] at q; cases q
      exact ⟨.refl, S, rv⟩
  · have hn' : (celL M[n]?).map (fun l => l[i]?) = some none := hn
    cases e : celL M[n]? with
    | none => rw [e] at hn'; cases hn'
    | some l =>
      rw [e] at hn'
      have hi : l[i]? = none := Option.some.inj hn'
      obtain ⟨vs, hv, rs⟩ := cell_at S ha' e
      exact ⟨vs, SqL.of hv, by rw [rs.length]; exact List.getElem?_eq_none_iff.mp hi⟩
theorem good2_ecell {ρ0 : Rho} {H0 : Hp} {n : Nat} {a : Addr} (ha : ρ0.c[n]? = some a) : Good2 (Ite G.K a) G (.ecell n) ρ0 H0 := fun H ρ M mo S i => by
  have ha' := mo.pre n a ha
  refine ⟨fun d hd => ?_, fun hn => ?_⟩
  · have hd' : (celL M[n]?).map (fun l => (l[i]?).map fun d => D.tup [.int (i : Nat), d]) = some (some d) := hd
    cases e : celL M[n]? with
    | none => rw [e] at hd'; cases hd'
    | some l =>
      rw [e] at hd'
      have hi : (l[i]?).map (fun d => D.tup [.int (i : Nat), d]) = some d := Option.some.inj hd'
      cases e2 : l[i]? with
      | none => rw [e2] at hi; cases hi
      | some d0 =>
        rw [e2] at hi; cases hi
        obtain ⟨vs, hv, rs⟩ := cell_at S ha' e
        obtain ⟨v, hvi, rv⟩ := rs.get e2
        refine ⟨⟨vs, v, SqL.of hv, hvi⟩, fun x H' y => ?_⟩
        obtain ⟨T, x', rfl, hT, rfl, y⟩ := y
        have q := y vs (SqL.of hv)
        rw [hvi] at q; cases q
        exact ⟨Ext.new S hT, S.new hT, .tup (TpA.of upd_same) (.cons (.int _) (.one (rv.mono (Ext.new S hT))))⟩
  · have hn' : (celL M[n]?).map (fun l => (l[i]?).map fun d => D.tup [.int (i : Nat), d]) = some none := hn
    cases e : celL M[n]? with
    | none => rw [e] at hn'; cases hn'
    | some l =>
      rw [e] at hn'
      have hi : (l[i]?).map (fun d => D.tup [.int (i : Nat), d]) = none := Option.some.inj hn'
      have hi' : l[i]? = none := by
        cases e2 : l[i]? with
        | none => rfl
        | some d0 => rw [e2] at hi; cases hi
      obtain ⟨vs, hv, rs⟩ := cell_at S ha' e
      exact ⟨vs, SqL.of hv, by rw [rs.length]; exact List.getElem?_eq_none_iff.mp hi'⟩
def srcD (x : D) (M : Sto) : Option Src := match x with
  | .ref n => (celL M[n]?).map fun _ => .cell n
  | x => (iterD x).map .items
def dIter2 (fe : DE) : DI := fun env M => (fe env M).bind fun x M1 => match srcD x M1 with
  | some s => .ok s M1
  | none => .bad
theorem si2_iter {tg e : Expr} {fe : DE} (he : SE X cl W e fe) : SI2 X cl W tg e (dIter2 fe) :=
  PIweak (PI.or (pi_list he) (pi_tup he)) fun σ H R ⟨ρ, env, M, hE, hS, h⟩ => by
    have h' := post_bind h
    cases hf : fe env M with
    | bad => rw [hf] at h'; exact h'.elim
    | exc e ev M1 => exact .inl ⟨ρ, env, M, hE, hS, by rw [hf] at h' ⊢; exact h'⟩
    | ok d M1 =>
      rw [hf] at h'
      cases d with
      | lst l => exact .inl ⟨ρ, env, M, hE, hS, by
          rw [hf]
          intro ρ1 v H1 e1 S1 r1
          cases r1 with
          | lst hs hn rs => exact ⟨_, rfl, ⟨_, SqL.of hs⟩, h' ρ1 H1 _ e1 S1 (good2_of (good_lst (G := gx X cl) hs hn rs))⟩⟩
      | scr ns => exact .inl ⟨ρ, env, M, hE, hS, by
          rw [hf]
          intro ρ1 v H1 e1 S1 r1
          cases r1 with
          | scr hs =>
            refine ⟨_, rfl, ⟨ns.map V.int, ?_⟩, h' ρ1 H1 _ e1 S1 (good2_of (good_scr (G := gx X cl) hs))⟩
            rcases hs with ⟨h, _⟩ | h
            · exact .inl h
            · exact h H1⟩
      | tup l => exact .inr ⟨ρ, env, M, hE, hS, by
          rw [hf]
          intro ρ1 v H1 e1 S1 r1
          cases r1 with
          | tup hs rs => exact ⟨_, rfl, ⟨_, hs.1⟩, h' ρ1 H1 _ e1 S1 (good2_of (good_tup (G := gx X cl) hs rs))⟩⟩
      | ref n =>
        change (match (celL M1[n]?).map (fun _ => Src.cell n) with
          | some s => Out.ok s M1
          | none => .bad).post _ _ at h'
        cases hc : celL M1[n]? with
        | none => rw [hc] at h'; exact h'.elim
        | some l =>
          rw [hc] at h'
          exact .inl ⟨ρ, env, M, hE, hS, by
            rw [hf]
            intro ρ1 v H1 e1 S1 r1
            cases r1 with
            | ref ha =>
              obtain ⟨vs, hv, _⟩ := cell_at S1 ha hc
              exact ⟨_, rfl, ⟨_, SqL.of hv⟩, h' ρ1 H1 _ e1 S1 (good2_cell (G := gx X cl) ha)⟩⟩
      | _ => exact h'.elim
def esrcD (x : D) (M : Sto) : Option Src := match x with
  | .ref n => (celL M[n]?).map fun _ => .ecell n
  | .lst l => some (.items (enumD 0 l))
  | .tup l => some (.items (enumD 0 l))
  | _ => none
def dEnum2 (fe : DE) : DI := fun env M => (fe env M).bind fun x M1 => match esrcD x M1 with
  | some s => .ok s M1
  | none => .bad
theorem si2_enum {e : Expr} {fe : DE} {p pos tpos : Pos} {elts : List Expr} {kk : Nat} (hg : Gl X "enumerate") (hm : X.mg "enumerate" = none) (he : SE X cl W e fe) (hst : starEach [e] X.env = (false, eval e X.env) :: starEach [] X.env := by rfl) (hs : starEach [e] X.env = [(false, eval e X.env)] := by rfl) :
    SI2 X cl W (.Tuple elts kk tpos) (.Call (.Name "enumerate" p) [e] [] pos) (dEnum2 fe) :=
  PIweak (PI.or (pi_enum hg hm (sa_cons (cl := cl) (W := W) he sa_nil hst) hs) (pi_enumT hg hm (sa_cons (cl := cl) (W := W) he sa_nil hst) hs)) fun σ H R ⟨ρ, env, M, hE, hS, h⟩ => by
    have h' := post_bind h
    cases hf : fe env M with
    | bad => rw [hf] at h'; exact h'.elim
    | exc e ev M1 => exact .inl ⟨ρ, env, M, hE, hS, by unfold dConsA; rw [hf] at h' ⊢; exact h'⟩
    | ok d M1 =>
      rw [hf] at h'
      have fa : dConsA fe dNilA env M = .ok [d] M1 := by unfold dConsA; rw [hf]; rfl
      cases d with
      | lst l => exact .inl ⟨ρ, env, M, hE, hS, by
          rw [fa]
          intro ρ1 vs H1 e1 S1 r1
          cases r1 with
          | cons q1 q2 =>
            cases q2
            cases q1 with
            | lst hs hn rs => exact ⟨_, _, rfl, SqL.of hs, h' ρ1 H1 _ e1 S1 (good2_of (good_enum (G := gx X cl) hs hn rs))⟩⟩
      | tup l => exact .inr ⟨ρ, env, M, hE, hS, by
          rw [fa]
          intro ρ1 vs H1 e1 S1 r1
          cases r1 with
          | cons q1 q2 =>
            cases q2
            cases q1 with
            | tup hs rs => exact ⟨_, _, rfl, hs.1, h' ρ1 H1 _ e1 S1 (good2_of (good_enumT (G := gx X cl) hs rs))⟩⟩
      | ref n =>
        change (match (celL M1[n]?).map (fun _ => Src.ecell n) with
          | some s => Out.ok s M1
          | none => .bad).post _ _ at h'
        cases hc : celL M1[n]? with
        | none => rw [hc] at h'; exact h'.elim
        | some l =>
          rw [hc] at h'
          exact .inl ⟨ρ, env, M, hE, hS, by
            rw [fa]
            intro ρ1 vs H1 e1 S1 r1
            cases r1 with
            | cons q1 q2 =>
              cases q2
              cases q1 with
              | ref ha =>
                obtain ⟨ws, hv, _⟩ := cell_at S1 ha hc
                exact ⟨_, _, rfl, SqL.of hv, h' ρ1 H1 _ e1 S1 (good2_ecell (G := gx X cl) ha)⟩⟩
      | _ => exact h'.elim
end
/-- a loop by its invariant -/
theorem forS_inv {t : DG} {fb : DS} {src : Src} (n : Nat) (P : Nat → En → Sto → Prop) (hend : ∀ env M, P n env M → src.at_ n M = some none)
    (hstep : ∀ i env M, i < n → P i env M → ∃ d env1 env' M', src.at_ i M = some (some d) ∧ t d env = some env1 ∧ fb env1 M = .ok (.nx env') M' ∧ P (i + 1) env' M') :
    ∀ (k i f : Nat) (env : En) (M : Sto), i + k = n → k < f → P i env M → ∃ env' M', forS t fb src f i env M = .ok (.nx env') M' ∧ P n env' M'
  | 0, i, f + 1, env, M, hi, _, hP => by
    have : i = n := by omega
    subst this
    refine ⟨env, M, ?_, hP⟩
    unfold forS
    rw [hend env M hP]
  | k + 1, i, f + 1, env, M, hi, hf, hP => by
    obtain ⟨d, env1, env', M', h1, h2, h3, h4⟩ := hstep i env M (by omega) hP
    obtain ⟨e2, M2, h5, h6⟩ := forS_inv n P hend hstep k (i + 1) f env' M' (by omega) (by omega) h4
    refine ⟨e2, M2, ?_, h6⟩
    unfold forS
    rw [h1]
    simp only [h2, h3, Out.bind]
    exact h5
  | _, _, 0, _, _, _, h, _ => absurd h (by omega)
end Ip
end
section
set_option Elab.async false
set_option linter.all false
set_option maxRecDepth 100000
set_option maxHeartbeats 4000000
set_option autoImplicit false
namespace Ip
open PySem PySem.Spec PyProof.Rows L2
end Ip
end
section
set_option Elab.async false
set_option linter.all false
set_option maxRecDepth 100000
set_option maxHeartbeats 4000000
set_option autoImplicit false
namespace Ip
open PySem PySem.Spec PyProof.Rows L2
end Ip
end
section
set_option Elab.async false
set_option linter.all false
set_option maxRecDepth 100000
set_option maxHeartbeats 4000000
set_option autoImplicit false
namespace Ip
open PySem PySem.Spec PyProof.Rows L2
end Ip
end
section
set_option Elab.async false
set_option linter.all false
set_option maxRecDepth 100000
set_option maxHeartbeats 4000000
set_option autoImplicit false
namespace Ip
open PySem PySem.Spec PyProof.Rows L2
end Ip
end
section
set_option Elab.async false
set_option linter.all false
set_option maxRecDepth 100000
set_option maxHeartbeats 4000000
set_option autoImplicit false
namespace Ip
open PySem PySem.Spec PyProof.Rows L2
end Ip
end
section
set_option Elab.async false
set_option linter.all false
set_option maxRecDepth 100000
set_option maxHeartbeats 4000000
set_option autoImplicit false
namespace Ip
open PySem PySem.Spec PyProof.Rows L2
end Ip
end
section
set_option Elab.async false
set_option linter.all false
set_option maxRecDepth 100000
set_option maxHeartbeats 4000000
set_option autoImplicit false
namespace Ip
open PySem PySem.Spec PyProof.Rows L2
end Ip
end
section
set_option Elab.async false
set_option linter.all false
set_option maxRecDepth 100000
set_option maxHeartbeats 4000000
set_option autoImplicit false
namespace Ip
open PySem PySem.Spec PyProof.Rows L2
end Ip
end
section
set_option Elab.async false
set_option linter.all false
set_option maxRecDepth 100000
set_option maxHeartbeats 4000000
set_option autoImplicit false
namespace Ip
open PySem PySem.Spec PyProof.Rows L2
def xP (G : Gx) (H : Hp) (ρ : Rho) (E : XK) : Exn → En → Sto → Prop := fun e _ M' =>
  ∀ ρ' H' C d vs, Ext G H ρ H' ρ' → RS G H' ρ' M' → G.cl e.c = some C → H' d = some (.xd (e.ks.zip vs)) → d ∉ ρ' → e.ks.length = vs.length → RVs G H' ρ' e.vs vs → E (.ref C) (some d) H'
def spX (G : Gx) (F : DF) : Sp := fun vs H Q E => ∃ ρ M ds, RS G H ρ M ∧ RVs G H ρ ds vs ∧ (F ds M).post (oP G H ρ Q) (xP G H ρ E)
/-- what is raised is wished for wherever the slots stand -/
abbrev WC (E : XK) : WX := fun cls d _ H => E cls d H
theorem fnX {P : Program} {w : World} {K : PySem.W.Frag} {mg : Str → Option Value} {base : Heap} {cl : Str → Option Addr} {x qual : Str} {st : Stmt} {f : Addr} {fd : FuncData} {N ps : List Str} {k : Nat} {fb : DS} (F : Fun K x qual st f fd) (S : FnScope N ps (defScope st))
    (hb : ∀ (cdv : Value) (A : Around) (outer : List Env) (s : Shared) (H : Hp) (E : XK), Room k (A.deeper (envOfC qual (defScope st) s.heap.objs.size f cdv)) → Takes (cxOf (L2.CX P w) P w K mg base N qual (defScope st) f cdv A outer s H E) (WC E) → SSs (cxOf (L2.CX P w) P w K mg base N qual (defScope st) f cdv A outer s H E) cl (WC E) (defBody st) fb) :
    FnOk P w K mg base (L2.CX P w) (k + 1) f fd ps (spX ⟨K, cl⟩ (runF N.length ps.length fb)) := by
  refine F.okX S (fun vs H Q E ⟨ρ, M, ds, hS, r, h⟩ => by rw [r.length]; exact (runF_len h).1) fun cdv A outer s H vs Q E hr ⟨ρ, M, ds, hS, r, h⟩ => ⟨_, hb cdv A outer s H E hr (takes_of rfl rfl rfl rfl), ?_⟩
  obtain ⟨hl, h⟩ := runF_len h
  rw [← hl] at h
  refine ⟨ρ, _, M, RE.start (N := N) r, hS, (post_bind h).imp (fun fl M1 hx => ?_) (fun e ev M1 hx ρ' H' σ' C d vs a b c e1 e2 e3 e4 e5 => hx ρ' H' C d vs a b e1 e2 e3 e4 e5)⟩
  cases fl with
  | nx env => exact fun ρ1 σ1 H1 e1 S1 E1 => hx ρ1 .non H1 e1 S1 .non
  | rt d => exact hx
  | bk env => exact hx.elim
  | ct env => exact hx.elim
/-- what a def has raised, seen by its caller -/
def atE {α : Type} (env : En) (o : Out α) : Out α := match o with
  | .exc e _ M => .exc e env M
  | o => o
theorem atE_post {α : Type} {env : En} {o : Out α} {Q : α → Sto → Prop} {E : Exn → En → Sto → Prop} (h : (atE env o).post Q E) : o.post Q (fun e _ M => E e env M) := by
  cases o <;> exact h
def dCallX (F : DF) (fa : DA) : DE := fun env M => (fa env M).bind fun ds M1 => atE env (F ds M1)
section
variable {X : Cx} {cl : Str → Option Addr} {W : WX} {G : Gx} {Ex : XK}
theorem exc_at {H H1 : Hp} {ρ ρ1 : Rho} {env : En} {σ : L2.St} (hE : RE G H ρ env σ) (e1 : Ext G H ρ H1 ρ1) {e : Exn} {ev : En} {M : Sto} (h : eP G (WC Ex) H ρ e env M) : xP G H1 ρ1 Ex e ev M :=
  fun ρ' H' C d vs a b c1 c2 c3 c4 c5 => h ρ' H' σ C d vs (e1.trans a) b (hE.mono (e1.trans a)) c1 c2 c3 c4 c5
theorem se_callX {F : DF} {k : Nat} {f : Addr} {fd : FuncData} {ps : List Str} {x : Str} {e : Expr} {es : List Expr} {fa : DA} {p pos : Pos} (tk : Takes X (WC Ex)) (Fk : FnOk X.prog X.w X.K X.mg X.base (L2.CX X.prog X.w) k f fd ps (spX (gx X cl) F)) (hr : Room k X.A) (hg : Gl X x) (hm : X.mg x = some (.ref f)) (hk : PySem.W.keepIn X.K (.ref f) = true) (hb : Binds X.K fd ps [])
    (ha : SA X cl (WC Ex) (e :: es) fa) (hdb : (x == ("__debug__" : Str)) = false := by decide) (he : starEach (e :: es) X.env = (false, eval e X.env) :: starEach es X.env := by rfl) (hpl : (backTo pos (starEach es X.env)).any (·.1) = false := by rfl) :
    SE X cl (WC Ex) (.Call (.Name x p) (e :: es) [] pos) (dCallX F fa) :=
  PEweak (pe_call Fk hr hg hm hk hb .nil (E := Ex) (passes_call tk fun _ _ _ _ h => h) ha hdb he hpl) fun σ H Q ⟨ρ, env, M, hE, hS, h⟩ => by
    refine ⟨ρ, env, M, hE, hS, (post_bind h).imp (fun ds M1 hx ρ1 vs H1 e1 S1 r1 => ?_) (fun _ _ _ z => z)⟩
    show spX (gx X cl) F (vs ++ []) H1 Q Ex
    rw [List.append_nil]
    exact ⟨ρ1, M1, ds, S1, r1, (atE_post hx).imp (fun _ _ z => oP.sh e1 z) (fun _ _ _ z => exc_at hE e1 z)⟩
/-- C.m(..) where m is a plain def of the class -/
theorem pe_cfn {CX : CXT} {k : Nat} {C g : Addr} {mc : Value} {fd : FuncData} {ps : List Str} {sp : Sp} {E : XK} {o e : Expr} {es : List Expr} {m : Str} {pos apos : Pos} {ta : TE} {t : TA} {pl : Sem Bool} (he : PE X o ta) (r : ClX.CRead X.K C mc) (c : PySem.W.findCls X.K (.ref C) mc m = some (.val (.ref g))) (hk : PySem.W.keepIn X.K (.ref g) = true)
    (F : FnOk X.prog X.w X.K X.mg X.base CX k g fd ps sp) (hr : Room k X.A) (hb : Binds X.K fd ps []) (hx : Passes CX X E) (ha : PA X (e :: es) t)
    (hst : starEach (e :: es) X.env = (false, eval e X.env) :: starEach es X.env := by rfl) (hpl : (backTo pos (starEach es X.env)).any (·.1) = false := by rfl)
    (ht : eval (.Call (.Attribute o m apos) (e :: es) [] pos) X.env = (do
      let ov ← eval o X.env
      standAt apos.atName
      let (f, first) ← holding [ov] (getMethod ov m pl)
      callWith pos f first (backTo pos (starEach (e :: es) X.env)) (backToKw pos (keywordEach [] X.env))) := by rfl) :
    PE X (.Call (.Attribute o m apos) (e :: es) [] pos) (fun σ H Q => ta σ H fun x H1 => x = .ref C ∧ t σ H1 fun vs H2 => sp vs H2 Q E) := by
  refine ⟨fun pins s σ H Q I h => ?_⟩
  refine PySem.W.methodCall_KW (pl := pl) (thn (he.run pins s σ H _ I h) fun u s1 ⟨x, H1, I1, rx, ex, q⟩ => ?_) ht
  subst ex
  obtain rfl : u = Value.ref C := rx
  refine PySem.W.method_cls I1.kIn r.ga (PySem.W.cls_value I1.kIn r.rd c rfl ?_)
  refine PySem.W.callWith_K (first := []) (h₀ := X.base) I.ok.mod.kin hk (thn (ha.run pos pins _ σ H1 _ (I1.tok _) q) fun us s2 ⟨vs, H2, I2, rv, q2⟩ => ⟨I2.kIn, ?_⟩) hst hpl
  exact run_fn F hr hb .nil hx I2 rv (by rw [List.append_nil]; exact q2)
end
/-- __init__ of the errors' base class: self, word, message -/
def spSE (K : PySem.W.Frag) : Sp := fun vs H Q _ => ∃ (a C : Addr) (w : Str) (m : V), vs = [.ref a, .str w, m] ∧ OexC K C ∧ PySem.W.findIn K (.ref C) "word" = some none ∧ H a = some (exo a C none) ∧
  ∀ dx, H dx = none → dx ≠ a → Q .non (upd (upd H dx (exd dx [("word", .str w)])) a (exo a C (some dx)))
/-- __init__ of an error with one field; ok: which values its message can show -/
def spE1 (C : Addr) (wd fl : Str) (ok : V → Hp → Prop) : Sp := fun vs H Q _ => ∃ (a : Addr) (x : V), vs = [.ref a, x] ∧ H a = some (exo a C none) ∧ ok x H ∧
  ∀ dx, H dx = none → dx ≠ a → Q .non (upd (upd (upd H dx (exd dx [("word", .str wd)])) a (exo a C (some dx))) dx (exd dx [(fl, x), ("word", .str wd)]))
def dRaise1 (c wd fl : Str) (okD : D → Bool) (fe : DE) : DS := fun env M => (fe env M).bind fun d M1 => if okD d = true then .exc ⟨c, [fl, "word"], [d, .str wd]⟩ env M1 else .bad
section
variable {X : Cx} {cl : Str → Option Addr} {G : Gx} {Ex : XK}
/-- what is raised stands in the heap as it is told -/
theorem left_eP {H H1 : Hp} {ρ ρ1 : Rho} {M1 : Sto} {env : En} {σ : L2.St} {e : Exn} {a dx C : Addr} {us : List V} (hE : RE G H ρ env σ) (e1 : Ext G H ρ H1 ρ1) (S1 : RS G H1 ρ1 M1) (hC : G.cl e.c = some C) (hl : e.ks.length = us.length) (rv : RVs G H1 ρ1 e.vs us) (nd : H1 dx = none)
    (h : eP G (WC Ex) H ρ e env M1) : Ex (.ref C) (some dx) (upd H1 dx (.xd (e.ks.zip us))) := by
  have x := Ext.new (o := .xd (e.ks.zip us)) S1 nd
  exact h ρ1 _ σ C dx us (e1.trans x) (S1.new nd) (hE.mono (e1.trans x)) hC upd_same (S1.fresh nd) hl (rv.mono x)
/-- C(..): of its heap only the dict of what was made is left -/
theorem dict_left {H : Hp} {a dx C : Addr} {wd : Str} {u : HO} {fs : List (Str × V)} (na : H a = none) (nd : upd H a (exo a C none) dx = none) (ne : dx ≠ a) :
    H dx = none ∧ upd (del (upd (upd (upd (upd H a (exo a C none)) dx (exd dx [("word", .str wd)])) a (exo a C (some dx))) dx u) a) dx (.xd fs) = upd H dx (.xd fs) ∧ upd (del (upd (upd (upd H a (exo a C none)) dx u) a (exo a C (some dx))) a) dx (.xd fs) = upd H dx (.xd fs) := by
  have nd' : H dx = none := by rw [← nd, upd_ne ne]
  refine ⟨nd', ?_, ?_⟩ <;> funext b <;> by_cases h1 : b = dx
  · rw [h1, upd_same, upd_same]
  · rw [upd_ne h1, upd_ne h1]
    by_cases h2 : b = a
    · rw [h2, del_same, na]
    · rw [del_ne h2, upd_ne h1, upd_ne h2, upd_ne h1, upd_ne h2]
  · rw [h1, upd_same, upd_same]
  · rw [upd_ne h1, upd_ne h1]
    by_cases h2 : b = a
    · rw [h2, del_same, na]
    · rw [del_ne h2, upd_ne h2, upd_ne h1, upd_ne h2]
theorem ss_raise1 {c wd fl q : Str} {C fI : Addr} {k : Nat} {fd : FuncData} {e : Expr} {fe : DE} {ok : V → Hp → Prop} {okD : D → Bool} {p pos pos' : Pos} (hok : ∀ {H : Hp} {ρ : Rho} {M : Sto} {d : D} {v : V}, RS (gx X cl) H ρ M → RV (gx X cl) H ρ d v → okD d = true → ok v H) (hc : X.calm = true) (tk : Takes X (WC Ex)) (hC : cl c = some C) (T : OexC X.K C) (iC : PySem.W.findIn X.K (.ref C) "__init__" = some (some (.ref fI))) (tI : PySem.W.typeIn X.K (.ref fI) = some (.type "function"))
    (F1 : FnOk X.prog X.w X.K X.mg X.base CX0 k fI fd ["self", q] (spE1 C wd fl ok)) (hr : Room (k + 1) X.A) (hb : Binds X.K fd ["self", q] []) (hg : Gl X c) (hm : X.mg c = some (.ref C)) (he : SE X cl (WC Ex) e fe)
    (hdb : (c == ("__debug__" : Str)) = false := by decide) (hst : starEach [e] X.env = (false, eval e X.env) :: starEach [] X.env := by rfl) : SS X cl (WC Ex) (.Raise (some (.Call (.Name c p) [e] [] pos)) none pos') (dRaise1 c wd fl okD fe) :=
  PSweak (ps_raise hc tk (pmk_oex (CX := CX0) (dvs := []) T iC tI F1 hr hb .nil (fun _ _ _ _ _ _ _ z => z.elim) hg hm (pa_cons he pa_nil hst) hdb hst rfl)) fun D σ H ⟨ρ, env, M, hE, hS, h⟩ => by
    refine ⟨ρ, env, M, hE, hS, (post_bind h).imp (fun d M1 hx ρ1 v H1 e1 S1 r1 => ?_) (fun _ _ _ z => z)⟩
    split at hx
    · rename_i hd
      refine ⟨by simp, fun a na => ⟨a, v, rfl, upd_same, hok (S1.new na) (r1.mono (Ext.new S1 na)) hd, fun dx nd ne => ?_⟩⟩
      obtain ⟨nd', eq1, _⟩ := dict_left (wd := wd) (u := exd dx [(fl, v), ("word", .str wd)]) (fs := [(fl, v), ("word", .str wd)]) na nd ne
      refine ⟨rfl, dx, [(fl, v), ("word", .str wd)], by rw [upd_ne (Ne.symm ne)]; exact upd_same, upd_same, nd', ?_⟩
      rw [eq1]
      exact left_eP (a := a) (us := [v, .str wd]) hE e1 S1 hC rfl (.two r1 (.str wd)) nd' hx
    · exact hx.elim
end
end Ip
end
section
set_option Elab.async false
set_option linter.all false
set_option maxRecDepth 100000
set_option maxHeartbeats 4000000
set_option autoImplicit false
namespace Ip
open PySem PySem.Spec PyProof.Rows L2
section
variable {X : Cx} {pins : List (Addr × Obj)}
/-- an exception at a, of the class cls and with the dict d, that is about to be handled in X's frame -/
def Caught (X : Cx) (pins : List (Addr × Obj)) (a : Addr) (cls : Value) (d : Option Addr) (σ : L2.St) (H : Hp) (s : Shared) : Prop :=
  H a = none ∧ ∃ (B : Heap) (g : Shared), Inv X pins σ H g ∧ (∀ b o, g.heap.get? b = some o → b ∉ frs X.stack → B.get? b = some o) ∧ g.heap.UpToSlots s.heap ∧ HandSPX.FlyingZ B (X.env :: X.outer) a (Zc cls d) s.heap ∧ s.os = g.os ∧ AllBare s.gens
variable {a : Addr} {cls : Value} {d : Option Addr} {σ : L2.St} {H : Hp} {s : Shared}
theorem Caught.inv (c : Caught X pins a cls d σ H s) : Inv X pins σ H s := by
  obtain ⟨_, B, g, J, nb, up, fl, os, ag⟩ := c
  exact J.landed nb fl.1 up os ag
theorem Caught.suite (c : Caught X pins a cls d σ H s) (hf : X.env.frame = some X.env.locals) : ∃ oe vs, s.heap.get? a = some oe ∧ Zc cls d oe ∧ oe.data = .fields vs ∧ Inv (X.suite a ((a, oe) :: (X.pn ++ pins))) [] σ H s := by
  have J := c.inv
  obtain ⟨na, B, g, _, _, _, fl, _⟩ := c
  obtain ⟨oe, vs, he, hz, hd⟩ := fl.there
  have off : a ∉ frs (X.env :: X.outer) := fun m => by
    obtain ⟨_, o, ho, no⟩ := fl.2.2.1.mem m
    cases he.symm.trans ho
    exact no _ hd
  refine ⟨oe, vs, he, hz, hd, J.suite he hd na (fun z => off (List.mem_filterMap.mpr ⟨_, List.mem_cons_self, by rw [hf, z]⟩)) fun m => off ?_⟩
  obtain ⟨e, h1, h2⟩ := List.mem_filterMap.mp m
  exact List.mem_filterMap.mpr ⟨e, List.mem_cons_of_mem _ h1, h2⟩
/-- it comes down into the frame of the try -/
theorem caught_of {W : WX} {xe : Value → Shared → Prop} {u : Value} {E : Value → Shared → Prop} (hs : X.stack = X.env :: X.outer) (hf : X.env.frame = some X.env.locals) (ok : X.Ok) (x : XE (X.tr (X.pn ++ pins) xe) W u s) {R : Unit → Shared → Prop}
    (k : ∀ a cls d σ H s', u = .ref a → W cls d σ H → Caught X pins a cls d σ H s' → R () s') :
    wpAny (model X.prog X.w) X.A (noteFrame u X.env) (fun _ s2 => wpAny (model X.prog X.w) X.A (setFlight u none) R E s2) E s := by
  obtain ⟨a, B, g, pn', σ, H, cls, d, rfl, J, nb, up, sky, na, os, ag, w⟩ := x
  have fr : X.A.frames = some (X.env :: X.outer) := by rw [ok.frames, hs]
  have sky' : Sky B (X.env :: X.outer) a (Zc cls d) X.env.locals s.heap := hs ▸ sky
  exact Sky.land Zc.steady fr hf sky' fun h3 fl up3 => k a cls d σ H _ rfl w ⟨na, B, g, J.ofTry ok, nb, up.trans up3, fl, os, ag⟩
/-- the clause 'except x as n', the first one, x a class that the exception is of -/
theorem clause_first {x n : Str} {c : Value} {i : Nat} {b₀ : Stmt} {suite : List Stmt} {np pos' : Pos} {rest : List ExceptHandler} {D : Ends} {ts : TS} (hs : X.stack = X.env :: X.outer) (hf : X.env.frame = some X.env.locals) (hN : X.N.Nodup) (hi : X.N[i]? = some n) (hln : X.env.kindOf n = some .local) (hc : Names X x c) (ct : Caught X pins a cls d σ H s)
    (hm : PySem.W.exmOne X.K cls c = some true) (hsu : ∀ (oe : Obj) (pn : List (Addr × Obj)), Zc cls d oe → (∃ vs, oe.data = .fields vs) → PSs (X.suite a ((a, oe) :: pn)) (b₀ :: suite) ts)
    (h : ts { nx := fun σ' H' => D.nx (σ'.set i none) H', rt := D.rt, bk := fun σ' H' => D.bk (σ'.set i none) H', ct := fun σ' H' => D.ct (σ'.set i none) H' } (σ.set i (some (.ref a))) H) :
    wpAny (model X.prog X.w) X.A (handleBy (.ref a) X.env (.ExceptHandler (some (.Name x np)) (some n) (b₀ :: suite) pos' :: rest)) (SP X pins D) X.xe s := by
  have ok := ct.inv.ok
  obtain ⟨oe, _, he, hz, _, S⟩ := ct.suite hf
  have isA : PySem.W.Looks (model X.prog X.w) s.heap (typeOf (.ref a)) cls := fun _ _ _ _ k q => wpAny_typeOf_ref (k _ _ he) (by rw [hz.1]; exact q)
  have yes := PySem.W.exm_one (M := model X.prog X.w) ct.inv.kIn isA hm
  refine wpAny_handleBy_cons (codeAny_handlers_test ?_) (fun q => by cases q)
  have look : ∀ {R : Value → Shared → Prop} {E : Value → Shared → Prop}, R c s → wpAny (model X.prog X.w) (X.A.mark (some (.ref a))) (eval (.Name x np) X.env) R E s := fun {R E} q => by
    rcases hc with ⟨g1, g2, g3 | ⟨g3, g4, g5⟩⟩
    · exact ld_glob (X := X.suite a ((a, oe) :: (X.pn ++ pins))) S g1 g3 q g2
    · exact ld_blt (X := X.suite a ((a, oe) :: (X.pn ++ pins))) S g1 g3 g4 q g5 g2
  refine look (yes.here (codeAny_handlers_suite_as ?_))
  have back := ct
  obtain ⟨na, B, g, J, nb, up, fl, os, ag⟩ := back
  refine HandSPX.lands_againZ fl fun h4 fl4 up4 => ?_
  have ct4 : Caught X pins a cls d σ H { s with heap := h4 } := ⟨na, B, g, J, nb, up.trans up4, fl4, os, ag⟩
  obtain ⟨oe4, vs4, he4, hz4, hd4, S4⟩ := ct4.suite hf
  refine store_ok (X := X.suite a ((a, oe4) :: (X.pn ++ pins))) (v := .ref a) S4 hN hi (.inl hln) rfl (fun s5 S5 => ?_) (.inr hln)
  refine wpAny_mono ((hsu oe4 (X.pn ++ pins) hz4 ⟨_, hd4⟩).run [] s5 _ H _ S5 h) (fun f s6 z => ?_) fun _ _ z => z.elim
  cases f with
  | ret u =>
    obtain ⟨v, σ6, H6, S6, r6, q6⟩ := z
    exact gone_ok (S6.unsuite ok) hN hi hln fun s7 J7 => ⟨v, _, _, J7, r6, q6⟩
  | _ =>
    obtain ⟨σ6, H6, S6, q6⟩ := z
    exact gone_ok (S6.unsuite ok) hN hi hln fun s7 J7 => ⟨_, _, J7, q6⟩
/-- what is wished for: it is of the first clause's class, and its suite does the rest -/
def wFirst (K : PySem.W.Frag) (c : Value) (i : Nat) (ts : Addr → Value → Option Addr → TS) (D : Ends) : WX := fun cls d σ H => PySem.W.exmOne K cls c = some true ∧ (i < σ.length →
  ∀ a, H a = none → ts a cls d { nx := fun σ' H' => D.nx (σ'.set i none) H', rt := D.rt, bk := fun σ' H' => D.bk (σ'.set i none) H', ct := fun σ' H' => D.ct (σ'.set i none) H' } (σ.set i (some (.ref a))) H)
theorem ps_try_first {x n : Str} {c : Value} {i : Nat} {body suite : List Stmt} {b₀ : Stmt} {np pos pos' : Pos} {rest : List ExceptHandler} {tb : WX → TS} {ts : Addr → Value → Option Addr → TS} (hs : X.stack = X.env :: X.outer) (hf : X.env.frame = some X.env.locals) (hN : X.N.Nodup) (hi : X.N[i]? = some n) (hln : X.env.kindOf n = some .local) (hc : Names X x c)
    (hb : ∀ (W : WX) (pn : List (Addr × Obj)) (xe : Value → Shared → Prop), Takes (X.tr pn xe) W → PSs (X.tr pn xe) body (tb W))
    (hsu : ∀ (a : Addr) (oe : Obj) (cls : Value) (d : Option Addr) (pn : List (Addr × Obj)), Zc cls d oe → (∃ vs, oe.data = .fields vs) → PSs (X.suite a ((a, oe) :: pn)) (b₀ :: suite) (ts a cls d)) :
    PS X (.Try body (.ExceptHandler (some (.Name x np)) (some n) (b₀ :: suite) pos' :: rest) [] [] pos) (fun D σ H => tb (wFirst X.K c i ts D) D σ H) := by
  constructor
  intro pins s σ H D I h
  have ok := I.ok
  have run := (hb (wFirst X.K c i ts D) (X.pn ++ pins) (fun e s₁ => wpAny (model X.prog X.w) X.A (noteFrame e X.env) (fun _ s₂ => wpAny (model X.prog X.w) X.A (setFlight e none) (fun _ s₃ => wpAny (model X.prog X.w) X.A (handleBy e X.env (.ExceptHandler (some (.Name x np)) (some n) (b₀ :: suite) pos' :: rest)) (SP X pins D) X.xe s₃) X.xe s₂) X.xe s₁)
    (fun u s' z => caught_of hs hf ok z fun a cls d σ1 H1 s3 eu w ct => by
      subst eu
      exact clause_first hs hf hN hi hln hc ct w.1 (fun oe pn => hsu a oe cls d pn) (w.2 (by rw [ct.inv.len]; exact (List.getElem?_eq_some_iff.mp hi).1) a ct.1))).run [] s σ H D (I.toTry _) h
  refine wpAny_Try_except (wpAny_mono run (fun f s1 z => ?_) fun _ _ z => z)
  cases f with
  | next =>
    obtain ⟨σ', H', J, q⟩ := z
    exact wpAny_execs_nil ⟨σ', H', J.ofTry ok, q⟩
  | ret u =>
    obtain ⟨v, σ', H', J, r, q⟩ := z
    exact ⟨v, σ', H', J.ofTry ok, r, q⟩
  | _ =>
    obtain ⟨σ', H', J, q⟩ := z
    exact ⟨σ', H', J.ofTry ok, q⟩
end
end Ip
end
section
set_option Elab.async false
set_option linter.all false
set_option maxRecDepth 100000
set_option maxHeartbeats 4000000
set_option autoImplicit false
namespace Ip
open PySem PySem.Spec PyProof.Rows L2
structure FnP (P : Program) (w : World) (K : PySem.W.Frag) (mg : Str → Option Value) (base : Heap) (k : Nat) (f : Addr) (fd : FuncData) (ps : List Str) (sp : Addr × Obj → Sp) : Prop where
  len : ∀ p vs H Q E, sp p vs H Q E → vs.length = ps.length
  run : ∀ (A : Around) (outer : List Env) (s : Shared) (H : Hp) (args : Args) (us : List Value) (vs : List V) (Q : VK) (E : XK) (p : Addr × Obj), L2H.RoomH k A → L2H.PinOk outer H s p → Env0 P w K mg base A outer s H → BindsTo s fd args (ps.zip us) → Vals vs us → sp p vs H Q E →
    codeAny (model P w) A (.call (.ref f) args) (CR CX0 outer P w H s Q E) s
theorem fnP_of {P : Program} {w : World} {K : PySem.W.Frag} {mg : Str → Option Value} {base : Heap} {k : Nat} {f : Addr} {x qual : Str} {st : Stmt} {fd : FuncData} {N ps : List Str} {sp : Addr × Obj → Sp} (F : Fun K x qual st f fd) (S : FnScope N ps (defScope st))
    (len : ∀ p vs H Q E, sp p vs H Q E → vs.length = ps.length)
    (hbody : ∀ (cdv : Value) (A : Around) (outer : List Env) (s : Shared) (H : Hp) (vs : List V) (Q : VK) (E : XK) (p : Addr × Obj), L2H.RoomH k (A.deeper (envOfC qual (defScope st) s.heap.objs.size f cdv)) → sp p vs H Q E →
      ∃ t, PSs (L2H.cxH CX0 P w K mg base N qual (defScope st) f cdv A outer s H E p) (defBody st) t ∧ t { nx := fun _ H' => Q .non H', rt := Q } (L2.start N vs) H) :
    FnP P w K mg base (k + 1) f fd ps sp := by
  obtain ⟨_, _, _, _, _, _, cdv, _, _, rfl, text, code⟩ := F.ex
  constructor
  · exact len
  intro A outer s H args us vs Q E p room pin e0 bound rv h
  have stay := fun b o e => (e0.bs b o e).1
  have frag := e0.mod.kin.keeps stay
  have kinds : ∀ y ∈ ps.zip us, (defScope st).names.lookup y.1 = some .local ∨ ((defScope st).names.lookup y.1 = some .cell ∧ ((cellsFrom (s.heap.objs.size + 1) (defScope st).names []).lookup y.1).isSome = true) := by
    rintro ⟨n, v⟩ hy
    exact (S.par n (List.of_mem_zip hy).1).imp id fun c => ⟨c, PySem.W.cellsFrom_some _ _ _ (.inl c)⟩
  refine codeAny_call_function room.depth (frag _ _ text) rfl S.co S.gen rfl (PySem.W.codeRec_of frag code) (bound _ _ _ _ (wpAny_newFunctionEnv_cells S.kind kinds ?_))
  rintro _ rfl s1 entered
  obtain ⟨t, body, q⟩ := hbody cdv A outer s H vs Q E p (room.deeper _) h
  have I0 := L2H.inv_startH (CX := CX0) (N := N) (E := E) S pin e0 (len _ _ _ _ _ h) rv entered
  refine ⟨(e0.mod.nolimit.keeps stay).keeps entered.toInCall.keep, codeAny_func (wpAny_mono (body.run [] s1 _ H _ I0 q) (fun fl s' z => ?_) fun _ _ z => z)⟩
  cases fl with
  | ret u =>
    obtain ⟨v, _, H', J, r, q'⟩ := z
    exact ⟨v, H', J.os, J.bare, J.base, J.hok, r, q'⟩
  | next =>
    obtain ⟨_, H', J, q'⟩ := z
    exact ⟨V.non, H', J.os, J.bare, J.base, J.hok, rfl, q'⟩
  | _ =>
    obtain ⟨_, _, _, q'⟩ := z
    exact q'.elim
section
variable {X : Cx}
theorem pin_ok {pins : List (Addr × Obj)} {σ : L2.St} {H : Hp} {s : Shared} {p : Addr × Obj} (I : Inv X pins σ H s) (hp : p ∈ X.pn) : L2H.PinOk X.stack H s p := by
  obtain ⟨h1, h2, h3, h4, h5⟩ := I.pin p (List.mem_append_left _ hp)
  refine ⟨h1, h2, fun m => ?_, h5⟩
  rcases List.mem_cons.mp (I.stkSub p.1 m) with z | z
  · exact h3 z
  · exact h4 z
theorem pe_callP {k : Nat} {f : Addr} {fd : FuncData} {ps : List Str} {sp : Addr × Obj → Sp} {x : Str} {q pos : Pos} {e : Expr} {es : List Expr} {t : TA} {p : Addr × Obj} (hp : p ∈ X.pn) (F : FnP X.prog X.w X.K X.mg X.base k f fd ps sp) (hr : L2H.RoomH k X.A) (hg : Gl X x) (hm : X.mg x = some (.ref f)) (hk : PySem.W.keepIn X.K (.ref f) = true) (hb : Binds X.K fd ps [])
    (ha : PA X (e :: es) t) (hdb : (x == ("__debug__" : Str)) = false := by decide) (he : starEach (e :: es) X.env = (false, eval e X.env) :: starEach es X.env := by rfl) (hpl : (backTo pos (starEach es X.env)).any (·.1) = false := by rfl) :
    PE X (.Call (.Name x q) (e :: es) [] pos) (fun σ H Q => t σ H fun vs H1 => sp p vs H1 Q E0) := by
  constructor
  intro pins s σ H Q I h
  refine wpAny_Call_Name_kw (ld_glob I hg hm (PySem.W.callWith_K (h₀ := X.base) I.ok.mod.kin hk (thn (ha.run pos pins s σ H _ I h) ?_) he hpl) hdb)
  rintro us s1 ⟨vs, H1, I1, r, z⟩
  have bound := hb s1 us I1.kIn (by rw [List.append_nil, ← r.length]; exact F.len _ _ _ _ _ z)
  rw [List.append_nil] at bound
  refine ⟨I1.kIn, wpAny_call (codeAny_mono (F.run X.A X.stack s1 H1 ⟨us, []⟩ us vs Q E0 p hr (pin_ok I1 hp) I1.env0 bound r z) ?_)⟩
  rintro (er | fl) s' y
  · exact (show False from y).elim
  · cases fl with
    | ret u => exact I1.after y
    | _ => exact y.elim
/-- e.n of the exception that is handled -/
theorem pe_xfP {C : Addr} {d : Option Addr} {p : Addr × Obj} {e : Expr} {te : TE} {pos : Pos} {n : Str} (hp : p ∈ X.pn) (T : XfC X.K C) (hno : PySem.W.findIn X.K (.ref C) n = some none)
    (hz : Zc (.ref C) d p.2) (hf : ∃ vs, p.2.data = .fields vs) (he : PE X e te) (hb : attributeBase e n X.env (eval e X.env) = eval e X.env := by rfl) :
    PE X (.Attribute e n pos) (tXf p.1 (.ref C) d C n te) := by
  constructor
  intro pins s σ H Q I h
  refine attr_of hb (thn (he.run pins s σ H _ I h) ?_)
  rintro u s1 ⟨_, H1, I1, ru, rfl, _, dd, fs, v, rfl, xd, l, q⟩
  cases ru
  have ⟨mA, ns, rel⟩ : ObjOk X.prog X.w H1 s1.heap dd (.xd fs) := I1.hok dd _ xd
  obtain ⟨od, ho, hl⟩ := lookIn_ns ns
  have rn := rel n
  rw [l] at rn
  obtain ⟨u, hu, ru⟩ := RelO.some_of rn
  obtain ⟨_, data⟩ := hf
  have it : PySem.W.InstAt s1.heap p.1 p.2 C (some od) := ⟨(pin_ok I1 hp).get, hz.1, by unfold PySem.W.notCls; rw [data], by rw [hz.2]; exact ho⟩
  exact HandSPX.exc_get I1.kIn it T.ga T.gg T.exC (PySem.W.findObj_own T.hdC hno rfl (by rw [hl, hu])) (handed_of ru) ⟨v, H1, I1.tok _, ru, q⟩
end
def xNames : List Str := ["word", "number", "at", "name", "cell", "most", "label", "other"]
structure XcC (K : PySem.W.Frag) (C : Addr) : Prop where
  xf : XfC K C
  no : ∀ n ∈ xNames, PySem.W.findIn K (.ref C) n = some none
def Exn.at (e : Exn) (n : Str) : Option D := (e.ks.zip e.vs).lookup n
def fieldD (e : Exn) (w : Str) : Option D :=
  if w = "BadRow" ∨ w = "BadCount" then e.at "number"
  else if w = "BadPieces" ∨ w = "BadCommand" ∨ w = "BadDeed" ∨ w = "BadText" then e.at "at"
  else if w = "BadName" ∨ w = "Taken" then e.at "name"
  else if w = "Gone" ∨ w = "Ring" then e.at "cell"
  else if w = "TooManyPieces" ∨ w = "Full" then e.at "most"
  else if w = "Clash" then match e.at "label", e.at "other" with
    | some a, some b => some (.tup [a, b])
    | _, _ => none
  else some .non
/-- what stands of an exception in the heap -/
structure ExS (G : Gx) (H : Hp) (ρ : Rho) (M : Sto) (e : Exn) (dd : Addr) (us : List V) : Prop where
  rs : RS G H ρ M
  xd : H dd = some (.xd (e.ks.zip us))
  no : dd ∉ ρ
  len : e.ks.length = us.length
  rv : RVs G H ρ e.vs us
theorem zip_look {G : Gx} {H : Hp} {ρ : Rho} : ∀ {ks : List Str} {ds : List D} {us : List V} {n : Str} {d : D}, RVs G H ρ ds us → (ks.zip ds).lookup n = some d → ∃ v, (ks.zip us).lookup n = some v ∧ RV G H ρ d v
  | [], _, _, _, _, _, h => by simp at h
  | _ :: _, [], _, _, _, .nil, h => by simp at h
  | k :: ks, d0 :: ds, u :: us, n, d, .cons r rs, h => by
    simp only [List.zip_cons_cons, List.lookup] at h ⊢
    split at h
    · cases h; exact ⟨u, rfl, r⟩
    · exact zip_look rs h
theorem ExS.at {G : Gx} {H : Hp} {ρ : Rho} {M : Sto} {e : Exn} {dd : Addr} {us : List V} (x : ExS G H ρ M e dd us) {n : Str} {d : D} (h : e.at n = some d) : ∃ v, (e.ks.zip us).lookup n = some v ∧ RV G H ρ d v := zip_look x.rv h
theorem ExS.new {G : Gx} {H : Hp} {ρ : Rho} {M : Sto} {e : Exn} {dd : Addr} {us : List V} (x : ExS G H ρ M e dd us) {p : Addr} {o : HO} (hp : H p = none) : ExS G (upd H p o) ρ M e dd us :=
  ⟨x.rs.new hp, by rw [upd_ne (ne_of_none x.xd hp)]; exact x.xd, x.no, x.len, x.rv.mono (Ext.new x.rs hp)⟩
def spF (G : Gx) (p : Addr × Obj) : Sp := fun vs H Q _ => ∃ (C dd : Addr) (e : Exn) (us : List V) (ρ : Rho) (M : Sto) (w : Str) (d : D), vs = [.ref p.1] ∧ Zc (.ref C) (some dd) p.2 ∧ (∃ vs, p.2.data = .fields vs) ∧ XcC G.K C ∧ ExS G H ρ M e dd us ∧ e.at "word" = some (.str w) ∧ fieldD e w = some d ∧ oP G H ρ Q d M
def tStrs : List Str → TA
  | [] => tNil
  | w :: ws => tCons (tC (.str w)) (tStrs ws)
theorem strs_q : ∀ (ws : List Str) {σ : L2.St} {H : Hp} {Q : List V → Hp → Prop}, Q (ws.map V.str) H → tStrs ws σ H Q
  | [], _, _, _, h => h
  | w :: ws, σ, H, Q, h => strs_q ws (Q := fun xs H2 => Q (.str w :: xs) H2) h
theorem in_strs (w : Str) : ∀ ws : List Str, inV (.str w) (ws.map V.str) = decide (w ∈ ws)
  | [] => rfl
  | x :: ws => by
    have := in_strs w ws
    unfold inV at this ⊢
    rw [List.map_cons, List.any_cons, this]
    simp only [eqV, List.mem_cons]
    by_cases h : w = x
    · subst h; simp
    · have : (x == w) = false := by simpa using Ne.symm h
      simp [h, this]
theorem flat_strs : ∀ ws : List Str, (ws.map V.str).all flatV = true
  | [] => rfl
  | x :: ws => by rw [List.map_cons, List.all_cons, flat_strs ws]; rfl
/-- e.word in (..) -/
theorem in_q {K : PySem.W.Frag} {a C dd : Addr} {H : Hp} {fs : List (Str × V)} {wd : Str} (ws : List Str) {σ : L2.St} {Q : Bool → Hp → Prop} (h0 : σ[0]? = some (some (.ref a))) (hx : H dd = some (.xd fs)) (hl : fs.lookup (Str.ofString "word") = some (V.str wd)) (hz : ws.length ≤ 100) (h : ∀ q, H q = none → Q (decide (wd ∈ ws)) (upd H q (.tup (ws.map V.str)))) :
    tOp (rIn K false) (tXf a (.ref C) (some dd) C "word" (tVar 0)) (tTup (tStrs ws)) σ H fun x H' => ∃ k, x = .bl k ∧ Q k H' := by
  refine ⟨.ref a, h0, rfl, rfl, dd, fs, .str wd, rfl, hx, hl, strs_q ws ⟨by rw [List.length_map]; exact line_of (by omega), fun q hq => ⟨q, _, rfl, .inr (SqT.of upd_same), rfl, flat_strs ws, ?_⟩⟩⟩
  rw [if_neg (by decide), in_strs]
  exact ⟨_, rfl, h q hq⟩
/-- e.n -/
theorem xf_qi {a C dd : Addr} {n : Str} {H : Hp} {fs : List (Str × V)} {v : V} {i : Nat} {σ : L2.St} {Q : VK} (h0 : σ[i]? = some (some (.ref a))) (hx : H dd = some (.xd fs)) (hl : fs.lookup n = some v) (h : Q v H) : tXf a (.ref C) (some dd) C n (tVar i) σ H Q :=
  ⟨.ref a, h0, rfl, rfl, dd, fs, v, rfl, hx, hl, h⟩
theorem xf_q {a C dd : Addr} {n : Str} {H : Hp} {fs : List (Str × V)} {v : V} {σ : L2.St} {Q : VK} (h0 : σ[0]? = some (some (.ref a))) (hx : H dd = some (.xd fs)) (hl : fs.lookup n = some v) (h : Q v H) : tXf a (.ref C) (some dd) C n (tVar 0) σ H Q :=
  ⟨.ref a, h0, rfl, rfl, dd, fs, v, rfl, hx, hl, h⟩
/-- the promise of what is told of an error under the base class -/
def EchT (G : Gx) (SE : Addr) (Q : VK) : XK := fun cls d H => ∃ (C dd : Addr) (e : Exn) (us : List V) (ρ : Rho) (M : Sto) (w : Str) (d' : D), cls = .ref C ∧ d = some dd ∧ XcC G.K C ∧ PySem.W.exmOne G.K (.ref C) (.ref SE) = some true ∧ ExS G H ρ M e dd us ∧ e.at "word" = some (.str w) ∧ fieldD e w = some d' ∧ oP G H ρ Q (.tup [.str w, d']) M
def TTold2 (G : Gx) (SE : Addr) : (XK → Hp → VK → Prop) → Hp → VK → Prop := fun tl H Q => tl (EchT G SE Q) H fun v H1 => [V.str "told", v].length ≤ sizeLine ∧ ∀ p, H1 p = none → Q (.ref p) (upd H1 p (.tup [.str "told", v]))
def dTold (errs : List Str) (fe : DE) : DE := fun env M => match fe env M with
  | .ok d M1 => .ok (.tup [.str "told", d]) M1
  | .exc e _ M1 => if e.c ∈ errs then match e.at "word" with
      | some (.str w) => match fieldD e w with
        | some d => .ok (.tup [.str w, d]) M1
        | none => .bad
      | _ => .bad
    else .bad
  | .bad => .bad
theorem ext_of_N {G : Gx} {H H1 : Hp} {ρ : Rho} {M : Sto} (S : RS G H ρ M) (e : LamX.ExtN H H1) (tb : TabR G H1) : Ext G H ρ H1 ρ ∧ RS G H1 ρ M := by
  have hk : ∀ a, a ∈ ρ → H1 a = H a := fun a ha => by
    obtain ⟨o, ho, co⟩ := S.has ha
    rw [ho]
    exact e a o ho co.tbl
  have ex : Ext G H ρ H1 ρ := ⟨fun _ _ h => h, rfl, fun a ha => hk a (.inr ha), fun a xs h => by
    obtain ⟨h, h2⟩ := h
    refine ⟨?_, fun z => e _ _ (h2 z) (fun _ z => by cases z)⟩
    rcases h with (h | ⟨q, h⟩) | h
    · exact .inl (.inl (e _ _ h (fun _ z => by cases z)))
    · exact .inl (.inr ⟨q, e _ _ h (fun _ z => by cases z)⟩)
    · exact .inr h, fun a o n nt h => ⟨e a o h nt, n⟩⟩
  exact ⟨ex, S.ext ex (fun a ha => hk a (.inl ha)) tb⟩
/-- the lambda's reading, told -/
theorem told_q {X : Cx} {cl : Str → Option Addr} {W : WX} {errs : List Str} {fe : DE} {T : List (Addr × Str)} {SE : Addr} (hT : ∀ q P, lamQ q = true → cl q = some P → (P, q) ∈ T) (hT' : ∀ p ∈ T, lamQ p.2 = true ∧ cl p.2 = some p.1)
    (hX : ∀ c ∈ errs, ∀ C, cl c = some C → XcC X.K C ∧ PySem.W.exmOne X.K (.ref C) (.ref SE) = some true) {σ : L2.St} {H : Hp} {Q : VK} (h : dE (gx X cl) W (dTold errs fe) σ H Q) :
    LamX.tLam T (TTold2 (gx X cl) SE) (fun E => dE (gx X cl) (WC E) fe) σ H Q := by
  obtain ⟨ρ, env, M, hE, hS, h⟩ := h
  refine ⟨fun p hp => hS.tb p.2 p.1 (hT' p hp).1 (hT' p hp).2, fun H1 eN T1 => ?_⟩
  obtain ⟨ex, S1⟩ := ext_of_N hS eN (fun q P hq hc => T1 _ (hT q P hq hc))
  refine ⟨ρ, env, M, hE.mono ex, S1, ?_⟩
  unfold dTold at h
  cases hf : fe env M with
  | bad => rw [hf] at h; exact h.elim
  | ok d M1 =>
    rw [hf] at h
    have h : oP (gx X cl) H ρ Q (.tup [.str "told", d]) M1 := h
    refine fun ρ2 v H2 x2 S2 r2 => ⟨line_of (by simp), fun p hp => ?_⟩
    have en := Ext.new (o := .tup [.str "told", v]) S2 hp
    exact h ρ2 (.ref p) _ (ex.trans (x2.trans en)) (S2.new hp) (.tup (TpA.of upd_same) (.two (.str _) (r2.mono en)))
  | exc e ev M1 =>
    rw [hf] at h
    simp only at h
    split at h
    · rename_i hc
      split at h
      · rename_i w hw
        split at h
        · rename_i d hd
          intro ρ' H' σ' C dd vs a b c hC hxd nd hl rv
          obtain ⟨k1, k2⟩ := hX e.c hc C hC
          exact ⟨C, dd, e, vs, ρ', M1, w, d, rfl, rfl, k1, k2, ⟨b, hxd, nd, hl, rv⟩, hw, hd, oP.sh (ex.trans a) h⟩
        · exact h.elim
      · exact h.elim
    · exact h.elim
end Ip
end
section
set_option Elab.async false
set_option linter.all false
set_option maxRecDepth 100000
set_option maxHeartbeats 4000000
set_option autoImplicit false
namespace Ip
open PySem PySem.Spec PyProof.Rows L2
structure FunC (K : PySem.W.Frag) (x qual : Str) (st : Stmt) (f : Addr) (fd : FuncData) (c : Value) : Prop where
  ex : ∃ (oc : Value) (od : Option Addr) (kV doc pm : Value) (an : Option Addr) (ct : Value) (osl : Array (Option Value)), fd = PySem.W.fnOf x qual (defArgs st) (defBody st) (defScope st) .none kV doc pm an c ct ∧
    K.lookup f = some ⟨oc, od, .func (PySem.W.fnOf x qual (defArgs st) (defBody st) (defScope st) .none kV doc pm an c ct), osl⟩ ∧ PySem.W.codeIn K c qual = true
theorem fnokC {P : Program} {w : World} {K : PySem.W.Frag} {mg : Str → Option Value} {base : Heap} {cl : Str → Option Addr} {x qual : Str} {st : Stmt} {f : Addr} {fd : FuncData} {c : Value} {N ps : List Str} {k : Nat} {fb : DS} (F : FunC K x qual st f fd c) (S : FnScope N ps (defScope st))
    (hb : ∀ (A : Around) (outer : List Env) (s : Shared) (H : Hp) (E : XK), Room k (A.deeper (envOfC qual (defScope st) s.heap.objs.size f c)) → SSs (cxOf CX0 P w K mg base N qual (defScope st) f c A outer s H E).nox cl W0 (defBody st) fb) :
    FnOk P w K mg base CX0 (k + 1) f fd ps (spD ⟨K, cl⟩ (runF N.length ps.length fb)) := by
  obtain ⟨oc, od, kV, doc, pm, an, ct, osl, rfl, lk, hcd⟩ := F.ex
  refine fn_of lk hcd S (fun vs H Q E ⟨ρ, M, ds, hS, r, h⟩ => by rw [r.length]; exact (runF_len h).1) fun A outer s H vs Q E hr ⟨ρ, M, ds, hS, r, h⟩ => ⟨_, (hb A outer s H E hr).nox, ?_⟩
  obtain ⟨hl, h⟩ := runF_len h
  rw [← hl] at h
  refine ⟨ρ, _, M, RE.start (N := N) r, hS, (post_bind h).imp (fun fl M1 hx => ?_) (fun _ _ _ z => z.elim)⟩
  cases fl with
  | nx env => exact fun ρ1 σ1 H1 e1 S1 E1 => hx ρ1 .non H1 e1 S1 .non
  | rt d => exact hx
  | bk env => exact hx.elim
  | ct env => exact hx.elim
theorem xcC_mk {K : PySem.W.Frag} {C : Addr} (ga : PySem.W.findIn K (.ref C) "__getattribute__" = some (some (.builtin "BaseException.__getattribute__"))) (gg : PySem.W.findIn K (.ref C) "__getattr__" = some none) (ex : PySem.W.subIn K (.ref C) (.type "BaseException") = some true) (hd : PySem.W.hasDictIn K C = true)
    (n1 : PySem.W.findIn K (.ref C) "word" = some none) (n2 : PySem.W.findIn K (.ref C) "number" = some none) (n3 : PySem.W.findIn K (.ref C) "at" = some none) (n4 : PySem.W.findIn K (.ref C) "name" = some none) (n5 : PySem.W.findIn K (.ref C) "cell" = some none) (n6 : PySem.W.findIn K (.ref C) "most" = some none) (n7 : PySem.W.findIn K (.ref C) "label" = some none) (n8 : PySem.W.findIn K (.ref C) "other" = some none) : XcC K C :=
  ⟨⟨ga, gg, ex, hd⟩, fun n hn => by
    simp only [xNames, List.mem_cons, List.not_mem_nil, or_false] at hn
    rcases hn with rfl | rfl | rfl | rfl | rfl | rfl | rfl | rfl
    · exact n1
    · exact n2
    · exact n3
    · exact n4
    · exact n5
    · exact n6
    · exact n7
    · exact n8⟩
theorem exm_mk {K : PySem.W.Frag} {C B : Addr} {x : ClassData} (sb : PySem.W.subIn K (.ref B) (.type "BaseException") = some true) (k : PySem.W.clsIn K B = some x) (ty : PySem.W.typeIn K (.ref B) = some (.type "type")) (su : PySem.W.subIn K (.ref C) (.ref B) = some true) : PySem.W.exmOne K (.ref C) (.ref B) = some true := by
  unfold PySem.W.exmOne PySem.W.kitCls
  rw [if_pos (by rw [sb]; rfl)]
  simp only
  rw [if_pos (by rw [k, ty]; rfl), su]
theorem codeHd_mk {K : PySem.W.Frag} {h : Heap} {c P : Addr} {o : Obj} (X : K.In h) (e : K.lookup c = some o) (q : PySem.W.codeHdIn [(c, o)] c P = true) : PySem.W.CodeHd h c P := by
  refine PySem.W.codeHd_of_K (K := [(c, o)]) (fun a o' z => ?_) q
  simp only [List.lookup] at z
  split at z
  · rename_i q; cases z; rw [beq_iff_eq.mp q]; exact X _ _ e
  · cases z
def okInt : V → Hp → Prop := fun v _ => ∃ i : Int, v = .int i ∧ i.natAbs.log2 < 1920
def okIntD : D → Bool
  | .int i => decide (i.natAbs.log2 < 1920)
  | _ => false
theorem okInt_of {G : Gx} {H : Hp} {ρ : Rho} {M : Sto} {d : D} {v : V} (_ : RS G H ρ M) (r : RV G H ρ d v) (h : okIntD d = true) : okInt v H := by
  cases r <;> simp only [okIntD, Bool.false_eq_true] at h
  exact ⟨_, rfl, of_decide_eq_true h⟩
theorem msg2 {a b : Str} (ha : a.length ≤ 1000) (hb : b.length ≤ 1921) : (a ++ b).length ≤ sizeLine := by
  rw [Str.length_append]
  exact line_of (by omega)
theorem msg3 {a b c : Str} (ha : a.length ≤ 1000) (hb : b.length ≤ 1921) (hc : c.length ≤ 1000) : (a ++ b ++ c).length ≤ sizeLine := by
  rw [Str.length_append, Str.length_append]
  exact line_of (by omega)
section
variable {X : Cx} {cl : Str → Option Addr} {W : WX}
theorem se_told {errs : List Str} {fe : DE} {st : Stmt} {g c P aE : Addr} {fd : FuncData} {cdv : Value} {k : Nat} {Tl : List (Addr × Str)} {params : Arguments} {body : Expr} {scope : Scope} {p lpos pos : Pos}
    (hm : X.mg "_law_told" = some (.ref g)) (hk : PySem.W.keepIn X.K (.ref g) = true) (F : FunC X.K "_law_told" "_law_told" st g fd cdv) (hb : Binds X.K fd ["_law_ask"] []) (Sg : FnScope ["_law_ask", "_law_e"] ["_law_ask"] (defScope st)) (hva : Vis (defScope st) "_law_ask")
    (hG : LamX.GivesTo X ["_law_ask", "_law_e"] "_law_told" (defScope st) g cdv (defBody st) "_law_ask" (X.env.qual ++ "<lambda>") (TTold2 (gx X cl) aE))
    (hX : ∀ c ∈ errs, ∀ C, cl c = some C → XcC X.K C ∧ PySem.W.exmOne X.K (.ref C) (.ref aE) = some true)
    (TB : LamX.TabB X.base X.mg c P) (hcode : X.env.code = .ref c) (hT : ∀ q P, lamQ q = true → cl q = some P → (P, q) ∈ Tl) (hT' : ∀ p ∈ Tl, lamQ p.2 = true ∧ cl p.2 = some p.1) (hmT : (P, X.env.qual ++ "<lambda>") ∈ Tl) (hu : ∀ p ∈ Tl, p.1 = P → p.2 = X.env.qual ++ "<lambda>")
    (hr : Room (k + 2) X.A) (hg : Gl X "_law_told") (L : LamX.LamS X.env.scope scope) (hdef : defaultsOf params X.env = ([], []))
    (hbind : ∀ (q : Str) (cl : List (Str × Addr)) (pm cv ctv : Value), bindArgs (PySem.W.kla_fn "<lambda>" q params body scope cl pm cv ctv) ⟨[], []⟩ = pure [])
    (hbody : ∀ (A : Around) (outer : List Env) (s : Shared) (H : Hp) (E : XK) (f c' : Addr), Room k (A.deeper (LamX.lamEnv X scope s.heap.objs.size f c')) → Takes (LamX.lamCx X A outer s H E scope f c') (WC E) → SE (LamX.lamCx X A outer s H E scope f c') cl (WC E) body fe) :
    SE X cl W (.Call (.Name "_law_told" p) [.Lambda params body scope lpos] [] pos) (dTold errs fe) := by
  obtain ⟨oc, od, kV, doc, pm, an, ct, osl, rfl, lk, hcd⟩ := F.ex
  exact PEweak (LamX.pe_lamcall (T := Tl) (k := k) (t := fun E => dE (gx X cl) (WC E) fe) hg hm hk lk hcd hb Sg rfl hva hG TB hcode hmT hu hr L hdef hbind (fun A outer s H E f c' h => hbody A outer s H E f c' h (takes_of rfl rfl rfl rfl))) fun σ H Q h => told_q hT hT' hX h
end
end Ip
end
section
set_option Elab.async false
set_option linter.all false
set_option maxRecDepth 100000
set_option maxHeartbeats 4000000
set_option autoImplicit false
namespace Ip
open PySem PySem.Spec PyProof.Rows L2
end Ip
end
section
set_option Elab.async false
set_option linter.all false
set_option maxRecDepth 100000
set_option maxHeartbeats 4000000
set_option autoImplicit false
namespace Ip
open PySem PySem.Spec PyProof.Rows L2
end Ip
end
section
set_option Elab.async false
set_option linter.all false
set_option maxRecDepth 100000
set_option maxHeartbeats 4000000
set_option autoImplicit false
namespace Ip
open PySem PySem.Spec PyProof.Rows L2
abbrev E3 (elt t0 i0 t1 i1 t2 i2 : Expr) (f0 f1 f2 : List Expr) (scope : Scope) (pos : Pos) : Expr := .ListComp elt [⟨t0, i0, f0, 0⟩, ⟨t1, i1, f1, 0⟩, ⟨t2, i2, f2, 0⟩] scope pos
end Ip
end
section
set_option Elab.async false
set_option linter.all false
set_option maxRecDepth 100000
set_option maxHeartbeats 4000000
set_option autoImplicit false
namespace Ip
open PySem PySem.Spec PyProof.Rows L2
end Ip
end
section
set_option Elab.async false
set_option linter.all false
set_option maxRecDepth 100000
set_option maxHeartbeats 4000000
set_option autoImplicit false
namespace Ip
open PySem PySem.Spec PyProof.Rows L2
theorem Mo.refl {G : Gx} {H : Hp} {ρ : Rho} : Mo G H ρ H ρ := ⟨fun _ _ h => h, fun _ _ h => h, fun _ _ h1 _ h2 => ⟨h2, h1⟩⟩
theorem Mo.trans {G : Gx} {H H1 H2 : Hp} {ρ ρ1 ρ2 : Rho} (a : Mo G H ρ H1 ρ1) (b : Mo G H1 ρ1 H2 ρ2) : Mo G H ρ H2 ρ2 :=
  ⟨fun n c h => b.pre n c (a.pre n c h), fun c xs h => b.tup c xs (a.tup c xs h), fun c o h1 h3 h2 => b.keep c o (a.keep c o h1 h3 h2).2 h3 (a.keep c o h1 h3 h2).1⟩
/-- while the list D is written -/
structure SD (G : Gx) (H1 : Hp) (ρ1 : Rho) (L : Addr) (H : Hp) (ρ : Rho) (M : Sto) (acc : List D) : Prop where
  t : ρ.t = L :: ρ1.t
  x : Ext G H1 ρ1 H ⟨ρ.c, ρ1.t⟩
  a : ∃ av, H L = some (.lst av) ∧ RVs G H ρ acc av
  s : RS G H ρ M
section
variable {G : Gx} {H1 H H' : Hp} {ρ1 ρ ρ' : Rho} {L : Addr} {M M' : Sto} {acc : List D}
theorem SD.inT (h : SD G H1 ρ1 L H ρ M acc) : L ∈ ρ.t := by rw [h.t]; exact List.mem_cons_self
theorem SD.ext (h0 : H1 L = none) (h : SD G H1 ρ1 L H ρ M acc) (x : Ext G H ρ H' ρ') (S' : RS G H' ρ' M') : SD G H1 ρ1 L H' ρ' M' acc := by
  refine ⟨x.res.trans h.t, ⟨fun n a z => x.pre n a (h.x.pre n a z), rfl, fun a z => (x.same a (by rw [h.t]; exact List.mem_cons_of_mem _ z)).trans (h.x.same a z), fun a xs z => x.tup a xs (h.x.tup a xs z), fun a o n nt z => ?_⟩, ?_, S'⟩
  · obtain ⟨k1, k2⟩ := h.x.keep a o n nt z
    have k3 : a ∉ ρ := fun w => by
      rcases w with w | w
      · exact k2 (.inl w)
      · rw [h.t] at w
        rcases List.mem_cons.mp w with w | w
        · rw [w, h0] at z; cases z
        · exact n (.inr w)
    obtain ⟨k4, k5⟩ := x.keep a o k3 nt k1
    exact ⟨k4, fun w => by
      rcases w with w | w
      · exact k5 (.inl w)
      · exact n (.inr w)⟩
  · obtain ⟨av, z, r⟩ := h.a
    exact ⟨av, (x.same L h.inT).trans z, r.mono x⟩
theorem SD.app (h0 : H1 L = none) (h1 : L ∉ ρ1) (h : SD G H1 ρ1 L H ρ M acc) {av : List V} (ha : H L = some (.lst av)) (r : RVs G H ρ acc av) {y : D} {v : V} (ry : RV G H ρ y v) :
    SD G H1 ρ1 L (upd H L (.lst (av ++ [v]))) ρ M (acc ++ [y]) ∧ Mo G H ρ (upd H L (.lst (av ++ [v]))) ρ := by
  have mo : Mo G H ρ (upd H L (.lst (av ++ [v]))) ρ := ⟨fun _ _ z => z, fun a xs z => tpA_upd z (fun u w => by rw [ha] at w; cases w; exact ⟨fun _ z => (by cases z), fun _ _ z => (by cases z)⟩), fun a o n nt z => ⟨by rw [upd_ne (fun w : a = L => n (by rw [w]; exact .inr h.inT))]; exact z, n⟩⟩
  refine ⟨⟨h.t, ⟨h.x.pre, rfl, fun a z => ?_, fun a xs z => mo.tup a xs (h.x.tup a xs z), fun a o n nt z => ?_⟩, ⟨_, upd_same, (r.append (.one ry)).mo mo⟩, ?_⟩, mo⟩
  · rw [upd_ne (fun w : a = L => h1 (by rw [← w]; exact .inr z))]
    exact h.x.same a z
  · obtain ⟨k1, k2⟩ := h.x.keep a o n nt z
    exact ⟨by rw [upd_ne (ne_of_none z h0)]; exact k1, k2⟩
  · refine ⟨h.s.len, h.s.nd, h.s.dis, fun a w => ?_, fun n c w => ?_, h.s.tb.keeps fun b u z nz => by rw [upd_ne (fun w : b = L => nz (by rw [w, ha] at z; cases z; exact .inl ⟨_, rfl⟩))]; exact z⟩
    · by_cases z : a = L
      · exact ⟨_, by rw [z]; exact upd_same, .inl ⟨_, rfl⟩⟩
      · rw [upd_ne z]; exact h.s.trt a w
    · obtain ⟨a, w1, w2⟩ := h.s.at_ n c w
      exact ⟨a, w1, w2.mo mo (upd_ne (fun z : a = L => h.s.dis a (List.mem_of_getElem? w1) (by rw [z]; exact h.inT)))⟩
end
end Ip
end
section
set_option Elab.async false
set_option linter.all false
set_option maxRecDepth 100000
set_option maxHeartbeats 4000000
set_option autoImplicit false
namespace Ip
open PySem PySem.Spec PyProof.Rows L2
end Ip
end
section
set_option Elab.async false
set_option linter.all false
set_option maxRecDepth 100000
set_option maxHeartbeats 4000000
set_option autoImplicit false
namespace Ip
open PySem PySem.Spec PyProof.Rows L2
/-- in order, each once -/
def insU (k : Int) : List Int → List Int
  | [] => [k]
  | x :: l => if k < x then k :: x :: l else if k = x then x :: l else x :: insU k l
def srt (ns : List Int) : List Int := ns.foldr insU []
section
variable {X : Cx} {cl : Str → Option Addr} {W : WX} {G : Gx}
def rSetL (K : PySem.W.Frag) (w : World) : List V → Hp → VK → Prop := fun xs H Q => ∃ (l : Addr) (ns : List Int), xs = [.ref l] ∧ SqL K H l (ns.map V.int) ∧ ns.length < 4000 ∧
  ∀ p c, H p = none → c ≤ (srt ns).length → Q (.ref p) (upd H p (SetO w p (fun j => decide (j ∈ ns)) c))
end
end Ip
end
section
set_option Elab.async false
set_option linter.all false
set_option maxRecDepth 100000
set_option maxHeartbeats 4000000
set_option autoImplicit false
namespace Ip
open PySem PyProof.Rows L2
section
variable {X : Cx} {cl : Str → Option Addr} {W : WX} {G : Gx}
def anyD (ds : List PyData) (d : PyData) : Bool := ds.any fun z => PyData.eqv z d
def rInT (K : PySem.W.Frag) (n : Bool) : R2 := fun x y H Q => ∃ d ds, Dp K H x d ∧ ((Dp K H y (.list ds) ∧ SeqAt.shaped (.list ds) = true) ∨ (Dp K H y (.tuple ds) ∧ SeqAt.shaped (.tuple ds) = true)) ∧ SeqAt.shaped d = true ∧ Q (.bl (if n then !anyD ds d else anyD ds d)) H
theorem op_inT (hu : X.A.units + 65 < cLine) : OpR X (compareOp .In) (rInT X.K false) := by
  intro pins s σ H x y v u Q I rx ry h
  obtain ⟨d, ds, hd, he, sd, q⟩ := h
  obtain ⟨as, r1⟩ := Dp.reads I d x v hd rx
  rcases he with ⟨he, se⟩ | ⟨he, se⟩
  · obtain ⟨bs, r2⟩ := Dp.reads I (.list ds) y u he ry
    exact SeqAt.in_list_reads r2 r1 (SeqAt.canLay_of_shaped se) (SeqAt.canLay_of_shaped sd) (room_in_shaped sd hu) ⟨.bl _, H, I, rfl, q⟩
  · obtain ⟨bs, r2⟩ := Dp.reads I (.tuple ds) y u he ry
    exact SeqAt.in_tuple_reads r2 r1 (SeqAt.canLay_of_shaped se) (SeqAt.canLay_of_shaped sd) (room_in_shaped sd hu) ⟨.bl _, H, I, rfl, q⟩
theorem op_notInT (hu : X.A.units + 65 < cLine) : OpR X (compareOp .NotIn) (rInT X.K true) := by
  intro pins s σ H x y v u Q I rx ry h
  obtain ⟨d, ds, hd, he, sd, q⟩ := h
  obtain ⟨as, r1⟩ := Dp.reads I d x v hd rx
  rcases he with ⟨he, se⟩ | ⟨he, se⟩
  · obtain ⟨bs, r2⟩ := Dp.reads I (.list ds) y u he ry
    exact SeqAt.notIn_list_reads r2 r1 (SeqAt.canLay_of_shaped se) (SeqAt.canLay_of_shaped sd) (room_in_shaped sd hu) ⟨.bl _, H, I, rfl, q⟩
  · obtain ⟨bs, r2⟩ := Dp.reads I (.tuple ds) y u he ry
    exact SeqAt.notIn_tuple_reads r2 r1 (SeqAt.canLay_of_shaped se) (SeqAt.canLay_of_shaped sd) (room_in_shaped sd hu) ⟨.bl _, H, I, rfl, q⟩
def inD (x y : D) (M : Sto) : Option Bool := match pyM x M, pyM y M with
  | some p, some (.list qs) => if SeqAt.shaped p && SeqAt.shaped (.list qs) then some (anyD qs p) else none
  | some p, some (.tuple qs) => if SeqAt.shaped p && SeqAt.shaped (.tuple qs) then some (anyD qs p) else none
  | _, _ => none
def gIn (n : Bool) : G2 := fun x y M => (inD x y M).map fun b => (.bl (if n then !b else b), M)
theorem inD_some {x y : D} {M : Sto} {b : Bool} (h : inD x y M = some b) : ∃ p qs, pyM x M = some p ∧ SeqAt.shaped p = true ∧ ((pyM y M = some (.list qs) ∧ SeqAt.shaped (.list qs) = true) ∨ (pyM y M = some (.tuple qs) ∧ SeqAt.shaped (.tuple qs) = true)) ∧ b = anyD qs p := by
  unfold inD at h
  split at h
  · rename_i p qs h1 h2
    split at h
    · rename_i hs
      rw [Bool.and_eq_true] at hs
      cases h
      exact ⟨p, qs, h1, hs.1, .inl ⟨h2, hs.2⟩, rfl⟩
    · cases h
  · rename_i p qs h1 h2
    split at h
    · rename_i hs
      rw [Bool.and_eq_true] at hs
      cases h
      exact ⟨p, qs, h1, hs.1, .inr ⟨h2, hs.2⟩, rfl⟩
    · cases h
  · cases h
theorem ops_in (n : Bool) : OpS G (rInT G.K n) (gIn n) := fun H ρ M x y dx dy d M' Q S rx ry e z => by
  unfold gIn at e
  cases hb : inD dx dy M with
  | none => rw [hb] at e; cases e
  | some b =>
    rw [hb] at e; cases e
    have hq := z ρ _ H .refl S (.bl _)
    obtain ⟨p, qs, h1, h2, h3, rfl⟩ := inD_some hb
    refine ⟨p, qs, pyM_ok S rx h1, ?_, h2, hq⟩
    rcases h3 with ⟨h3, h4⟩ | ⟨h3, h4⟩
    · exact .inl ⟨pyM_ok S ry h3, h4⟩
    · exact .inr ⟨pyM_ok S ry h3, h4⟩
theorem room_65 {k : Nat} (hr : Room k X.A) : X.A.units + 65 < cLine := by
  have := hr.un
  omega
variable {a b : Expr} {fa fb : DE} {pos : Pos}
theorem st_in {k : Nat} (hr : Room k X.A) (ha : SE X cl W a fa) (hb : SE X cl W b fb) (hm : behindInMarks .In b = false := by rfl) : ST X cl W (.Compare a [.In] [b] pos) (dB (dBin (gIn false) fa fb)) := st_cmp (op_inT (room_65 hr)) (ops_in false) ha hb hm
theorem st_notin {k : Nat} (hr : Room k X.A) (ha : SE X cl W a fa) (hb : SE X cl W b fb) (hm : behindInMarks .NotIn b = false := by rfl) : ST X cl W (.Compare a [.NotIn] [b] pos) (dB (dBin (gIn true) fa fb)) := st_cmp (op_notInT (room_65 hr)) (ops_in true) ha hb hm
def gIdx : GM := fun x as M => match as with
  | [y] => match pyM x M, pyM y M with
    | some (.list ds), some d => if SeqAt.shaped (.list ds) && SeqAt.shaped d then (ds.findIdx? fun z => PyData.eqv z d).map fun j => (.int (j : Nat), M) else none
    | _, _ => none
  | _ => none
theorem mts_idx : MtS G (rIndexD G.K) gIdx := fun H ρ M x dx vs ds d M' Q S rx rs e h => by
  unfold gIdx at e
  split at e
  · rename_i y
    cases rs with
    | cons q1 q2 =>
      cases q2
      split at e
      · rename_i l d0 h1 h2
        split at e
        · rename_i hs
          rw [Bool.and_eq_true] at hs
          cases hj : l.findIdx? fun z => PyData.eqv z d0 with
          | none => rw [hj] at e; cases e
          | some j =>
            rw [hj] at e
            cases e
            obtain ⟨hlt, hz, hno⟩ := List.findIdx?_eq_some_iff_getElem.mp hj
            have hd := pyM_ok S rx h1
            cases rx with
            | lst ha hn rr =>
              exact ⟨_, _, d0, l, j, l[j], rfl, rfl, hd, pyM_ok S q1 h2, hs.1, hs.2, List.getElem?_eq_getElem hlt, hz, fun m z hm hz' => by
                have hml : m < l.length := by omega
                rw [List.getElem?_eq_getElem hml] at hz'
                cases hz'
                have := hno m hm
                simpa using this, h ρ _ H .refl S (.int _)⟩
            | ref hn =>
              exact ⟨_, _, d0, l, j, l[j], rfl, rfl, hd, pyM_ok S q1 h2, hs.1, hs.2, List.getElem?_eq_getElem hlt, hz, fun m z hm hz' => by
                have hml : m < l.length := by omega
                rw [List.getElem?_eq_getElem hml] at hz'
                cases hz'
                have := hno m hm
                simpa using this, h ρ _ H .refl S (.int _)⟩
            | tup ha rr =>
              have h1' := h1
              simp only [pyM, toPy] at h1'
              cases e : toPys _ with
              | none => rw [e] at h1'; cases h1'
              | some ps => rw [e] at h1'; cases h1'
            | _ => cases h1
        · cases e
      · cases e
  · cases e
theorem se_index {k : Nat} {o e : Expr} {fo fe : DE} {apos cpos : Pos} (hr : Room k X.A) (ho : SE X cl W o fo) (ha : SE X cl W e fe) (hst : starEach [e] X.env = (false, eval e X.env) :: starEach [] X.env := by rfl)
    (hbase : attributeBase o "index" X.env (eval o X.env) = eval o X.env := by rfl)
    (hfew : ((backTo cpos (starEach [e] X.env)).all (fun x => !x.1) && (backToKw cpos (keywordEach [] X.env)).all (fun x => x.1.isSome)
      && decide ([e].length + ([] : List Keyword).length + (if ([] : List Keyword).isEmpty then 0 else 1) < 30)) = true := by rfl)
    (hline : (apos.endLine == cpos.line) = true := by rfl) (hplain : (backTo cpos (starEach [] X.env)).any (·.1) = false := by rfl) : SE X cl W (.Call (.Attribute o "index" apos) [e] [] cpos) (dLm gIdx fo (dConsA fe dNilA)) :=
  se_lm PySem.F.slot_list_index PySem.F.type_list_index (mt_indexD (room_65 hr)) mts_idx ho (sa_cons ha sa_nil hst) hbase hfew hline hst hplain
end
end Ip
end
section
set_option Elab.async false
set_option linter.all false
set_option maxRecDepth 100000
set_option maxHeartbeats 4000000
set_option autoImplicit false
namespace Ip
open PySem PySem.Spec PyProof.Rows L2
end Ip
end
section
set_option Elab.async false
set_option linter.all false
set_option maxRecDepth 100000
set_option maxHeartbeats 4000000
set_option autoImplicit false
namespace Ip
open PySem PySem.Spec PyProof.Rows L2
section
variable {G : Gx} {H : Hp} {ρ : Rho} {κ : Type} [DecidableEq κ]
abbrev KD := List (List Key) × List D
structure SDd (G : Gx) (H1 : Hp) (ρ1 : Rho) (L : Addr) (H : Hp) (ρ : Rho) (M : Sto) (acc : KD) : Prop where
  t : ρ.t = L :: ρ1.t
  x : Ext G H1 ρ1 H ⟨ρ.c, ρ1.t⟩
  a : ∃ av, H L = some (.dT (acc.1.zip av)) ∧ acc.1.length = av.length ∧ RVs G H ρ acc.2 av
  s : RS G H ρ M
variable {H1 H' : Hp} {ρ1 ρ' : Rho} {L : Addr} {M M' : Sto} {acc : KD}
theorem SDd.inT (h : SDd G H1 ρ1 L H ρ M acc) : L ∈ ρ.t := by rw [h.t]; exact List.mem_cons_self
theorem SDd.ext (h0 : H1 L = none) (h : SDd G H1 ρ1 L H ρ M acc) (x : Ext G H ρ H' ρ') (S' : RS G H' ρ' M') : SDd G H1 ρ1 L H' ρ' M' acc := by
  refine ⟨x.res.trans h.t, ⟨fun n a z => x.pre n a (h.x.pre n a z), rfl, fun a z => (x.same a (by rw [h.t]; exact List.mem_cons_of_mem _ z)).trans (h.x.same a z), fun a xs z => x.tup a xs (h.x.tup a xs z), fun a o n nt z => ?_⟩, ?_, S'⟩
  · obtain ⟨k1, k2⟩ := h.x.keep a o n nt z
    have k3 : a ∉ ρ := fun w => by
      rcases w with w | w
      · exact k2 (.inl w)
      · rw [h.t] at w
        rcases List.mem_cons.mp w with w | w
        · rw [w, h0] at z; cases z
        · exact n (.inr w)
    obtain ⟨k4, k5⟩ := x.keep a o k3 nt k1
    exact ⟨k4, fun w => by
      rcases w with w | w
      · exact k5 (.inl w)
      · exact n (.inr w)⟩
  · obtain ⟨av, z, l, r⟩ := h.a
    exact ⟨av, (x.same L h.inT).trans z, l, r.mono x⟩
end
end Ip
end
section
set_option Elab.async false
set_option linter.all false
set_option maxRecDepth 100000
set_option maxHeartbeats 4000000
set_option autoImplicit false
namespace Ip
open PySem PySem.Spec PyProof.Rows L2
abbrev II := Int × Int
def pK (p : II) : List Key := [.inl p.1, .inl p.2]
end Ip
end
section
set_option Elab.async false
set_option linter.all false
set_option maxRecDepth 100000
set_option maxHeartbeats 4000000
set_option autoImplicit false
namespace Ip
open PySem PySem.Spec PyProof.Rows L2
end Ip
end
section
set_option Elab.async false
set_option linter.all false
set_option maxRecDepth 100000
set_option maxHeartbeats 4000000
set_option autoImplicit false
namespace Ip
open PySem PySem.Spec PyProof.Rows L2
end Ip
end
section
set_option Elab.async false
set_option linter.all false
set_option maxRecDepth 100000
set_option maxHeartbeats 1000000
namespace Ip
open PySem PySem.Spec PyProof.Rows L2
abbrev set0 (w : World) : Obj := { cls := .type "set", dict := none, data := .set #[] 0 (.fresh 0 0 (!w.params.followText "set-order")) }
end Ip
end
section
set_option Elab.async false
set_option linter.all false
set_option maxRecDepth 100000
set_option maxHeartbeats 4000000
set_option autoImplicit false
namespace Ip
open PySem PySem.Spec PyProof.Rows L2
end Ip
end
section
set_option Elab.async false
set_option linter.all false
set_option maxRecDepth 100000
set_option maxHeartbeats 1000000
namespace Ip
open PySem PySem.Spec PyProof.Rows L2
end Ip
end
section
set_option Elab.async false
set_option linter.all false
set_option maxRecDepth 100000
set_option maxHeartbeats 4000000
set_option autoImplicit false
namespace Ip
open PySem PySem.Spec PyProof.Rows L2
end Ip
end
section
set_option Elab.async false
set_option linter.all false
set_option maxRecDepth 100000
set_option maxHeartbeats 1000000
set_option autoImplicit false
namespace Ip
open PySem PySem.Spec PyProof.Rows L2
/-- two heaps that differ by the lock of one dict -/
structure Lk (H H2 : Hp) (d : Addr) (kvs : List (List Key × V)) : Prop where
  off : ∀ a, a ≠ d → H2 a = H a
  h1 : Rd H d (.dT kvs)
  h2 : Rd H2 d (.dT kvs)
section
variable {G : Gx} {H H2 : Hp} {ρ : Rho} {d : Addr} {kvs : List (List Key × V)} {M : Sto}
theorem Lk.at (L : Lk H H2 d kvs) {a : Addr} {o : HO} (h : H a = some o) (n1 : ∀ kv, o ≠ .dT kv) (n2 : ∀ q kv, o ≠ .frz q (.dT kv)) : H2 a = some o := by
  have : a ≠ d := by
    rintro rfl
    rcases L.h1 with e | ⟨q, e⟩
    · rw [h] at e; exact n1 _ (Option.some.inj e)
    · rw [h] at e; exact n2 _ _ (Option.some.inj e)
  rw [L.off a this, h]
end
end Ip
end
section
set_option Elab.async false
set_option linter.all false
set_option maxRecDepth 100000
set_option maxHeartbeats 4000000
set_option autoImplicit false
namespace Ip
open PySem PySem.Spec PyProof.Rows L2
/-- .. no name of its own that the maker's slots have -/
structure LamSD (N : List Str) (sc scope : Scope) : Prop where
  kind : scope.kind = .function
  co : scope.isCoroutine = false
  gen : scope.isGenerator = false
  cel : ∀ y ∈ scope.names, y.2 ≠ .cell
  own : ∀ y ∈ scope.names, y.2 = .local → y.1 ∉ N
  free : ∀ y ∈ scope.names, y.2 = .free → sc.names.lookup y.1 = some .cell ∨ sc.names.lookup y.1 = some .free
theorem LamSD.has {N : List Str} {X : Cx} {scope : Scope} (L : LamSD N X.env.scope scope) (ok : X.Ok) : ∀ y ∈ scope.names, y.2 = .free → ∃ c, X.env.cells.lookup y.1 = some c := fun y hy e => by
  rcases L.free y hy e with k | k
  · exact ok.has _ (.inl k)
  · exact ok.has _ (.inr k)
end Ip
end
section
set_option Elab.async false
set_option linter.all false
set_option maxRecDepth 100000
set_option maxHeartbeats 4000000
set_option autoImplicit false
namespace Ip
open PySem PySem.Spec PyProof.Rows L2
def dM1 (g : Str → Str → Option D) (fo fe : DE) : DE := fun env M => (fo env M).bind fun x M1 => match x with
  | .str a => (fe env M1).bind fun y M2 => match y with
    | .str b => match g a b with
      | some d => .ok d M2
      | none => .bad
    | _ => .bad
  | _ => .bad
section
variable {X : Cx} {cl : Str → Option Addr} {W : WX} {G : Gx}
theorem m1_ok {g : Str → Str → Option D} {r : V → List V → Hp → VK → Prop} {fo fe : DE} (hg : ∀ (H : Hp) (ρ : Rho) (M : Sto) (a b : Str) (d : D) (Q : VK), RS G H ρ M → g a b = some d → oP G H ρ Q d M → r (.str a) [.str b] H Q) {σ : L2.St} {H : Hp} {Q : VK} (h : dE G W (dM1 g fo fe) σ H Q) :
    tM1 r (dE G W fo) (dE G W fe) σ H Q := by
  obtain ⟨ρ, env, M, hE, hS, h⟩ := h
  refine ⟨ρ, env, M, hE, hS, (post_bind h).imp (fun x M1 hx ρ1 v H1 e1 S1 r1 => ?_) (fun _ _ _ z => z)⟩
  split at hx
  · rename_i a
    cases r1
    refine ⟨⟨a, rfl⟩, ρ1, env, M1, hE.mono e1, S1, (post_bind hx).imp (fun y M2 hy ρ2 w H2 e2 S2 r2 => ?_) (fun _ _ _ z => eP.sh e1 z)⟩
    split at hy
    · rename_i b
      cases r2
      split at hy
      · rename_i d hd
        exact hg H2 ρ2 M2 a b d Q S2 hd (oP.sh (e1.trans e2) hy)
      · exact hy.elim
    · exact hy.elim
  · exact hx.elim
end
end Ip
end
section
set_option Elab.async false
set_option linter.all false
set_option maxRecDepth 100000
set_option maxHeartbeats 4000000
set_option autoImplicit false
namespace Ip
open PySem PySem.Spec PyProof.Rows L2
end Ip
end
section
set_option Elab.async false
set_option linter.all false
set_option maxRecDepth 100000
set_option maxHeartbeats 4000000
set_option autoImplicit false
namespace Ip
open PySem PySem.Spec PyProof.Rows L2
def gPop : GM := fun x as M => match as with
  | [] => match asL x M with
    | some l => match l[l.length - 1]? with
      | some y => (setL x M fun l => some l.dropLast).map (y, ·)
      | none => none
    | none => none
  | _ => none
def gIns : GM := fun x as M => match as with
  | [.int i, y] => if 0 ≤ i ∧ i < 16777216 then (setL x M fun l => if l.length < 16777216 then some (l.take i.toNat ++ [y] ++ l.drop i.toNat) else none).map (D.non, ·) else none
  | _ => none
section
variable {X : Cx} {cl : Str → Option Addr} {W : WX} {G : Gx}
theorem RVs.dropLast {H : Hp} {ρ : Rho} {ds : List D} {vs : List V} (r : RVs G H ρ ds vs) : RVs G H ρ ds.dropLast vs.dropLast := by
  rw [List.dropLast_eq_take, List.dropLast_eq_take, r.length]
  exact r.take _
theorem mts_pop : MtS G rPop gPop := fun H ρ M x dx vs ds d M' Q S rx rs e h => by
  unfold gPop at e
  split at e
  · cases rs
    split at e
    · rename_i l0 h0
      split at e
      · rename_i y hy
        cases e2 : setL dx M fun l => some l.dropLast with
        | none => rw [e2] at e; cases e
        | some M2 =>
          rw [e2] at e; cases e
          obtain ⟨a, l, l', ws, rfl, ha, rl, ek, up⟩ := setL_ok S rx e2
          cases ek
          obtain ⟨b, us, eb, hb, r0⟩ := asL_ok S rx h0
          cases eb
          rw [ha] at hb; cases hb
          obtain ⟨w, hw, rw'⟩ := r0.get hy
          obtain ⟨x1, s1⟩ := up _ rl.dropLast
          refine ⟨a, ws, w, rfl, rfl, ha, by rw [r0.length]; exact hw, h ρ _ _ x1 s1 (rw'.mono x1)⟩
      · cases e
    · cases e
  · cases e
theorem mts_ins : MtS G (fun x vs H Q => ∃ (l : Addr) (xs : List V) (i : Int) (y : V), x = .ref l ∧ vs = [.int i, y] ∧ H l = some (.lst xs) ∧ xs.length < sizeLine ∧ 0 ≤ i ∧ i < 2 ^ 63 ∧
    Q .non (upd H l (.lst (xs.take i.toNat ++ [y] ++ xs.drop i.toNat)))) gIns := fun H ρ M x dx vs ds d M' Q S rx rs e h => by
  unfold gIns at e
  split at e
  · rename_i i y
    cases rs with
    | cons q1 q2 =>
      cases q2 with
      | cons q3 q4 =>
        cases q4
        cases q1
        split at e
        · rename_i hi
          cases e2 : setL dx M fun l => if l.length < 16777216 then some (l.take i.toNat ++ [y] ++ l.drop i.toNat) else none with
          | none => rw [e2] at e; cases e
          | some M2 =>
            rw [e2] at e; cases e
            obtain ⟨a, l, l', ws, rfl, ha, rl, ek, up⟩ := setL_ok S rx e2
            split at ek
            · rename_i hl
              cases ek
              obtain ⟨x1, s1⟩ := up _ (((rl.take i.toNat).append (.one q3)).append (rl.drop i.toNat))
              exact ⟨a, ws, i, _, rfl, rfl, ha, by rw [rl.length, sizeLine_eq]; exact hl, hi.1, by omega, h ρ _ _ x1 s1 .non⟩
            · cases ek
        · cases e
  · cases e
theorem se_pop {o : Expr} {fo : DE} {apos cpos : Pos} (ho : SE X cl W o fo) (hbase : attributeBase o "pop" X.env (eval o X.env) = eval o X.env := by rfl) (hline : (apos.endLine == cpos.line) = true := by rfl) : SE X cl W (.Call (.Attribute o "pop" apos) [] [] cpos) (dLm gPop fo dNilA) :=
  se_lm0 PySem.F.slot_list_pop PySem.F.type_list_pop mt_pop mts_pop ho hbase hline
theorem se_insert {o e e2 : Expr} {fo fe fe2 : DE} {apos cpos : Pos} (ho : SE X cl W o fo) (ha : SE X cl W e fe) (ha2 : SE X cl W e2 fe2) (hst : starEach [e, e2] X.env = (false, eval e X.env) :: starEach [e2] X.env := by rfl) (hst2 : starEach [e2] X.env = (false, eval e2 X.env) :: starEach [] X.env := by rfl)
    (hbase : attributeBase o "insert" X.env (eval o X.env) = eval o X.env := by rfl)
    (hfew : ((backTo cpos (starEach [e, e2] X.env)).all (fun x => !x.1) && (backToKw cpos (keywordEach [] X.env)).all (fun x => x.1.isSome)
      && decide ([e, e2].length + ([] : List Keyword).length + (if ([] : List Keyword).isEmpty then 0 else 1) < 30)) = true := by rfl)
    (hline : (apos.endLine == cpos.line) = true := by rfl) (hplain : (backTo cpos (starEach [e2] X.env)).any (·.1) = false := by rfl) : SE X cl W (.Call (.Attribute o "insert" apos) [e, e2] [] cpos) (dLm gIns fo (dConsA fe (dConsA fe2 dNilA))) :=
  se_lm PySem.F.slot_list_insert PySem.F.type_list_insert mt_insert mts_ins ho (sa_cons ha (sa_cons ha2 sa_nil hst2) hst) hbase hfew hline hst hplain
def gSplit (a b : Str) : Option D := if (b.length == 0) = false ∧ a.length + 2 ≤ 16777216 then some (.lst ((Txt.split a b).map .str)) else none
theorem RVs.strs {H : Hp} {ρ : Rho} : ∀ (ys : List Str), RVs G H ρ (ys.map D.str) (ys.map V.str)
  | [] => .nil
  | y :: ys => .cons (.str y) (RVs.strs ys)
theorem se_split {o e : Expr} {fo fe : DE} {apos pos : Pos} (ho : SE X cl W o fo) (he : SE X cl W e fe) (hs : starEach [e] X.env = [(false, eval e X.env)] := by rfl) (hbase : attributeBase o "split" X.env (eval o X.env) = eval o X.env := by rfl) (hline : (apos.endLine == pos.line) = true := by rfl) :
    SE X cl W (.Call (.Attribute o "split" apos) [e] [] pos) (dM1 gSplit fo fe) :=
  PEweak (pe_m1 F.slot_str_split F.type_str_split mt_split ho he hs hbase hline) fun σ H Q h => m1_ok (G := gx X cl) (fun H ρ M a b d Q S e z => by
    unfold gSplit at e
    split at e
    · rename_i c
      cases e
      refine ⟨a, b, rfl, rfl, c.1, by rw [sizeLine_eq]; exact c.2, fun p hp => ?_⟩
      exact z ρ (.ref p) _ (Ext.new S hp) (S.new hp) (.lst upd_same (S.fresh hp) (RVs.strs _))
    · cases e) h
/-- .. into a list that changes -/
def dSplitC (fo fe : DE) : DE := fun env M => (dM1 gSplit fo fe env M).bind fun d M1 => match d with
  | .lst l => .ok (.ref M1.length) (M1 ++ [.lst l])
  | _ => .bad
theorem se_splitC {o e : Expr} {fo fe : DE} {apos pos : Pos} (ho : SE X cl W o fo) (he : SE X cl W e fe) (hs : starEach [e] X.env = [(false, eval e X.env)] := by rfl) (hbase : attributeBase o "split" X.env (eval o X.env) = eval o X.env := by rfl) (hline : (apos.endLine == pos.line) = true := by rfl) :
    SE X cl W (.Call (.Attribute o "split" apos) [e] [] pos) (dSplitC fo fe) :=
  PEweak (pe_m1 F.slot_str_split F.type_str_split mt_split ho he hs hbase hline) fun σ H Q ⟨ρ, env, M, hE, hS, h⟩ => by
    unfold dSplitC at h
    refine ⟨ρ, env, M, hE, hS, (post_bind (post_bind h)).imp (fun x M1 hx ρ1 v H1 e1 S1 r1 => ?_) (fun _ _ _ z => z)⟩
    split at hx
    · rename_i a
      cases r1
      refine ⟨⟨a, rfl⟩, ρ1, env, M1, hE.mono e1, S1, (post_bind hx).imp (fun y M2 hy ρ2 w H2 e2 S2 r2 => ?_) (fun _ _ _ z => eP.sh e1 z)⟩
      split at hy
      · rename_i b
        cases r2
        split at hy
        · rename_i d hd
          unfold gSplit at hd
          split at hd
          · rename_i c
            cases hd
            refine ⟨a, b, rfl, rfl, c.1, by rw [sizeLine_eq]; exact c.2, fun p hp => ?_⟩
            have hy := oP.sh (e1.trans e2) hy
            exact hy (ρ2.add p) (.ref p) _ (Ext.cell S2 hp) (S2.newLst hp (RVs.strs _)) (.ref S2.at_new)
          · cases hd
        · exact hy.elim
      · exact hy.elim
    · exact hx.elim
/-- a.isdigit() -/
def dM0 (g : Str → D) (fo : DE) : DE := fun env M => (fo env M).bind fun x M1 => match x with
  | .str a => .ok (g a) M1
  | _ => .bad
theorem se_isdigit {o : Expr} {fo : DE} {apos pos : Pos} (ho : SE X cl W o fo) (hbase : attributeBase o "isdigit" X.env (eval o X.env) = eval o X.env := by rfl) (hline : (apos.endLine == pos.line) = true := by rfl) :
    SE X cl W (.Call (.Attribute o "isdigit" apos) [] [] pos) (dM0 (fun a => .bl (Txt.isdigit a)) fo) :=
  PEweak (pe_m0 F.slot_str_isdigit F.type_str_isdigit mt_isdigit ho hbase hline) fun σ H Q ⟨ρ, env, M, hE, hS, h⟩ => by
    refine ⟨ρ, env, M, hE, hS, (post_bind h).imp (fun x M1 hx ρ1 v H1 e1 S1 r1 => ?_) (fun _ _ _ z => z)⟩
    split at hx
    · rename_i a
      cases r1
      exact ⟨⟨a, rfl⟩, a, rfl, rfl, trivial, hx ρ1 (.bl _) H1 e1 S1 (.bl _)⟩
    · exact hx.elim
def strsD : List D → Option (List Str)
  | [] => some []
  | .str s :: l => (strsD l).map (s :: ·)
  | _ :: _ => none
theorem strsD_ok : ∀ {l : List D} {ys : List Str}, strsD l = some ys → l = ys.map D.str
  | [], _, h => by cases h; rfl
  | .str s :: l, ys, h => by
    cases e : strsD l with
    | none => rw [show strsD (.str s :: l) = (strsD l).map (s :: ·) from rfl, e] at h; cases h
    | some zs =>
      rw [show strsD (.str s :: l) = (strsD l).map (s :: ·) from rfl, e] at h
      cases h
      rw [strsD_ok e]
      rfl
theorem RVs.ofStrs {H : Hp} {ρ : Rho} : ∀ {ys : List Str} {vs : List V}, RVs G H ρ (ys.map D.str) vs → vs = ys.map V.str
  | [], _, .nil => rfl
  | y :: ys, _, .cons r rs => by
    cases r
    rw [RVs.ofStrs rs]
    rfl
/-- sep.join(list of texts) -/
def dJoin (fo fe : DE) : DE := fun env M => (fo env M).bind fun x M1 => match x with
  | .str a => (fe env M1).bind fun y M2 => match asL y M2 with
    | some l => match strsD l with
      | some ys => if (ys.map (·.length)).sum + ys.length * a.length ≤ 16777216 then .ok (.str (Txt.join a ys)) M2 else .bad
      | none => .bad
    | none => .bad
  | _ => .bad
theorem se_join {o e : Expr} {fo fe : DE} {apos pos : Pos} (ho : SE X cl W o fo) (he : SE X cl W e fe) (hs : starEach [e] X.env = [(false, eval e X.env)] := by rfl) (hbase : attributeBase o "join" X.env (eval o X.env) = eval o X.env := by rfl) (hline : (apos.endLine == pos.line) = true := by rfl) :
    SE X cl W (.Call (.Attribute o "join" apos) [e] [] pos) (dJoin fo fe) :=
  PEweak (pe_join ho he hs hbase hline) fun σ H Q ⟨ρ, env, M, hE, hS, h⟩ => by
    refine ⟨ρ, env, M, hE, hS, (post_bind h).imp (fun x M1 hx ρ1 v H1 e1 S1 r1 => ?_) (fun _ _ _ z => z)⟩
    split at hx
    · rename_i a
      cases r1
      refine ⟨⟨a, rfl⟩, ρ1, env, M1, hE.mono e1, S1, (post_bind hx).imp (fun y M2 hy ρ2 w H2 e2 S2 r2 => ?_) (fun _ _ _ z => eP.sh e1 z)⟩
      split at hy
      · rename_i l hl
        split at hy
        · rename_i ys hys
          split at hy
          · rename_i hlen
            obtain ⟨p, vs, rfl, hp, rl⟩ := asL_ok S2 r2 hl
            rw [strsD_ok hys] at rl
            have := rl.ofStrs
            subst this
            exact ⟨a, p, ys, rfl, rfl, .inl (.inl (.inl hp)), hlen, (oP.sh (e1.trans e2) hy) ρ2 (.str _) H2 .refl S2 (.str _)⟩
          · exact hy.elim
        · exact hy.elim
      · exact hy.elim
    · exact hx.elim
end
end Ip
end
section
set_option Elab.async false
set_option linter.all false
set_option maxRecDepth 100000
set_option maxHeartbeats 4000000
set_option autoImplicit false
namespace Ip
open PySem PyProof.Rows L2
def dLcC (vs : List Nat) (t : DG) (fi : DA) (ft : DT) (fe : DE) : DE := fun env M => (fi env M).bind fun items M1 => (lcGo t ft fe items [] (wipeE env vs) M1).bind fun l M2 => .ok (.ref M2.length) (M2 ++ [.lst l])
section
variable {X : Cx} {cl : Str → Option Addr} {W : WX} {G : Gx}
theorem lcC_ok {vs : List Nat} {g : TG} {t : DG} {fi : DA} {ft : DT} {fe : DE} (hg : TgOk G vs g t) {σ : L2.St} {H : Hp} {Q : VK} (h : dE G W (dLcC vs t fi ft fe) σ H Q) : tLc (dI G W fi) g (dT G W0 ft) (dE G W0 fe) vs σ H Q := by
  obtain ⟨ρ, env, M, hE, hS, h⟩ := h
  refine ⟨ρ, env, M, hE, hS, (post_bind h).imp (fun items M1 hx ρ1 H1 J e1 S1 good D hD => ?_) (fun _ _ _ z => z)⟩
  have hD1 : D ∉ ρ1 := S1.fresh hD
  refine ⟨fun i m H => m = items.length - i ∧ i ≤ items.length ∧ ∃ (ρ : Rho) (M : Sto) (acc : List Ip.D) (av : List V), ρ.t = D :: ρ1.t ∧ Ext G H1 ρ1 H ⟨ρ.c, ρ1.t⟩ ∧ H D = some (.lst av) ∧ RVs G H ρ acc av ∧ RE G H ρ (wipeE env vs) (wipe σ vs) ∧ RS G H ρ M ∧
    (lcGo t ft fe (items.drop i) acc (wipeE env vs) M).post (fun l M' => oP G H1 ρ1 Q (.ref M'.length) (M' ++ [.lst l])) (fun _ _ _ => False), ⟨items.length, by simp, Nat.zero_le _, ⟨ρ1.c, D :: ρ1.t⟩, M1, [], [], rfl, ?_, upd_same, .nil, ?_, ?_, ?_⟩, ?_⟩
  · exact Ext.new S1 hD
  · refine RE.mo (H := H1) (ρ := ρ1) ?_ ((hE.mono e1).wipe vs)
    exact ⟨fun _ _ z => z, fun a xs z => tpA_upd z (fun u w => by rw [hD] at w; cases w), fun a o n nt z => ⟨by rw [upd_ne (ne_of_none z hD)]; exact z, fun w => by
      rcases w with w | w
      · exact n (.inl w)
      · rcases List.mem_cons.mp w with w | w
        · exact ne_of_none z hD w
        · exact n (.inr w)⟩⟩
  · have mo : Mo G H1 ρ1 (upd H1 D (.lst [])) ⟨ρ1.c, D :: ρ1.t⟩ := ⟨fun _ _ z => z, fun a xs z => tpA_upd z (fun u w => by rw [hD] at w; cases w), fun a o n nt z => ⟨by rw [upd_ne (ne_of_none z hD)]; exact z, fun w => by
      rcases w with w | w
      · exact n (.inl w)
      · rcases List.mem_cons.mp w with w | w
        · exact ne_of_none z hD w
        · exact n (.inr w)⟩⟩
    refine ⟨S1.len, S1.nd, fun a ha hb => ?_, fun a ha => ?_, fun n c hc => ?_, S1.tb.keeps fun b u z _ => by rw [upd_ne (ne_of_none z hD)]; exact z⟩
    · rcases List.mem_cons.mp hb with z | z
      · exact hD1 (.inl (by rw [← z]; exact ha))
      · exact S1.dis a ha z
    · rcases List.mem_cons.mp ha with z | z
      · exact ⟨_, by rw [z]; exact upd_same, .inl ⟨_, rfl⟩⟩
      · rw [upd_ne (S1.ne_new hD (.inr z))]; exact S1.trt a z
    · obtain ⟨a, ha, q⟩ := S1.at_ n c hc
      exact ⟨a, ha, q.mo mo (upd_ne (S1.ne_new hD (.inl (List.mem_of_getElem? ha))))⟩
  · have hx' := post_bind hx
    rw [List.drop_zero]
    cases hlc : lcGo t ft fe items [] (wipeE env vs) M1 with
    | ok l M2 => rw [hlc] at hx'; exact oP.sh e1 hx'
    | bad => rw [hlc] at hx'; exact hx'
    | exc e ev M2 =>
      exfalso
      -- a comprehension's walk raises nothing
      have : ∀ (ds acc : List Ip.D) (env : En) (M : Sto) (e : Exn) (ev : En) (M2 : Sto), lcGo t ft fe ds acc env M ≠ .exc e ev M2 := by
        intro ds
        induction ds with
        | nil => intro acc env M e ev M2 z; cases z
        | cons d ds ih =>
          intro acc env M e ev M2 z
          unfold lcGo at z
          split at z
          · cases z
          · cases h1 : ft _ M with
            | bad => rw [h1] at z; cases z
            | exc _ _ _ => rw [h1] at z; cases z
            | ok b M3 =>
              rw [h1] at z
              cases b with
              | false => exact ih _ _ _ _ _ _ z
              | true =>
                change (noex (fe _ M3)).bind _ = _ at z
                cases h2 : fe _ M3 with
                | bad => rw [h2] at z; cases z
                | exc _ _ _ => rw [h2] at z; cases z
                | ok y M4 =>
                  rw [h2] at z
                  change (if acc.length < 16777216 then _ else _) = _ at z
                  split at z
                  · exact ih _ _ _ _ _ _ z
                  · cases z
      exact this _ _ _ _ _ _ _ hlc
  · rintro i m H2 ⟨rfl, hi, ρ2, M2, acc, av, ht, x2, hDv, ra, E2, S2, q⟩
    have mk2 : ∀ (a : Addr) (o : HO), a ∉ ρ1 → (∀ ps, o ≠ .tbl ps) → H1 a = some o → H2 a = some o ∧ a ∉ ρ2 := fun a o n nt z => ⟨(x2.keep a o n nt z).1, fun w => by
      rcases w with w | w
      · exact (x2.keep a o n nt z).2 (.inl w)
      · rw [ht] at w
        rcases List.mem_cons.mp w with w | w
        · exact ne_of_none z hD w
        · exact n (.inr w)⟩
    have mo2 : Mo G H1 ρ1 H2 ρ2 := ⟨x2.pre, x2.tup, fun a o n p z => mk2 a o n p.tbl z⟩
    have hDt : D ∈ ρ2.t := by rw [ht]; exact List.mem_cons_self
    obtain ⟨g1, g2⟩ := good H2 ρ2 mo2 i
    by_cases hlt : i < items.length
    · have hd : items[i]? = some items[i] := List.getElem?_eq_getElem hlt
      obtain ⟨go, yl⟩ := g1 _ hd
      have hdrop : items.drop i = items[i] :: items.drop (i + 1) := List.drop_eq_getElem_cons hlt
      rw [hdrop] at q
      refine .inr ⟨go, fun H => ∃ (ρ : Rho) (M : Sto) (acc : List Ip.D) (av : List V), ρ.t = D :: ρ1.t ∧ Ext G H1 ρ1 H ⟨ρ.c, ρ1.t⟩ ∧ H D = some (.lst av) ∧ RVs G H ρ acc av ∧ RE G H ρ (wipeE env vs) (wipe σ vs) ∧ RS G H ρ M ∧
        (lcGo t ft fe (items.drop (i + 1)) acc (wipeE env vs) M).post (fun l M' => oP G H1 ρ1 Q (.ref M'.length) (M' ++ [.lst l])) (fun _ _ _ => False), fun H' n2 => ⟨items.length - (i + 1), by omega, rfl, hlt, n2⟩, fun x H3 y => ?_⟩
      obtain ⟨x3, rs3, r3⟩ := yl x H3 y ⟨M2, S2⟩
      unfold lcGo at q
      split at q
      · exact q.elim
      · rename_i env1 he1
        refine hg H3 ρ2 x _ _ env1 _ _ (E2.mono x3) r3 he1 fun σ4 E4 w4 => ⟨w4.trans (by rw [wipe_eq (σ := wipe σ vs) (τ := σ) (vs := vs) (wipe_length _ _) fun j hj => wipe_out hj]), ?_⟩
        -- from where the turn began to where it is
        have step : ∀ {H5 : Hp} {ρ5 : Rho}, Ext G H2 ρ2 H5 ρ5 → Ext G H1 ρ1 H5 ⟨ρ5.c, ρ1.t⟩ ∧ ρ5.t = D :: ρ1.t ∧ H5 D = some (.lst av) := fun {H5 ρ5} x5 =>
          ⟨⟨fun n a z => x5.pre n a (x2.pre n a z), rfl, fun a z => (x5.same a (by rw [ht]; exact List.mem_cons_of_mem _ z)).trans (x2.same a z), fun a xs z => x5.tup a xs (x2.tup a xs z), fun a o n nt z => by
              obtain ⟨k1, k2⟩ := mk2 a o n nt z
              obtain ⟨k3, k4⟩ := x5.keep a o k2 nt k1
              exact ⟨k3, fun w => by
                rcases w with w | w
                · exact k4 (.inl w)
                · exact n (.inr w)⟩⟩, x5.res.trans ht, (x5.same D hDt).trans hDv⟩
        refine ⟨ρ2, env1, M2, E4, rs3 M2 S2, (noex_post (post_bind q)).imp (fun b M5 hb ρ5 H5 x5 S5 => ?_) (fun _ _ _ z => z)⟩
        cases b with
        | false =>
          obtain ⟨s1, s2, s3⟩ := step (x3.trans x5)
          exact ⟨ρ5, M5, acc, av, s2, s1, s3, ra.mono (x3.trans x5), E2.mono (x3.trans x5), S5, hb⟩
        | true =>
          rw [if_pos rfl]
          refine ⟨ρ5, env1, M5, E4.mono x5, S5, (noex_post (post_bind (show (Out.bind (noex (fe env1 M5)) _).post _ _ from hb))).imp (fun y M6 hy ρ6 v6 H6 x6 S6 r6 => ?_) (fun _ _ _ z => z)⟩
          obtain ⟨s1, s2, s3⟩ := step (x3.trans (x5.trans x6))
          split at hy
          · rename_i hlen
            have hD6 : D ∈ ρ6.t := by rw [s2]; exact List.mem_cons_self
            have mo6 : Mo G H6 ρ6 (upd H6 D (.lst (av ++ [v6]))) ρ6 := ⟨fun _ _ z => z, fun a xs z => tpA_upd z (fun u w => by rw [s3] at w; cases w; exact ⟨fun _ z => (by cases z), fun _ _ z => (by cases z)⟩), fun a o n nt z => ⟨by rw [upd_ne (fun w : a = D => n (by rw [w]; exact .inr hD6))]; exact z, n⟩⟩
            have la : av.length = acc.length := ra.length
            refine ⟨av, s3, by rw [la]; rw [sizeLine_eq]; exact hlen, ρ6, M6, acc ++ [y], av ++ [v6], s2, ⟨s1.pre, rfl, fun a z => ?_, fun a xs z => mo6.tup a xs (s1.tup a xs z), fun a o n nt z => ?_⟩, upd_same, ?_, (E2.mono (x3.trans (x5.trans x6))).mo mo6, ?_, hy⟩
            · rw [upd_ne (fun w : a = D => hD1 (by rw [← w]; exact .inr z))]
              exact s1.same a z
            · obtain ⟨k1, k2⟩ := s1.keep a o n nt z
              exact ⟨by rw [upd_ne (ne_of_none z hD)]; exact k1, k2⟩
            · exact ((ra.mono (x3.trans (x5.trans x6))).append (.one r6)).mo mo6
            · refine ⟨S6.len, S6.nd, S6.dis, fun a ha => ?_, fun n c hc => ?_, S6.tb.keeps fun b u z nz => by rw [upd_ne (fun w : b = D => nz (by rw [w, s3] at z; cases z; exact .inl ⟨_, rfl⟩))]; exact z⟩
              · by_cases z : a = D
                · exact ⟨_, by rw [z]; exact upd_same, .inl ⟨_, rfl⟩⟩
                · rw [upd_ne z]; exact S6.trt a ha
              · obtain ⟨a, ha, q⟩ := S6.at_ n c hc
                exact ⟨a, ha, q.mo mo6 (upd_ne (fun z : a = D => S6.dis a (List.mem_of_getElem? ha) (by rw [z]; exact hD6)))⟩
          · exact hy.elim
    · have e : i = items.length := by omega
      subst e
      rw [List.drop_length] at q
      have hDc : D ∉ ρ2.c := fun w => S2.dis D w hDt
      have x2' : Ext G H1 ρ1 H2 ⟨ρ2.c ++ [D], ρ1.t⟩ := ⟨fun n a z => by
          have := x2.pre n a z
          show (ρ2.c ++ [D])[n]? = some a
          rw [List.getElem?_append_left (List.getElem?_eq_some_iff.mp this).1]
          exact this, rfl, x2.same, x2.tup, fun a o n nt z => ⟨(x2.keep a o n nt z).1, fun w => by
          rcases w with w | w
          · rcases List.mem_append.mp w with w | w
            · exact (x2.keep a o n nt z).2 (.inl w)
            · exact ne_of_none z hD (by simpa using w)
          · exact n (.inr w)⟩⟩
      have mo : Mo G H2 ρ2 H2 ⟨ρ2.c ++ [D], ρ1.t⟩ := ⟨fun n a z => by
          show (ρ2.c ++ [D])[n]? = some a
          rw [List.getElem?_append_left (List.getElem?_eq_some_iff.mp z).1]
          exact z, fun _ _ z => z, fun a o n nt z => ⟨z, fun w => by
          rcases w with w | w
          · rcases List.mem_append.mp w with w | w
            · exact n (.inl w)
            · exact n (.inr (by rw [ht, List.mem_singleton.mp w]; exact List.mem_cons_self))
          · exact n (.inr (by rw [ht]; exact List.mem_cons_of_mem _ w))⟩⟩
      refine .inl ⟨g2 (Nat.le_refl _), q ⟨ρ2.c ++ [D], ρ1.t⟩ (.ref D) H2 x2' ?_ (.ref ?_)⟩
      · refine ⟨by show (ρ2.c ++ [D]).length = (M2 ++ [_]).length; rw [List.length_append, List.length_append, S2.len]; rfl, ?_, fun a ha hb => ?_, fun a ha => S2.trt a (by rw [ht]; exact List.mem_cons_of_mem _ ha), fun n c hc => ?_, S2.tb⟩
        · exact List.nodup_append.mpr ⟨S2.nd, by simp, fun a ha b hb => by
            rw [List.mem_singleton.mp hb]
            exact fun z => hDc (by rw [← z]; exact ha)⟩
        · rcases List.mem_append.mp ha with ha | ha
          · exact S2.dis a ha (by rw [ht]; exact List.mem_cons_of_mem _ hb)
          · rw [List.mem_singleton.mp ha] at hb
            exact hD1 (.inr hb)
        · by_cases hn : n < M2.length
          · rw [List.getElem?_append_left hn] at hc
            obtain ⟨a, ha, q⟩ := S2.at_ n c hc
            exact ⟨a, mo.pre n a ha, q.mo mo rfl⟩
          · have hn' : n = M2.length := by
              have := (List.getElem?_eq_some_iff.mp hc).1
              rw [List.length_append] at this
              simp at this
              omega
            subst hn'
            rw [List.getElem?_append_right (Nat.le_refl _), Nat.sub_self] at hc
            cases hc
            refine ⟨D, ?_, av, hDv, ra.mo mo⟩
            show (ρ2.c ++ [D])[M2.length]? = some D
            rw [← S2.len]
            simp
      · show (ρ2.c ++ [D])[M2.length]? = some D
        rw [← S2.len]
        simp
theorem se_lcC {elt tg iter : Expr} {ifs : List Expr} {scope : Scope} {own : List (Str × Nat)} {pos : Pos} {g : TG} {t : DG} {fi : DA} {ft : DT} {fe : DE} (hc : X.calm = true) (hN : X.N.Nodup) (hi : SI X cl W tg iter fi) (ok : BlkOk X.N X.env.scope scope own)
    (hgp : ∀ (s : Shared) (H : Hp) (C : Addr) (c : List (Str × Addr)) (fp : List Addr), PG (X.blk s H scope (compEnvC scope c C X.env) fp) tg g) (hg : TgOk (gx X cl) (own.map (·.2)) g t)
    (ht : ∀ (s : Shared) (H : Hp) (C : Addr) (c : List (Str × Addr)) (fp : List Addr), PTs (X.blk s H scope (compEnvC scope c C X.env) fp) ifs (dT (gx X cl) W0 ft))
    (he : ∀ (s : Shared) (H : Hp) (C : Addr) (c : List (Str × Addr)) (fp : List Addr), PE (X.blk s H scope (compEnvC scope c C X.env) fp) elt (dE (gx X cl) W0 fe)) (hs : ∀ x, foldedSetIterable iter X.env x = pure x := by intro _; rfl) :
    SE X cl W (.ListComp elt [⟨tg, iter, ifs, 0⟩] scope pos) (dLcC (own.map (·.2)) t fi ft fe) :=
  PEweak (pe_lc hc hN hi ok hgp ht he hs) fun σ H Q h => lcC_ok hg h
end
end Ip
end
section
set_option Elab.async false
set_option linter.all false
set_option maxRecDepth 100000
set_option maxHeartbeats 4000000
set_option autoImplicit false
namespace PySem
end PySem
namespace L2
open PySem PyProof.Rows
end L2
end
section
set_option Elab.async false
set_option linter.all false
set_option maxRecDepth 100000
set_option maxHeartbeats 4000000
set_option autoImplicit false
namespace Ip
open PySem PyProof.Rows L2
def gN (G : Gx) (H : Hp) (ρ : Rho) (N : List V → L2.St → Hp → Prop) : En → Sto → Prop := fun env' M' => ∃ env0 yd, env' = env0 ++ [some (.lst yd)] ∧ ∀ ρ' σ' H' ys', Ext G H ρ H' ρ' → RS G H' ρ' M' → RE G H' ρ' env0 σ' → RVs G H' ρ' yd ys' → N ys' σ' H'
def gP (G : Gx) (H : Hp) (ρ : Rho) (D : GEnds) : Fl → Sto → Prop
  | .nx e, M => gN G H ρ D.nx e M
  | .rt _, _ => False
  | .bk e, M => gN G H ρ D.bk e M
  | .ct e, M => gN G H ρ D.ct e M
def gS (G : Gx) (f : DS) : TGn := fun D ys σ H => ∃ ρ env M yd, RE G H ρ env σ ∧ RS G H ρ M ∧ RVs G H ρ yd ys ∧ (f (env ++ [some (.lst yd)]) M).post (gP G H ρ D) (fun _ _ _ => False)
section
variable {X : Cx} {cl : Str → Option Addr} {W : WX}
theorem GI.len {S : Addr} {ip : List (Addr × Obj)} {ys : List V} {σ : L2.St} {H : Hp} {s : Shared} (h : GI X S ip ys σ H s) : σ.length = X.N.length := by
  obtain ⟨_, _, _, I⟩ := h
  exact I.len
end
end Ip
end
section
set_option Elab.async false
set_option linter.all false
set_option maxRecDepth 100000
set_option maxHeartbeats 4000000
set_option autoImplicit false
namespace Ip
open PySem PyProof.Rows L2
end Ip
end
section
set_option Elab.async false
set_option linter.all false
set_option maxRecDepth 100000
set_option maxHeartbeats 4000000
set_option autoImplicit false
namespace Ip
open PySem PyProof.Rows L2
end Ip
end
section
set_option Elab.async false
set_option linter.all false
set_option maxRecDepth 100000
set_option maxHeartbeats 4000000
set_option autoImplicit false
namespace Ip
open PySem PyProof.Rows L2
end Ip
end
section
set_option Elab.async false
set_option linter.all false
set_option maxRecDepth 100000
set_option maxHeartbeats 4000000
set_option autoImplicit false
namespace Ip
open PySem PyProof.Rows L2
end Ip
end
section
set_option Elab.async false
set_option linter.all false
set_option maxRecDepth 100000
set_option maxHeartbeats 4000000
set_option autoImplicit false
namespace Ip
open PySem PyProof.Rows L2
section
variable {X : Cx} {cl : Str → Option Addr} {W : WX}
def gSlS (x : D) (lo hi : Option Int) (M : Sto) : Option (D × Sto) := match x with
  | .str z => if z.length ≤ 16777216 then some (.str (cutS z lo hi), M) else none
  | _ => none
def dSlS (fe : DE) (fl fh : DO) : DE := fun env M => (fe env M).bind fun x M1 => (fl env M1).bind fun lo M2 => (fh env M2).bind fun hi M3 => liftM (gSlS x lo hi M3)
theorem gSlS_ok {G : Gx} {H : Hp} {ρ : Rho} {M M' : Sto} {x d : D} {v : V} {lo hi : Option Int} {Q : VK} (S : RS G H ρ M) (r : RV G H ρ x v) (e : gSlS x lo hi M = some (d, M')) (h : oP G H ρ Q d M') : rSlS v lo hi H Q := by
  unfold gSlS at e
  split at e
  · cases r with
    | str z =>
      split at e
      · rename_i hz
        cases e
        exact ⟨_, rfl, line_of hz, h ρ _ H .refl S (.str _)⟩
      · cases e
  · cases e
theorem se_sliceS {e : Expr} {lo hi : Option Expr} {fe : DE} {fl fh : DO} {p2 pos : Pos} (he : SE X cl W e fe) (hl : SO X cl W lo fl) (hh : SO X cl W hi fh) : SE X cl W (.Subscript e (.Slice lo hi none p2) pos) (dSlS fe fl fh) :=
  PEweak (pe_slice sl_str he hl hh) fun σ H Q ⟨ρ, env, M, hE, hS, h⟩ => by
    refine ⟨ρ, env, M, hE, hS, (post_bind h).imp (fun x M1 hx ρ1 v H1 e1 S1 r1 => ?_) (fun _ _ _ z => z)⟩
    refine ⟨ρ1, env, M1, hE.mono e1, S1, (post_bind hx).imp (fun o M2 hy ρ2 H2 e2 S2 => ?_) (fun _ _ _ z => eP.sh e1 z)⟩
    refine ⟨ρ2, env, M2, hE.mono (e1.trans e2), S2, (post_bind hy).imp (fun o2 M3 hz ρ3 H3 e3 S3 => ?_) (fun _ _ _ z => eP.sh (e1.trans e2) z)⟩
    obtain ⟨d, M', eq, q⟩ := lift_some hz
    exact gSlS_ok (G := gx X cl) S3 (r1.mono (e2.trans e3)) eq (oP.sh (e1.trans (e2.trans e3)) q)
end
end Ip
end
section
set_option Elab.async false
set_option linter.all false
set_option maxRecDepth 100000
set_option maxHeartbeats 4000000
set_option autoImplicit false
namespace Ip
open PySem PySem.Spec PyProof.Rows L2
section
variable {X : Cx} {cl : Str → Option Addr} {W : WX} {G : Gx}
theorem PE.or {e : Expr} {t t' : TE} (h : PE X e t) (h' : PE X e t') : PE X e (fun σ H Q => t σ H Q ∨ t' σ H Q) :=
  ⟨fun pins s σ H Q I z => z.elim (h.run pins s σ H Q I) (h'.run pins s σ H Q I)⟩
theorem PS.or {e : Stmt} {t t' : TS} (h : PS X e t) (h' : PS X e t') : PS X e (fun D σ H => t D σ H ∨ t' D σ H) :=
  ⟨fun pins s σ H D I z => z.elim (h.run pins s σ H D I) (h'.run pins s σ H D I)⟩
end
end Ip
end
section
set_option Elab.async false
set_option linter.all false
set_option maxRecDepth 100000
set_option maxHeartbeats 4000000
set_option autoImplicit false
namespace Ip
open PySem PyProof.Rows L2
section
variable {P : Program} {w : World} {K : PySem.W.Frag} {mg : Str → Option Value} {A : Around} {s : Shared}
/-- what a bare call needs of the heap -/
structure Bare (K : PySem.W.Frag) (mg : Str → Option Value) (h : Heap) : Prop where
  kin : K.In h
  glob : h.Ns mainGlobals mg
  lim : h.NoLimit
theorem Bare.keeps {h h' : Heap} (b : Bare K mg h) (k : ∀ a o, h.get? a = some o → h'.get? a = some o) : Bare K mg h' := ⟨b.kin.keeps k, b.glob.keeps k, b.lim.keeps k⟩
/-- a piece as it stands: word, first number, second -/
inductive PieceAt (h : Heap) (t : Addr) : Int → Int → Prop
  | old {a : Int} {x y : Tok} {v : Value} : IsTup h t #[.str "old" x, .int a y, v] → PieceAt h t a a
  | new {a b c : Int} {x y z u : Tok} : IsTup h t #[.str "new" x, .int a y, .int b z, .int c u] → PieceAt h t a b
theorem IsTup.keeps {h h' : Heap} {t : Addr} {xs : Array Value} (i : IsTup h t xs) (k : ∀ a o, h.get? a = some o → h'.get? a = some o) : IsTup h' t xs := by
  obtain ⟨o, e1, e2, e3⟩ := i
  exact ⟨o, k _ _ e1, e2, e3⟩
theorem PieceAt.keeps {h h' : Heap} {t : Addr} {a b : Int} (p : PieceAt h t a b) (k : ∀ a o, h.get? a = some o → h'.get? a = some o) : PieceAt h' t a b := by
  cases p with
  | old i => exact .old (IsTup.keeps i k)
  | new i => exact .new (IsTup.keeps i k)
end
end Ip
end
section
set_option Elab.async false
set_option linter.all false
set_option maxRecDepth 100000
set_option maxHeartbeats 4000000
set_option autoImplicit false
namespace Ip
open PySem PyProof.Rows L2
end Ip
end
section
set_option Elab.async false
set_option linter.all false
set_option maxRecDepth 100000
set_option maxHeartbeats 4000000
set_option autoImplicit false
namespace Ip
open PySem PySem.Spec PyProof.Rows L2
end Ip
end
section
set_option Elab.async false
set_option linter.all false
set_option maxRecDepth 100000
set_option maxHeartbeats 4000000
set_option autoImplicit false
namespace Ip
open PySem PyProof.Rows L2
end Ip
end
section
set_option Elab.async false
set_option linter.all false
set_option maxRecDepth 100000
set_option maxHeartbeats 4000000
set_option autoImplicit false
namespace Ip
open PySem PySem.Spec PyProof.Rows L2
def lcS (t : DG) (ft : DT) (fe : DE) (src : Src) : Nat → Nat → List D → En → Sto → Out (List D)
  | 0, _, _, _, _ => .bad
  | f + 1, i, acc, env, M => match src.at_ i M with
    | none => .bad
    | some none => .ok acc M
    | some (some d) => match t d env with
      | none => .bad
      | some env1 => (noex (ft env1 M)).bind fun b M1 => if b then (noex (fe env1 M1)).bind fun y M2 => if acc.length < 16777216 then lcS t ft fe src f (i + 1) (acc ++ [y]) env M2 else .bad
        else lcS t ft fe src f (i + 1) acc env M1
def dLc2 (vs : List Nat) (t : DG) (fi : DI) (ft : DT) (fe : DE) : DE := fun env M => (fi env M).bind fun src M1 => (lcS t ft fe src 20000000 0 [] (wipeE env vs) M1).bind fun l M2 => .ok (.lst l) M2
theorem lcS_noexc {t : DG} {ft : DT} {fe : DE} {src : Src} : ∀ (f i : Nat) (acc : List D) (env : En) (M : Sto) (e : Exn) (ev : En) (M2 : Sto), lcS t ft fe src f i acc env M ≠ .exc e ev M2
  | 0, i, acc, env, M, e, ev, M2, z => by cases z
  | f + 1, i, acc, env, M, e, ev, M2, z => by
    unfold lcS at z
    split at z
    · cases z
    · cases z
    · split at z
      · cases z
      · cases h1 : ft _ M with
        | bad => rw [h1] at z; cases z
        | exc _ _ _ => rw [h1] at z; cases z
        | ok b M3 =>
          rw [h1] at z
          cases b with
          | false => exact lcS_noexc f _ _ _ _ _ _ _ z
          | true =>
            change (noex (fe _ M3)).bind _ = _ at z
            cases h2 : fe _ M3 with
            | bad => rw [h2] at z; cases z
            | exc _ _ _ => rw [h2] at z; cases z
            | ok y M4 =>
              rw [h2] at z
              change (if acc.length < 16777216 then _ else _) = _ at z
              split at z
              · exact lcS_noexc f _ _ _ _ _ _ _ z
              · cases z
section
variable {X : Cx} {cl : Str → Option Addr} {W : WX} {G : Gx}
theorem lc2_ok {vs : List Nat} {g : TG} {t : DG} {fi : DI} {ft : DT} {fe : DE} (hg : TgOk G vs g t) {σ : L2.St} {H : Hp} {Q : VK} (h : dE G W (dLc2 vs t fi ft fe) σ H Q) : tLc (dI2 G W fi) g (dT G W0 ft) (dE G W0 fe) vs σ H Q := by
  obtain ⟨ρ, env, M, hE, hS, h⟩ := h
  refine ⟨ρ, env, M, hE, hS, (post_bind h).imp (fun src M1 hx ρ1 H1 J e1 S1 good D hD => ?_) (fun _ _ _ z => z)⟩
  have hD1 : D ∉ ρ1 := S1.fresh hD
  refine ⟨fun i m H => ∃ (ρ : Rho) (M : Sto) (acc : List Ip.D) (av : List V), ρ.t = D :: ρ1.t ∧ Ext G H1 ρ1 H ⟨ρ.c, ρ1.t⟩ ∧ H D = some (.lst av) ∧ RVs G H ρ acc av ∧ RE G H ρ (wipeE env vs) (wipe σ vs) ∧ RS G H ρ M ∧
    (lcS t ft fe src m i acc (wipeE env vs) M).post (fun l M' => oP G H1 ρ1 Q (.lst l) M') (fun _ _ _ => False), ⟨20000000, ⟨ρ1.c, D :: ρ1.t⟩, M1, [], [], rfl, ?_, upd_same, .nil, ?_, ?_, ?_⟩, ?_⟩
  · exact Ext.new S1 hD
  · refine RE.mo (H := H1) (ρ := ρ1) ?_ ((hE.mono e1).wipe vs)
    exact ⟨fun _ _ z => z, fun a xs z => tpA_upd z (fun u w => by rw [hD] at w; cases w), fun a o n nt z => ⟨by rw [upd_ne (ne_of_none z hD)]; exact z, fun w => by
      rcases w with w | w
      · exact n (.inl w)
      · rcases List.mem_cons.mp w with w | w
        · exact ne_of_none z hD w
        · exact n (.inr w)⟩⟩
  · have mo : Mo G H1 ρ1 (upd H1 D (.lst [])) ⟨ρ1.c, D :: ρ1.t⟩ := ⟨fun _ _ z => z, fun a xs z => tpA_upd z (fun u w => by rw [hD] at w; cases w), fun a o n nt z => ⟨by rw [upd_ne (ne_of_none z hD)]; exact z, fun w => by
      rcases w with w | w
      · exact n (.inl w)
      · rcases List.mem_cons.mp w with w | w
        · exact ne_of_none z hD w
        · exact n (.inr w)⟩⟩
    refine ⟨S1.len, S1.nd, fun a ha hb => ?_, fun a ha => ?_, fun n c hc => ?_, S1.tb.keeps fun b u z _ => by rw [upd_ne (ne_of_none z hD)]; exact z⟩
    · rcases List.mem_cons.mp hb with z | z
      · exact hD1 (.inl (by rw [← z]; exact ha))
      · exact S1.dis a ha z
    · rcases List.mem_cons.mp ha with z | z
      · exact ⟨_, by rw [z]; exact upd_same, .inl ⟨_, rfl⟩⟩
      · rw [upd_ne (S1.ne_new hD (.inr z))]; exact S1.trt a z
    · obtain ⟨a, ha, q⟩ := S1.at_ n c hc
      exact ⟨a, ha, q.mo mo (upd_ne (S1.ne_new hD (.inl (List.mem_of_getElem? ha))))⟩
  · have hx' := post_bind hx
    cases hlc : lcS t ft fe src 20000000 0 [] (wipeE env vs) M1 with
    | ok l M2 => rw [hlc] at hx'; exact oP.sh e1 hx'
    | bad => rw [hlc] at hx'; exact hx'
    | exc e ev M2 => exact absurd hlc (lcS_noexc _ _ _ _ _ _ _ _)
  · rintro i m H2 ⟨ρ2, M2, acc, av, ht, x2, hDv, ra, E2, S2, q⟩
    have mk2 : ∀ (a : Addr) (o : HO), a ∉ ρ1 → (∀ ps, o ≠ .tbl ps) → H1 a = some o → H2 a = some o ∧ a ∉ ρ2 := fun a o n nt z => ⟨(x2.keep a o n nt z).1, fun w => by
      rcases w with w | w
      · exact (x2.keep a o n nt z).2 (.inl w)
      · rw [ht] at w
        rcases List.mem_cons.mp w with w | w
        · exact ne_of_none z hD w
        · exact n (.inr w)⟩
    have mo2 : Mo G H1 ρ1 H2 ρ2 := ⟨x2.pre, x2.tup, fun a o n p z => mk2 a o n p.tbl z⟩
    have hDt : D ∈ ρ2.t := by rw [ht]; exact List.mem_cons_self
    obtain ⟨g1, g2⟩ := good H2 ρ2 M2 mo2 S2 i
    cases m with
    | zero => exact q.elim
    | succ m =>
    unfold lcS at q
    split at q
    · exact q.elim
    · rename_i hat
      refine .inl ⟨g2 hat, q ⟨ρ2.c, ρ1.t⟩ (.ref D) H2 x2 ?_ ?_⟩
      · have mo : Mo G H2 ρ2 H2 ⟨ρ2.c, ρ1.t⟩ := ⟨fun _ _ z => z, fun _ _ z => z, fun a o n nt z => ⟨z, fun w => by
          rcases w with w | w
          · exact n (.inl w)
          · exact n (.inr (by rw [ht]; exact List.mem_cons_of_mem _ w))⟩⟩
        refine ⟨S2.len, S2.nd, fun a ha hb => S2.dis a ha (by rw [ht]; exact List.mem_cons_of_mem _ hb), fun a ha => S2.trt a (by rw [ht]; exact List.mem_cons_of_mem _ ha), fun n c hc => ?_, S2.tb⟩
        obtain ⟨a, ha, q⟩ := S2.at_ n c hc
        exact ⟨a, ha, q.mo mo rfl⟩
      · have mo : Mo G H2 ρ2 H2 ⟨ρ2.c, ρ1.t⟩ := ⟨fun _ _ z => z, fun _ _ z => z, fun a o n nt z => ⟨z, fun w => by
          rcases w with w | w
          · exact n (.inl w)
          · exact n (.inr (by rw [ht]; exact List.mem_cons_of_mem _ w))⟩⟩
        exact .lst hDv (fun w => by
          rcases w with w | w
          · exact S2.dis D w hDt
          · exact hD1 (.inr w)) (ra.mo mo)
    · rename_i d hat
      obtain ⟨go, yl⟩ := g1 d hat
      refine .inr ⟨go, fun H => ∃ (ρ : Rho) (M : Sto) (acc : List Ip.D) (av : List V), ρ.t = D :: ρ1.t ∧ Ext G H1 ρ1 H ⟨ρ.c, ρ1.t⟩ ∧ H D = some (.lst av) ∧ RVs G H ρ acc av ∧ RE G H ρ (wipeE env vs) (wipe σ vs) ∧ RS G H ρ M ∧
        (lcS t ft fe src m (i + 1) acc (wipeE env vs) M).post (fun l M' => oP G H1 ρ1 Q (.lst l) M') (fun _ _ _ => False), fun H' n2 => ⟨m, Nat.lt_succ_self _, n2⟩, fun x H3 y => ?_⟩
      obtain ⟨x3, rs3, r3⟩ := yl x H3 y
      split at q
      · exact q.elim
      · rename_i env1 he1
        refine hg H3 ρ2 x _ _ env1 _ _ (E2.mono x3) r3 he1 fun σ4 E4 w4 => ⟨w4.trans (by rw [wipe_eq (σ := wipe σ vs) (τ := σ) (vs := vs) (wipe_length _ _) fun j hj => wipe_out hj]), ?_⟩
        -- from where the turn began to where it is
        have step : ∀ {H5 : Hp} {ρ5 : Rho}, Ext G H2 ρ2 H5 ρ5 → Ext G H1 ρ1 H5 ⟨ρ5.c, ρ1.t⟩ ∧ ρ5.t = D :: ρ1.t ∧ H5 D = some (.lst av) := fun {H5 ρ5} x5 =>
          ⟨⟨fun n a z => x5.pre n a (x2.pre n a z), rfl, fun a z => (x5.same a (by rw [ht]; exact List.mem_cons_of_mem _ z)).trans (x2.same a z), fun a xs z => x5.tup a xs (x2.tup a xs z), fun a o n nt z => by
              obtain ⟨k1, k2⟩ := mk2 a o n nt z
              obtain ⟨k3, k4⟩ := x5.keep a o k2 nt k1
              exact ⟨k3, fun w => by
                rcases w with w | w
                · exact k4 (.inl w)
                · exact n (.inr w)⟩⟩, x5.res.trans ht, (x5.same D hDt).trans hDv⟩
        refine ⟨ρ2, env1, M2, E4, rs3, (noex_post (post_bind q)).imp (fun b M5 hb ρ5 H5 x5 S5 => ?_) (fun _ _ _ z => z)⟩
        cases b with
        | false =>
          obtain ⟨s1, s2, s3⟩ := step (x3.trans x5)
          exact ⟨ρ5, M5, acc, av, s2, s1, s3, ra.mono (x3.trans x5), E2.mono (x3.trans x5), S5, hb⟩
        | true =>
          rw [if_pos rfl]
          refine ⟨ρ5, env1, M5, E4.mono x5, S5, (noex_post (post_bind (show (Out.bind (noex (fe env1 M5)) _).post _ _ from hb))).imp (fun y M6 hy ρ6 v6 H6 x6 S6 r6 => ?_) (fun _ _ _ z => z)⟩
          obtain ⟨s1, s2, s3⟩ := step (x3.trans (x5.trans x6))
          split at hy
          · rename_i hlen
            have hD6 : D ∈ ρ6.t := by rw [s2]; exact List.mem_cons_self
            have mo6 : Mo G H6 ρ6 (upd H6 D (.lst (av ++ [v6]))) ρ6 := ⟨fun _ _ z => z, fun a xs z => tpA_upd z (fun u w => by rw [s3] at w; cases w; exact ⟨fun _ z => (by cases z), fun _ _ z => (by cases z)⟩), fun a o n nt z => ⟨by rw [upd_ne (fun w : a = D => n (by rw [w]; exact .inr hD6))]; exact z, n⟩⟩
            have la : av.length = acc.length := ra.length
            refine ⟨av, s3, by rw [la]; rw [sizeLine_eq]; exact hlen, ρ6, M6, acc ++ [y], av ++ [v6], s2, ⟨s1.pre, rfl, fun a z => ?_, fun a xs z => mo6.tup a xs (s1.tup a xs z), fun a o n nt z => ?_⟩, upd_same, ?_, (E2.mono (x3.trans (x5.trans x6))).mo mo6, ?_, hy⟩
            · rw [upd_ne (fun w : a = D => hD1 (by rw [← w]; exact .inr z))]
              exact s1.same a z
            · obtain ⟨k1, k2⟩ := s1.keep a o n nt z
              exact ⟨by rw [upd_ne (ne_of_none z hD)]; exact k1, k2⟩
            · exact ((ra.mono (x3.trans (x5.trans x6))).append (.one r6)).mo mo6
            · refine ⟨S6.len, S6.nd, S6.dis, fun a ha => ?_, fun n c hc => ?_, S6.tb.keeps fun b u z nz => by rw [upd_ne (fun w : b = D => nz (by rw [w, s3] at z; cases z; exact .inl ⟨_, rfl⟩))]; exact z⟩
              · by_cases z : a = D
                · exact ⟨_, by rw [z]; exact upd_same, .inl ⟨_, rfl⟩⟩
                · rw [upd_ne z]; exact S6.trt a ha
              · obtain ⟨a, ha, q⟩ := S6.at_ n c hc
                exact ⟨a, ha, q.mo mo6 (upd_ne (fun z : a = D => S6.dis a (List.mem_of_getElem? ha) (by rw [z]; exact hD6)))⟩
          · exact hy.elim
theorem se_lc2 {elt tg iter : Expr} {ifs : List Expr} {scope : Scope} {own : List (Str × Nat)} {pos : Pos} {g : TG} {t : DG} {fi : DI} {ft : DT} {fe : DE} (hc : X.calm = true) (hN : X.N.Nodup) (hi : SI2 X cl W tg iter fi) (ok : BlkOk X.N X.env.scope scope own)
    (hgp : ∀ (s : Shared) (H : Hp) (C : Addr) (c : List (Str × Addr)) (fp : List Addr), PG (X.blk s H scope (compEnvC scope c C X.env) fp) tg g) (hg : TgOk (gx X cl) (own.map (·.2)) g t)
    (ht : ∀ (s : Shared) (H : Hp) (C : Addr) (c : List (Str × Addr)) (fp : List Addr), PTs (X.blk s H scope (compEnvC scope c C X.env) fp) ifs (dT (gx X cl) W0 ft))
    (he : ∀ (s : Shared) (H : Hp) (C : Addr) (c : List (Str × Addr)) (fp : List Addr), PE (X.blk s H scope (compEnvC scope c C X.env) fp) elt (dE (gx X cl) W0 fe)) (hs : ∀ x, foldedSetIterable iter X.env x = pure x := by intro _; rfl) :
    SE X cl W (.ListComp elt [⟨tg, iter, ifs, 0⟩] scope pos) (dLc2 (own.map (·.2)) t fi ft fe) :=
  PEweak (pe_lc hc hN hi ok hgp ht he hs) fun σ H Q h => lc2_ok hg h
end
end Ip
end
section
set_option Elab.async false
set_option linter.all false
set_option maxRecDepth 100000
set_option maxHeartbeats 4000000
set_option autoImplicit false
namespace Ip
open PySem PySem.Spec PyProof.Rows L2
end Ip
end
section
set_option Elab.async false
set_option linter.all false
set_option maxRecDepth 100000
set_option maxHeartbeats 4000000
set_option autoImplicit false
namespace Ip
open PySem PyProof.Rows L2
end Ip
end
section
set_option Elab.async false
set_option linter.all false
set_option maxRecDepth 100000
set_option maxHeartbeats 1000000
set_option autoImplicit false
namespace Ip
open PySem PySem.Spec PyProof.Rows L2
mutual
def noTx : NestedKey → Bool
  | .text _ => false
  | .tup l => noTxs l
  | .none => true
  | .num _ => true
def noTxs : List NestedKey → Bool
  | [] => true
  | k :: l => noTx k && noTxs l
end
/-- at b stands the tuple k -/
structure NK (P : Program) (w : World) (h : Heap) (k : NestedKey) (b : Addr) : Prop where
  kind : (nestedKind P w).is h k b
  plain : noTx k = true
abbrev Lk2 := List (Addr × NestedKey)
/-- what stands in the set for one of them -/
def rowN (w : World) (q : Addr × NestedKey) : Int × Value := (q.2.hash w, Value.ref q.1)
section
variable {P : Program} {w : World} {A : Around} {E : Value → Shared → Prop} {s : Shared}
def ClsN (P : Program) (w : World) (n : Nat) (s : Shared) (v : Value) : Prop := ∀ (A : Around) (E : Value → Shared → Prop) (Q : Bool → Shared → Prop), Q false s → wpAny (model P w) A (ofAClassStatement n v) Q E s
def HbyN (P : Program) (w : World) (n : Nat) (s : Shared) (v : Value) : Prop := ∀ (A : Around) (E : Value → Shared → Prop) (Q : Bool → Shared → Prop), Q true s → wpAny (model P w) A (hashByValue n v) Q E s
theorem ClsN.tuple {n m : Nat} {b : Addr} {o : Obj} {vs : Array Value} (ho : s.heap.get? b = some o) (hc : o.cls = .type "tuple") (hd : o.data = .seq vs m) (all : ∀ v ∈ vs.toList, ClsN P w n s v) : ClsN P w (n + 1) s (.ref b) := fun A E Q q => by
  have ty : s.TypeIs (.ref b) "tuple" := ⟨o, ho, hc⟩
  unfold ofAClassStatement
  refine wpAny_bind (wpAny_typeOf ty ?_)
  have yes : (("tuple" : String) == "tuple") = true := by decide
  dsimp only
  simp only [yes, if_true, Bool.not_true, Bool.false_eq_true, if_false]
  try refine wpAny_bind (wpAny_pure ?_)
  try simp only [Bool.not_true, Bool.false_eq_true, if_false]
  refine wpAny_bind (m := seqItems? (.ref b)) (wpAny_seqItems ho hd ?_)
  dsimp only
  refine wpAny_bind ?_
  show wpAny _ _ (forIn vs _ _) _ _ s
  rw [← Array.forIn_toList]
  refine wpAny_forIn_list _ (fun l r u => (r.1 = none ∧ u = s) ∧ ∀ v ∈ l, ClsN P w n s v) _ ?_ ?_ _ _ ⟨⟨rfl, rfl⟩, all⟩
  · rintro v l r u ⟨⟨e, rfl⟩, al⟩
    refine wpAny_bind (al v List.mem_cons_self _ _ _ ?_)
    simp only [Bool.false_eq_true, if_false]
    exact wpAny_pure ⟨⟨rfl, rfl⟩, fun x hx => al x (List.mem_cons_of_mem _ hx)⟩
  · rintro ⟨a1, a2⟩ u ⟨⟨e, rfl⟩, _⟩
    have e : a1 = none := e
    subst e
    exact wpAny_pure q
theorem HbyN.tuple {n m : Nat} {b : Addr} {o : Obj} {vs : Array Value} (ho : s.heap.get? b = some o) (hc : o.cls = .type "tuple") (hd : o.data = .seq vs m) (all : ∀ v ∈ vs.toList, HbyN P w n s v) : HbyN P w (n + 1) s (.ref b) := fun A E Q q => by
  have ty : s.TypeIs (.ref b) "tuple" := ⟨o, ho, hc⟩
  unfold hashByValue
  refine wpAny_bind (wpAny_specialOf ty F.slot_tuple_hash.lookup ?_)
  refine wpAny_bind (m := seqItems? (.ref b)) (wpAny_seqItems ho hd ?_)
  refine wpAny_bind ?_
  show wpAny _ _ (forIn vs _ _) _ _ s
  rw [← Array.forIn_toList]
  refine wpAny_forIn_list _ (fun l r u => (r.1 = none ∧ u = s) ∧ ∀ v ∈ l, HbyN P w n s v) _ ?_ ?_ _ _ ⟨⟨rfl, rfl⟩, all⟩
  · rintro v l r u ⟨⟨e, rfl⟩, al⟩
    refine wpAny_bind (al v List.mem_cons_self _ _ _ ?_)
    simp only [Bool.not_true, Bool.false_eq_true, if_false]
    exact wpAny_pure ⟨⟨rfl, rfl⟩, fun x hx => al x (List.mem_cons_of_mem _ hx)⟩
  · rintro ⟨a1, a2⟩ u ⟨⟨e, rfl⟩, _⟩
    have e : a1 = none := e
    subst e
    exact wpAny_pure q
structure SN (P : Program) (w : World) (h : Heap) (a : Addr) (L : Lk2) (es : Array (Int × Value)) (ep : Nat) (T : SetTable) : Prop where
  obj : ∃ o, (h.get? a = some o ∧ o.data = .set es ep T) ∧ o.ExactSet
  ent : es.toList = L.map (rowN w)
  tab : TabOk T (L.map fun q => q.2.hash w)
  nod : (L.map Prod.snd).Nodup
  key : ∀ q ∈ L, NK P w h q.2 q.1
  flag : T.plain = true ∧ (w.params.followText "set-order" = true ∨ T.led = true)
  rm : 5 * L.length < 3 * T.mask
  fw : L.length ≤ 63
variable {a : Addr} {L : Lk2} {es : Array (Int × Value)} {ep : Nat} {T : SetTable}
end
end Ip
end
section
set_option Elab.async false
set_option linter.all false
set_option maxRecDepth 100000
set_option maxHeartbeats 1000000
set_option autoImplicit false
namespace Ip
open PySem PySem.Spec PyProof.Rows L2
section
variable {P : Program} {w : World} {A : Around} {E : Value → Shared → Prop} {s : Shared} {a : Addr} {L : Lk2} {es : Array (Int × Value)} {ep : Nat} {T : SetTable}
theorem SN.fresh {h : Heap} (ho : h.get? a = some (set0 w)) : SN P w h a [] #[] 0 (.fresh 0 0 (!w.params.followText "set-order")) := by
  have T := setTR_fresh (P := P) (w := w) ho
  exact ⟨⟨_, ⟨ho, rfl⟩, ⟨rfl, rfl, rfl⟩⟩, rfl, T.tab, List.nodup_nil, fun _ z => (by cases z), ⟨T.plain, T.led⟩, by have := T.room; simpa using this, Nat.zero_le _⟩
variable {S : Addr} {ks : Lk2}
end
end Ip
end
section
set_option Elab.async false
set_option linter.all false
set_option maxRecDepth 100000
set_option maxHeartbeats 4000000
set_option autoImplicit false
namespace Ip
open PySem PySem.Spec PyProof.Rows L2
end Ip
end
section
set_option Elab.async false
set_option linter.all false
set_option maxRecDepth 100000
set_option maxHeartbeats 4000000
set_option autoImplicit false
namespace Ip
open PySem PySem.Spec PyProof.Rows L2
end Ip
end
section
set_option Elab.async false
set_option linter.all false
set_option maxRecDepth 100000
set_option maxHeartbeats 4000000
set_option autoImplicit false
namespace Ip
open PySem PySem.Spec PyProof.Rows L2
def sgn (c : Nat) : Str := ⟨#[c]⟩
section
variable {X : Cx} {cl : Str → Option Addr} {W : WX} {G : Gx}
def signsD (z : Str) : List D := z.cps.toList.map fun c => D.str (sgn c)
def dIterS (fe : DE) : DA := fun env M => (fe env M).bind fun x M1 => match x with
  | .str z => .ok (signsD z) M1
  | _ => .bad
theorem good_str {H0 : Hp} {ρ0 : Rho} (z : Str) : Good (Its z) G (signsD z) ρ0 H0 := by
  intro H ρ mo i
  have hl : (signsD z).length = z.cps.size := by unfold signsD; rw [List.length_map, Array.length_toList]
  refine ⟨fun d hd => ?_, fun hi => by show z.cps.size ≤ i; omega⟩
  have hi : i < z.cps.size := by rw [← hl]; exact (List.getElem?_eq_some_iff.mp hd).1
  refine ⟨hi, fun x H' y _ => ?_⟩
  obtain ⟨rfl, c, hc, rfl⟩ := y
  unfold signsD at hd
  rw [List.getElem?_map, Array.getElem?_toList, hc] at hd
  cases hd
  exact ⟨.refl, fun _ z => z, .str _⟩
theorem si_iterS {tg e : Expr} {fe : DE} (he : SE X cl W e fe) : SI X cl W tg e (dIterS fe) :=
  PIweak (pi_str he) fun σ H R ⟨ρ, env, M, hE, hS, h⟩ => by
    refine ⟨ρ, env, M, hE, hS, (post_bind h).imp (fun x M1 hx ρ1 v H1 e1 S1 r1 => ?_) (fun _ _ _ z => z)⟩
    split at hx
    · rename_i z
      cases r1
      exact ⟨z, rfl, hx ρ1 H1 _ e1 S1 (good_str (G := gx X cl) z)⟩
    · exact hx.elim
def gLenS : GC := fun as M => match as with
  | [.str z] => if z.length ≤ 16777216 then some (.int (z.length : Nat), M) else none
  | _ => none
theorem cs_lenS : CallS G (fun xs H Q => ∃ z, xs = [.str z] ∧ z.length ≤ sizeLine ∧ Q (.int z.length) H) gLenS := fun H ρ M xs ds d M' Q S rs e h => by
  unfold gLenS at e
  split at e
  · rename_i z
    cases rs with
    | cons r1 r2 =>
      cases r1
      cases r2
      split at e
      · rename_i hz
        cases e
        exact ⟨z, rfl, by rw [sizeLine_eq]; exact hz, h ρ _ H .refl S (.int _)⟩
      · cases e
  · cases e
def gIxS : G2 := fun x y M => match x, y with
  | .str z, .int i => if z.length ≤ 16777216 then (L2.atI z.cps.toList i).map fun c => (.str (sgn c), M) else none
  | _, _ => none
theorem ops_ixS : OpS G rIxS gIxS := fun H ρ M x y dx dy d M' Q S rx ry e h => by
  unfold gIxS at e
  split at e
  · rename_i z i
    cases rx
    cases ry
    split at e
    · rename_i hz
      obtain ⟨c, hc, e⟩ := Option.map_eq_some_iff.mp e
      cases e
      exact ⟨z, i, c, rfl, rfl, by rw [sizeLine_eq]; exact hz, hc, h ρ _ H .refl S (.str _)⟩
    · cases e
  · cases e
theorem se_atS {a b : Expr} {fa fb : DE} {pos : Pos} (ha : SE X cl W a fa) (hb : SE X cl W b fb) (hs : PlainIx b := by exact fun _ _ => rfl) : SE X cl W (.Subscript a b pos) (dBin gIxS fa fb) := se_ix ix_str ops_ixS ha hb hs
def gInS : G2 := fun x y M => match x, y with
  | .str a, .str z => match a.cps.toList with
    | [c] => some (.bl (decide (c ∈ z.cps.toList)), M)
    | _ => none
  | _, _ => none
theorem ops_inS : OpS G (fun x y H Q => ∃ (c : Nat) (z : Str), x = .str ⟨#[c]⟩ ∧ y = .str z ∧ Q (.bl (decide (c ∈ z.cps.toList))) H) gInS := fun H ρ M x y dx dy d M' Q S rx ry e h => by
  unfold gInS at e
  split at e
  · rename_i a z
    cases rx
    cases ry
    split at e
    · rename_i c hc
      cases e
      refine ⟨c, z, ?_, rfl, h ρ _ H .refl S (.bl _)⟩
      obtain ⟨⟨l⟩⟩ := a
      simp only at hc
      rw [hc]
    · cases e
  · cases e
theorem se_inS {a b : Expr} {fa fb : DE} {pos : Pos} (ha : SE X cl W a fa) (hb : SE X cl W b fb) (hm : behindInMarks .In b = false := by rfl) : SE X cl W (.Compare a [.In] [b] pos) (dBin gInS fa fb) := se_cmp op_in_sign ops_inS ha hb hm
def mulOkB (x : Str) (n : Int) : Bool := decide (0 ≤ n) && decide (n ≤ 100000) && decide (x.length ≤ 100)
theorem mulOk_of {x : Str} {n : Int} (h : mulOkB x n = true) : MulOk x n := by
  unfold mulOkB at h
  simp only [Bool.and_eq_true, decide_eq_true_eq] at h
  obtain ⟨⟨h1, h2⟩, h3⟩ := h
  refine ⟨by rw [decide_eq_false (by omega), decide_eq_false (by omega)]; rfl, fun h4 h5 => ?_, fun h4 h5 => ?_⟩
  · have : (100 : Int) ≤ (2 ^ 63 - 1) / n := by
      rw [Int.le_ediv_iff_mul_le (by omega)]
      omega
    omega
  · have : x.length * n.toNat ≤ 100 * 100000 := Nat.mul_le_mul h3 (by omega)
    have hn := line63
    unfold Builtin.Str.tooLong
    rw [decide_eq_false]
    rw [sizeLine_eq]
    omega
theorem op_mulS : OpR X (binaryOp .Mult) (fun x y H Q => ∃ z n, x = .str z ∧ y = .int n ∧ MulOk z n ∧ Q (.str (Txt.mul z n)) H) := by
  intro pins s σ H x y v u Q I rx ry h
  obtain ⟨z, n, rfl, rfl, hz, q⟩ := h
  obtain ⟨t, rfl⟩ := rx
  obtain ⟨t', rfl⟩ := ry
  exact SB.mul hz (fun t' tk => ⟨.str _, H, I.tok _, ⟨_, rfl⟩, q⟩)
def gMulS : G2 := fun x y M => match x, y with
  | .str z, .int n => if mulOkB z n then some (.str (Txt.mul z n), M) else none
  | _, _ => none
theorem ops_mulS : OpS G (fun x y H Q => ∃ z n, x = .str z ∧ y = .int n ∧ MulOk z n ∧ Q (.str (Txt.mul z n)) H) gMulS := fun H ρ M x y dx dy d M' Q S rx ry e h => by
  unfold gMulS at e
  split at e
  · rename_i z n
    cases rx
    cases ry
    split at e
    · rename_i hz
      cases e
      exact ⟨z, n, rfl, rfl, mulOk_of hz, h ρ _ H .refl S (.str _)⟩
    · cases e
  · cases e
theorem se_mulS {a b : Expr} {fa fb : DE} {pos : Pos} (ha : SE X cl W a fa) (hb : SE X cl W b fb) : SE X cl W (.BinOp a .Mult b pos) (dBin gMulS fa fb) := se_bin op_mulS ops_mulS ha hb
def gDivW : G2 := gIntC (fun _ j => decide (0 < j) && decide (j < 1000000000000000000)) fun i j => i / j
theorem cdivW_of {i j : Int} (h1 : 0 < j) (h2 : j < 1000000000000000000) : CDivW i j := by
  refine ⟨h1, ?_⟩
  have : j.natAbs < 2 ^ 60 := by omega
  have := (Nat.log2_lt (by omega)).mpr this
  omega
theorem se_divW {a b : Expr} {fa fb : DE} {pos : Pos} (ha : SE X cl W a fa) (hb : SE X cl W b fb) : SE X cl W (.BinOp a .FloorDiv b pos) (dBin gDivW fa fb) := se_bin op_fdivW (ops_intC fun i j h => by
  simp only [Bool.and_eq_true, decide_eq_true_eq] at h
  exact cdivW_of h.1 h.2) ha hb
theorem g_divW (M : Sto) (i j : Int) (h : 0 < j) (h' : j < 1000000000000000000) : gDivW (.int i) (.int j) M = some (.int (i / j), M) := by
  simp [gDivW, gIntC, h, h']
def gIntT : GC := fun as M => match as with
  | [.str a] => if a.length ≤ 640 then (PySem.intText? a).map fun n => (.int n, M) else none
  | _ => none
theorem cs_intT : CallS G (fun xs H Q => ∃ a n, xs = [.str a] ∧ PySem.intText? a = some n ∧ a.length ≤ 640 ∧ Q (.int n) H) gIntT := fun H ρ M xs ds d M' Q S rs e h => by
  unfold gIntT at e
  split at e
  · rename_i a
    cases rs with
    | cons r1 r2 =>
      cases r1
      cases r2
      split at e
      · rename_i hz
        obtain ⟨n, hn, e⟩ := Option.map_eq_some_iff.mp e
        cases e
        exact ⟨a, n, rfl, hn, hz, h ρ _ H .refl S (.int _)⟩
      · cases e
  · cases e
def thawE (k : Nat) (M : Sto) (env : En) : En := env.map fun o => match o with
  | some d => thaw k M d
  | none => none
def dThaw2 (f1 f2 g : DS) : DS := fun env M => (f1 env M).bind fun fl M1 => match fl with
  | .nx env1 => (f2 env1 M1).bind fun fl2 M2 => match fl2 with
    | .nx env2 => if (M2.take M.length).all (cellClosed M.length) then g (thawE M.length M2 env2) (M2.take M.length) else .bad
    | _ => .bad
  | _ => .bad
theorem re_thaw {H : Hp} {ρ : Rho} {M : Sto} {env : En} {σ : L2.St} (hE : RE G H ρ env σ) (S : RS G H ρ M) (k : Nat) : RE G H (ρ.cut k) (thawE k M env) σ := by
  refine ⟨by unfold thawE; rw [List.length_map]; exact hE.1, fun i d h => ?_⟩
  unfold thawE at h
  rw [List.getElem?_map] at h
  cases e : env[i]? with
  | none => rw [e] at h; cases h
  | some o =>
    rw [e] at h
    cases o with
    | none => cases h
    | some d0 =>
      have h : thaw k M d0 = some d := Option.some.inj h
      obtain ⟨v, e1, r⟩ := hE.2 i d0 e
      exact ⟨v, e1, thaw_ok S r h⟩
theorem ss_thaw {st1 st2 : Stmt} {sts : List Stmt} {f1 f2 g : DS} (h1 : SS X cl W st1 f1) (h2 : SS X cl W st2 f2) (h3 : SSs X cl W sts g) : SSs X cl W (st1 :: st2 :: sts) (dThaw2 f1 f2 g) :=
  PSsweak (pss_cons h1 (pss_cons h2 h3)) fun D σ H ⟨ρ, env, M, hE, hS, h⟩ => by
    refine ⟨ρ, env, M, hE, hS, (post_bind h).imp (fun fl M1 hx => ?_) (fun _ _ _ z => z)⟩
    cases fl with
    | rt d => exact hx.elim
    | bk d => exact hx.elim
    | ct d => exact hx.elim
    | nx env1 =>
      intro ρ1 σ1 H1 e1 S1 E1
      refine ⟨ρ1, env1, M1, E1, S1, (post_bind hx).imp (fun fl2 M2 hy => ?_) (fun _ _ _ z => eP.sh e1 z)⟩
      cases fl2 with
      | rt d => exact hy.elim
      | bk d => exact hy.elim
      | ct d => exact hy.elim
      | nx env2 =>
        intro ρ2 σ2 H2 e2 S2 E2
        simp only at hy
        split at hy
        · rename_i hc
          have e3 := Ext.cut (M' := M2) hS (e1.trans e2)
          exact ⟨ρ2.cut M.length, thawE M.length M2 env2, M2.take M.length, re_thaw E2 S2 M.length, S2.cut hc, Out.post.imp hy (fun _ _ z => sP.sh e3 z) (fun _ _ _ z => eP.sh e3 z)⟩
        · exact hy.elim
def thawT (k : Nat) (M : Sto) (d : D) : Option D := match d with
  | .tup [.str s, x] => (thaw k M x).map fun y => .tup [.str s, y]
  | d => thaw k M d
theorem thawT_ok {H : Hp} {ρ : Rho} {k : Nat} {M : Sto} (S : RS G H ρ M) {d d' : D} {v : V} (r : RV G H ρ d v) (h : thawT k M d = some d') : RV G H (ρ.cut k) d' v := by
  unfold thawT at h
  split at h
  · rename_i s x
    cases e : thaw k M x with
    | none => rw [e] at h; cases h
    | some y =>
      rw [e] at h
      cases h
      cases r with
      | tup hs rs =>
        refine .tup hs ?_
        cases rs with
        | cons r1 rs =>
          cases rs with
          | cons r2 rs =>
            cases rs
            cases r1
            exact .cons (.str _) (.one (thaw_ok S r2 e))
  · exact thaw_ok S r h
def frzTO (k : Nat) (d : D) (M1 : Sto) : Out D := match thawT k M1 d with
  | some d' => if (M1.take k).all (cellClosed k) then .ok d' (M1.take k) else .bad
  | none => .bad
def frzT (F : DF) : DF := fun ds M => (F ds M).bind fun d M1 => frzTO M.length d M1
theorem frzTO_ok {H : Hp} {ρ : Rho} {M M1 : Sto} {d : D} {Q : VK} {E : Exn → En → Sto → Prop} (S : RS G H ρ M) (h : (frzTO M.length d M1).post (oP G H ρ Q) E) : oP G H ρ Q d M1 := by
  unfold frzTO at h
  split at h
  · rename_i d' hd
    split at h
    · rename_i hc
      intro ρ1 v H1 e1 S1 r1
      exact h (ρ1.cut M.length) v H1 (Ext.cut (M' := M1) S e1) (S1.cut hc) (thawT_ok S1 r1 hd)
    · exact h.elim
  · exact h.elim
theorem fn_frzT {P : Program} {w : World} {K : PySem.W.Frag} {mg : Str → Option Value} {base : Heap} {k : Nat} {f : Addr} {fd : FuncData} {ps : List Str} {G : Gx} {F : DF} (h : FnOk P w K mg base CX0 k f fd ps (spD G F)) : FnOk P w K mg base CX0 k f fd ps (spD G (frzT F)) :=
  h.imp fun _ _ _ _ ⟨ρ, M, ds, S, r, z⟩ => ⟨ρ, M, ds, S, r, (post_bind z).imp (fun d M1 hx => frzTO_ok S hx) (fun _ _ _ y => y)⟩
end
end Ip
end
section
set_option Elab.async false
set_option linter.all false
set_option maxRecDepth 100000
set_option maxHeartbeats 4000000
set_option autoImplicit false
namespace Ip
open PySem PyProof.Rows L2
section
variable {α β : Type} (env : En) (M : Sto)
theorem bind_ok (a : α) (k : α → Sto → Out β) : (Out.ok a M).bind k = k a M := rfl
theorem bind_bad (k : α → Sto → Out β) : (Out.bad : Out α).bind k = .bad := rfl
theorem liftM_some (d : D) : Ip.liftM (some (d, M)) = .ok d M := rfl
theorem liftM_none : Ip.liftM none = .bad := rfl
theorem noex_ok (a : α) : noex (.ok a M) = .ok a M := rfl
theorem noex_bad : noex (.bad : Out α) = .bad := rfl
def varO (o : Option (Option D)) (M : Sto) : Out D := match o with
  | some (some d) => .ok d M
  | _ => .bad
theorem ev_var (i : Nat) : dVar i env M = varO env[i]? M := rfl
theorem ev_varO (d : D) : varO (some (some d)) M = .ok d M := rfl
theorem celL_l (l : List D) : celL (some (.lst l)) = some l := rfl
theorem asL_ref (n : Nat) : asL (.ref n) M = celL M[n]? := rfl
theorem asL_lst (l : List D) : asL (.lst l) M = some l := rfl
theorem ev_c (d : D) : dC d env M = .ok d M := rfl
def kBin2 (g : G2) (x : D) : D → Sto → Out D := fun y M2 => Ip.liftM (g x y M2)
def kBin (g : G2) (fb : DE) (env : En) : D → Sto → Out D := fun x M1 => (fb env M1).bind (kBin2 g x)
theorem ev_bin (g : G2) (fa fb : DE) : dBin g fa fb env M = (fa env M).bind (kBin g fb env) := rfl
theorem ev_kBin (g : G2) (fb : DE) (x : D) : kBin g fb env x M = (fb env M).bind (kBin2 g x) := rfl
theorem ev_kBin2 (g : G2) (x y : D) : kBin2 g x y M = Ip.liftM (g x y M) := rfl
def kUn (g : D → Sto → Option (D × Sto)) : D → Sto → Out D := fun x M1 => Ip.liftM (g x M1)
theorem ev_un (g : D → Sto → Option (D × Sto)) (fa : DE) : dUn g fa env M = (fa env M).bind (kUn g) := rfl
theorem ev_kUn (g : D → Sto → Option (D × Sto)) (x : D) : kUn g x M = Ip.liftM (g x M) := rfl
theorem ev_nilA : dNilA env M = .ok [] M := rfl
def kCons2 (x : D) : List D → Sto → Out (List D) := fun xs M2 => .ok (x :: xs) M2
def kCons (fr : DA) (env : En) : D → Sto → Out (List D) := fun x M1 => (fr env M1).bind (kCons2 x)
theorem ev_consA (fa : DE) (fr : DA) : dConsA fa fr env M = (fa env M).bind (kCons fr env) := rfl
theorem ev_kCons (fr : DA) (x : D) : kCons fr env x M = (fr env M).bind (kCons2 x) := rfl
theorem ev_kCons2 (x : D) (xs : List D) : kCons2 x xs M = .ok (x :: xs) M := rfl
def kTup : List D → Sto → Out D := fun xs M1 => if xs.length ≤ 16777216 then .ok (.tup xs) M1 else .bad
def kLst : List D → Sto → Out D := fun xs M1 => if xs.length ≤ 16777216 then .ok (.lst xs) M1 else .bad
def kLstC : List D → Sto → Out D := fun xs M1 => if xs.length ≤ 16777216 then .ok (.ref M1.length) (M1 ++ [.lst xs]) else .bad
theorem ev_tup (fa : DA) : dTup fa env M = (fa env M).bind kTup := rfl
theorem ev_lst (fa : DA) : dLst fa env M = (fa env M).bind kLst := rfl
theorem ev_lstC (fa : DA) : dLstC fa env M = (fa env M).bind kLstC := rfl
theorem ev_kTup (xs : List D) (h : xs.length ≤ 16777216) : kTup xs M = .ok (.tup xs) M := if_pos h
theorem ev_kLst (xs : List D) (h : xs.length ≤ 16777216) : kLst xs M = .ok (.lst xs) M := if_pos h
theorem ev_kLstC (xs : List D) (h : xs.length ≤ 16777216) : kLstC xs M = .ok (.ref M.length) (M ++ [.lst xs]) := if_pos h
def kCallB (g : List D → Sto → Option (D × Sto)) : List D → Sto → Out D := fun xs M1 => Ip.liftM (g xs M1)
theorem ev_callB (g : List D → Sto → Option (D × Sto)) (fa : DA) : dCallB g fa env M = (fa env M).bind (kCallB g) := rfl
theorem ev_kCallB (g : List D → Sto → Option (D × Sto)) (xs : List D) : kCallB g xs M = Ip.liftM (g xs M) := rfl
def kCall (F : DF) : List D → Sto → Out D := fun xs M1 => noex (F xs M1)
theorem ev_call (F : DF) (fa : DA) : dCall F fa env M = (fa env M).bind (kCall F) := rfl
theorem ev_kCall (F : DF) (xs : List D) : kCall F xs M = noex (F xs M) := rfl
def kIfE (fa fb : DE) (env : En) : Bool → Sto → Out D := fun c M1 => if c then fa env M1 else fb env M1
theorem ev_ifE (ft : DT) (fa fb : DE) : dIfE ft fa fb env M = (ft env M).bind (kIfE fa fb env) := rfl
theorem ev_kIfE_t (fa fb : DE) : kIfE fa fb env true M = fa env M := rfl
theorem ev_kIfE_f (fa fb : DE) : kIfE fa fb env false M = fb env M := rfl
def kAndV (fb : DE) (env : En) : D → Sto → Out D := fun x M1 => match x with
  | .bl true => fb env M1
  | .bl false => .ok (.bl false) M1
  | _ => .bad
def kOrV (fb : DE) (env : En) : D → Sto → Out D := fun x M1 => match x with
  | .bl true => .ok (.bl true) M1
  | .bl false => fb env M1
  | _ => .bad
def kNotV : D → Sto → Out D := fun x M1 => match x with
  | .bl b => .ok (.bl (!b)) M1
  | _ => .bad
theorem ev_andV (fa fb : DE) : dAndV fa fb env M = (fa env M).bind (kAndV fb env) := rfl
theorem ev_orV (fa fb : DE) : dOrV fa fb env M = (fa env M).bind (kOrV fb env) := rfl
theorem ev_notV (fa : DE) : dNotV fa env M = (fa env M).bind kNotV := rfl
theorem ev_kAndV_t (fb : DE) : kAndV fb env (.bl true) M = fb env M := rfl
theorem ev_kAndV_f (fb : DE) : kAndV fb env (.bl false) M = .ok (.bl false) M := rfl
theorem ev_kOrV_t (fb : DE) : kOrV fb env (.bl true) M = .ok (.bl true) M := rfl
theorem ev_kOrV_f (fb : DE) : kOrV fb env (.bl false) M = fb env M := rfl
theorem ev_kNotV (b : Bool) : kNotV (.bl b) M = .ok (.bl (!b)) M := rfl
def kAnd (fb : DT) (env : En) : Bool → Sto → Out Bool := fun c M1 => if c then fb env M1 else .ok false M1
def kOr (fb : DT) (env : En) : Bool → Sto → Out Bool := fun c M1 => if c then .ok true M1 else fb env M1
def kNot : Bool → Sto → Out Bool := fun c M1 => .ok (!c) M1
theorem ev_and (fa fb : DT) : dAnd fa fb env M = (fa env M).bind (kAnd fb env) := rfl
theorem ev_or (fa fb : DT) : dOr fa fb env M = (fa env M).bind (kOr fb env) := rfl
theorem ev_not (fa : DT) : dNot fa env M = (fa env M).bind kNot := rfl
theorem ev_kAnd_t (fb : DT) : kAnd fb env true M = fb env M := rfl
theorem ev_kAnd_f (fb : DT) : kAnd fb env false M = .ok false M := rfl
theorem ev_kOr_t (fb : DT) : kOr fb env true M = .ok true M := rfl
theorem ev_kOr_f (fb : DT) : kOr fb env false M = fb env M := rfl
theorem ev_kNot (b : Bool) : kNot b M = .ok (!b) M := rfl
def kTru : D → Sto → Out Bool := fun x M1 => match truD x M1 with
  | some b => .ok b M1
  | none => .bad
def kB : D → Sto → Out Bool := fun x M1 => match x with
  | .bl b => .ok b M1
  | _ => .bad
theorem ev_tru (fa : DE) : dTru fa env M = (fa env M).bind kTru := rfl
theorem ev_b (fa : DE) : dB fa env M = (fa env M).bind kB := rfl
theorem ev_kTru_bl (b : Bool) : kTru (.bl b) M = .ok b M := rfl
theorem ev_kTru_lst (l : List D) : kTru (.lst l) M = .ok (!l.isEmpty) M := rfl
theorem ev_kTru_tup (l : List D) : kTru (.tup l) M = .ok (!l.isEmpty) M := rfl
def truO (o : Option (List D)) (M : Sto) : Out Bool := match o with
  | some l => .ok (!l.isEmpty) M
  | none => .bad
theorem ev_kTru_ref (n : Nat) : kTru (.ref n) M = truO (celL M[n]?) M := by
  unfold kTru truD truO celL
  simp only
  cases h : M[n]? with
  | none => rfl
  | some c => cases c <;> rfl
theorem ev_truO (l : List D) : truO (some l) M = .ok (!l.isEmpty) M := rfl
theorem ev_kB (b : Bool) : kB (.bl b) M = .ok b M := rfl
theorem ev_yes : dYes env M = .ok true M := rfl
def kCh3 (g' : G2) (y : D) : D → Sto → Out D := fun w M4 => Ip.liftM (g' y w M4)
def kCh2 (g' : G2) (fc : DE) (env : En) (y : D) : D → Sto → Out D := fun z M3 => match z with
  | .bl true => (fc env M3).bind (kCh3 g' y)
  | .bl false => .ok (.bl false) M3
  | _ => .bad
def kCh1 (g g' : G2) (fc : DE) (env : En) (x : D) : D → Sto → Out D := fun y M2 => (Ip.liftM (g x y M2)).bind (kCh2 g' fc env y)
def kCh0 (g g' : G2) (fb fc : DE) (env : En) : D → Sto → Out D := fun x M1 => (fb env M1).bind (kCh1 g g' fc env x)
theorem ev_chain (g g' : G2) (fa fb fc : DE) : dChain g g' fa fb fc env M = (fa env M).bind (kCh0 g g' fb fc env) := rfl
theorem ev_kCh0 (g g' : G2) (fb fc : DE) (x : D) : kCh0 g g' fb fc env x M = (fb env M).bind (kCh1 g g' fc env x) := rfl
theorem ev_kCh1 (g g' : G2) (fc : DE) (x y : D) : kCh1 g g' fc env x y M = (Ip.liftM (g x y M)).bind (kCh2 g' fc env y) := rfl
theorem ev_kCh2_t (g' : G2) (fc : DE) (y : D) : kCh2 g' fc env y (.bl true) M = (fc env M).bind (kCh3 g' y) := rfl
theorem ev_kCh2_f (g' : G2) (fc : DE) (y : D) : kCh2 g' fc env y (.bl false) M = .ok (.bl false) M := rfl
theorem ev_kCh3 (g' : G2) (y w : D) : kCh3 g' y w M = Ip.liftM (g' y w M) := rfl
def kSl3 (x : D) (lo : Option Int) : Option Int → Sto → Out D := fun hi M3 => Ip.liftM (gSl x lo hi M3)
def kSl2 (fh : DO) (env : En) (x : D) : Option Int → Sto → Out D := fun lo M2 => (fh env M2).bind (kSl3 x lo)
def kSl1 (fl fh : DO) (env : En) : D → Sto → Out D := fun x M1 => (fl env M1).bind (kSl2 fh env x)
theorem ev_sl (fe : DE) (fl fh : DO) : dSl fe fl fh env M = (fe env M).bind (kSl1 fl fh env) := rfl
theorem ev_kSl1 (fl fh : DO) (x : D) : kSl1 fl fh env x M = (fl env M).bind (kSl2 fh env x) := rfl
theorem ev_kSl2 (fh : DO) (x : D) (lo : Option Int) : kSl2 fh env x lo M = (fh env M).bind (kSl3 x lo) := rfl
theorem ev_kSl3 (x : D) (lo hi : Option Int) : kSl3 x lo hi M = Ip.liftM (gSl x lo hi M) := rfl
def kPart : D → Sto → Out (Option Int) := fun x M1 => match x with
  | .int i => .ok (some i) M1
  | _ => .bad
theorem ev_part (fe : DE) : dPart fe env M = (fe env M).bind kPart := rfl
theorem ev_kPart (i : Int) : kPart (.int i) M = .ok (some i) M := rfl
theorem ev_noPart : dNoPart env M = .ok none M := rfl
def kSeq (g : DS) : Fl → Sto → Out Fl := fun fl M1 => match fl with
  | .nx env1 => g env1 M1
  | o => .ok o M1
theorem ev_seq (f g : DS) : dSeq f g env M = (f env M).bind (kSeq g) := rfl
theorem ev_kSeq_nx (g : DS) : kSeq g (.nx env) M = g env M := rfl
theorem ev_kSeq_rt (g : DS) (d : D) : kSeq g (.rt d) M = .ok (.rt d) M := rfl
theorem ev_kSeq_bk (g : DS) : kSeq g (.bk env) M = .ok (.bk env) M := rfl
theorem ev_kSeq_ct (g : DS) : kSeq g (.ct env) M = .ok (.ct env) M := rfl
theorem ev_skip : dSkip env M = .ok (.nx env) M := rfl
def kSet (i : Nat) (env : En) : D → Sto → Out Fl := fun d M1 => .ok (.nx (env.set i (some d))) M1
theorem ev_set (i : Nat) (fe : DE) : dSet i fe env M = (fe env M).bind (kSet i env) := rfl
theorem ev_kSet (i : Nat) (d : D) : kSet i env d M = .ok (.nx (env.set i (some d))) M := rfl
def kDrop (env : En) : D → Sto → Out Fl := fun _ M1 => .ok (.nx env) M1
theorem ev_drop (fe : DE) : dDrop fe env M = (fe env M).bind (kDrop env) := rfl
theorem ev_kDrop (d : D) : kDrop env d M = .ok (.nx env) M := rfl
def kRet : D → Sto → Out Fl := fun d M1 => .ok (.rt d) M1
theorem ev_ret (fe : DE) : dRet fe env M = (fe env M).bind kRet := rfl
theorem ev_kRet (d : D) : kRet d M = .ok (.rt d) M := rfl
theorem ev_retN : dRetN env M = .ok (.rt .non) M := rfl
def kIf (fa fb : DS) (env : En) : Bool → Sto → Out Fl := fun c M1 => if c then fa env M1 else fb env M1
theorem ev_if (ft : DT) (fa fb : DS) : dIf ft fa fb env M = (ft env M).bind (kIf fa fb env) := rfl
theorem ev_kIf_t (fa fb : DS) : kIf fa fb env true M = fa env M := rfl
theorem ev_kIf_f (fa fb : DS) : kIf fa fb env false M = fb env M := rfl
theorem ev_bad : dBad env M = .bad := rfl
def kAsg (t : DG) (env : En) : D → Sto → Out Fl := fun d M1 => match t d env with
  | some env' => .ok (.nx env') M1
  | none => .bad
theorem ev_asg (t : DG) (fe : DE) : dAsg t fe env M = (fe env M).bind (kAsg t env) := rfl
def asgO (o : Option En) (M : Sto) : Out Fl := match o with
  | some env' => .ok (.nx env') M
  | none => .bad
theorem ev_kAsg (t : DG) (d : D) : kAsg t env d M = asgO (t d env) M := by
  unfold kAsg asgO
  cases t d env <;> rfl
theorem ev_asgO (env' : En) : asgO (some env') M = .ok (.nx env') M := rfl
def kPar (i j : Nat) (env : En) : List D → Sto → Out Fl := fun ds M1 => match ds with
  | [x, y] => .ok (.nx ((env.set i (some x)).set j (some y))) M1
  | _ => .bad
theorem ev_par (i j : Nat) (fa : DA) : dPar i j fa env M = (fa env M).bind (kPar i j env) := rfl
theorem ev_kPar (i j : Nat) (x y : D) : kPar i j env [x, y] M = .ok (.nx ((env.set i (some x)).set j (some y))) M := rfl
def kFor (t : DG) (fb : DS) (env : En) : List D → Sto → Out Fl := fun items M1 => forGo t fb items env M1
theorem ev_for (t : DG) (fi : DA) (fb : DS) : dFor t fi fb env M = (fi env M).bind (kFor t fb env) := rfl
theorem ev_kFor (t : DG) (fb : DS) (l : List D) : kFor t fb env l M = forGo t fb l env M := rfl
def kGo (t : DG) (fb : DS) (ds : List D) : Fl → Sto → Out Fl := fun fl M1 => match fl with
  | .nx e => forGo t fb ds e M1
  | .ct e => forGo t fb ds e M1
  | .bk e => .ok (.nx e) M1
  | .rt d => .ok (.rt d) M1
theorem ev_go_nil (t : DG) (fb : DS) : forGo t fb [] env M = .ok (.nx env) M := rfl
def goO (t : DG) (fb : DS) (ds : List D) (o : Option En) (M : Sto) : Out Fl := match o with
  | some env1 => (fb env1 M).bind (kGo t fb ds)
  | none => .bad
theorem ev_go_cons (t : DG) (fb : DS) (d : D) (ds : List D) : forGo t fb (d :: ds) env M = goO t fb ds (t d env) M := by
  unfold forGo goO; cases t d env <;> rfl
theorem ev_goO (t : DG) (fb : DS) (ds : List D) (env1 : En) : goO t fb ds (some env1) M = (fb env1 M).bind (kGo t fb ds) := rfl
theorem ev_kGo_nx (t : DG) (fb : DS) (ds : List D) : kGo t fb ds (.nx env) M = forGo t fb ds env M := rfl
theorem ev_kGo_ct (t : DG) (fb : DS) (ds : List D) : kGo t fb ds (.ct env) M = forGo t fb ds env M := rfl
theorem ev_kGo_rt (t : DG) (fb : DS) (ds : List D) (d : D) : kGo t fb ds (.rt d) M = .ok (.rt d) M := rfl
def kIter : D → Sto → Out (List D) := fun x M1 => match iterD x with
  | some l => .ok l M1
  | none => .bad
theorem ev_iter (fe : DE) : dIter fe env M = (fe env M).bind kIter := rfl
theorem ev_kIter_l (l : List D) : kIter (.lst l) M = .ok l M := rfl
theorem ev_kIter_t (l : List D) : kIter (.tup l) M = .ok l M := rfl
theorem ev_kIter_s (ns : List Int) : kIter (.scr ns) M = .ok (ns.map D.int) M := rfl
def kRng1 : List D → Sto → Out (List D) := fun ds M1 => match ds with
  | [.int j] => if in62 j then .ok (rngD 0 j.toNat) M1 else .bad
  | _ => .bad
def kRng2 : List D → Sto → Out (List D) := fun ds M1 => match ds with
  | [.int i, .int j] => if in62 i && in62 j then .ok (rngD i (j - i).toNat) M1 else .bad
  | _ => .bad
theorem ev_rng1 (fa : DA) : dRng1 fa env M = (fa env M).bind kRng1 := rfl
theorem ev_rng2 (fa : DA) : dRng2 fa env M = (fa env M).bind kRng2 := rfl
theorem ev_kRng1 (j : Int) (h : in62 j = true) : kRng1 [.int j] M = .ok (rngD 0 j.toNat) M := by unfold kRng1; simp only [h, if_true]
def kEnum : List D → Sto → Out (List D) := fun ds M1 => match ds with
  | [.lst l] => .ok (enumD 0 l) M1
  | [.tup l] => .ok (enumD 0 l) M1
  | _ => .bad
theorem ev_enum (fa : DA) : dEnumA fa env M = (fa env M).bind kEnum := rfl
theorem ev_kEnum_l (l : List D) : kEnum [.lst l] M = .ok (enumD 0 l) M := rfl
theorem ev_kEnum_t (l : List D) : kEnum [.tup l] M = .ok (enumD 0 l) M := rfl
def kFld (c f : Str) : D → Sto → Out D := fun x M1 => match objOf c x M1 with
  | some (ks, ds) => match (ks.zip ds).lookup f with
    | some d => .ok d M1
    | none => .bad
  | none => .bad
theorem ev_fld (c f : Str) (fe : DE) : dFld c f fe env M = (fe env M).bind (kFld c f) := rfl
def fldO (o : Option D) (M : Sto) : Out D := match o with
  | some d => .ok d M
  | none => .bad
theorem ev_kFld (c f : Str) (ks : List Str) (ds : List D) : kFld c f (.obj c ks ds) M = fldO ((ks.zip ds).lookup f) M := by
  unfold kFld objOf fldO
  simp only [if_true]
theorem ev_fldO (d : D) : fldO (some d) M = .ok d M := rfl
def kRun : Fl → Sto → Out D := fun fl M1 => match fl with
  | .nx _ => .ok .non M1
  | .rt d => .ok d M1
  | _ => .bad
theorem ev_runF (n m : Nat) (fb : DS) (ds : List D) (h : ds.length = m) : runF n m fb ds M = (fb (ds.map some ++ List.replicate (n - m) none) M).bind kRun := if_pos h
theorem ev_kRun_rt (d : D) : kRun (.rt d) M = .ok d M := rfl
theorem ev_kRun_nx : kRun (.nx env) M = .ok .non M := rfl
def kLm2 (g : GM) (x : D) : List D → Sto → Out D := fun as M2 => Ip.liftM (g x as M2)
def kLm (g : GM) (fa : DA) (env : En) : D → Sto → Out D := fun x M1 => match asL x M1 with
  | some _ => (fa env M1).bind (kLm2 g x)
  | none => .bad
theorem ev_lm (g : GM) (fo : DE) (fa : DA) : dLm g fo fa env M = (fo env M).bind (kLm g fa env) := rfl
def lmO (g : GM) (fa : DA) (env : En) (n : Nat) (o : Option (List D)) (M : Sto) : Out D := match o with
  | some _ => (fa env M).bind (kLm2 g (.ref n))
  | none => .bad
theorem ev_kLm (g : GM) (fa : DA) (n : Nat) : kLm g fa env (.ref n) M = lmO g fa env n (celL M[n]?) M := by
  unfold kLm lmO; rw [asL_ref]
theorem ev_lmO (g : GM) (fa : DA) (n : Nat) (l : List D) : lmO g fa env n (some l) M = (fa env M).bind (kLm2 g (.ref n)) := rfl
theorem ev_kLm2 (g : GM) (x : D) (as : List D) : kLm2 g x as M = Ip.liftM (g x as M) := rfl
theorem setL_ref (n : Nat) (k : List D → Option (List D)) : setL (.ref n) M k = (celL M[n]?).bind fun l => (k l).map fun l' => M.set n (.lst l') := by
  unfold setL celL
  simp only
  cases h : M[n]? with
  | none => rfl
  | some c => cases c <;> rfl
def appL (y : D) (l : List D) : Option (List D) := if l.length < 16777216 then some (l ++ [y]) else none
theorem g_app (n : Nat) (y : D) : gApp (.ref n) [y] M = ((celL M[n]?).bind fun l => (appL y l).map fun l' => M.set n (.lst l')).map (D.non, ·) := by
  show Option.map _ (setL (.ref n) M (appL y)) = _
  rw [setL_ref]
theorem g_clear (n : Nat) : gClear (.ref n) [] M = ((celL M[n]?).map fun _ => M.set n (.lst [])).map (D.non, ·) := by
  unfold gClear
  simp only
  rw [setL_ref]
  cases celL M[n]? <;> rfl
def kSetIx3 (x y : D) (env : En) : D → Sto → Out Fl := fun i M3 => match i with
  | .int k => match setL x M3 fun l => (ixN l.length k).map fun j => l.set j y with
    | some M4 => .ok (.nx env) M4
    | none => .bad
  | _ => .bad
def kSetIx2 (fi : DE) (env : En) (y : D) : D → Sto → Out Fl := fun x M2 => (fi env M2).bind (kSetIx3 x y env)
def kSetIx1 (fo fi : DE) (env : En) : D → Sto → Out Fl := fun y M1 => (fo env M1).bind (kSetIx2 fi env y)
theorem ev_setIx (fo fi fe : DE) : dSetIx fo fi fe env M = (fe env M).bind (kSetIx1 fo fi env) := rfl
theorem ev_kSetIx1 (fo fi : DE) (y : D) : kSetIx1 fo fi env y M = (fo env M).bind (kSetIx2 fi env y) := rfl
theorem ev_kSetIx2 (fi : DE) (y x : D) : kSetIx2 fi env y x M = (fi env M).bind (kSetIx3 x y env) := rfl
def setO (env : En) (o : Option Sto) : Out Fl := match o with
  | some M4 => .ok (.nx env) M4
  | none => .bad
def putL (k : Int) (y : D) (l : List D) : Option (List D) := (ixN l.length k).map fun j => l.set j y
theorem ev_kSetIx3 (n : Nat) (y : D) (k : Int) : kSetIx3 (.ref n) y env (.int k) M = setO env ((celL M[n]?).bind fun l => (putL k y l).map fun l' => M.set n (.lst l')) := by
  show (match setL (.ref n) M (putL k y) with
    | some M4 => Out.ok (Fl.nx env) M4
    | none => .bad) = _
  rw [setL_ref]
  unfold setO
  first | rfl | skip
theorem ev_setO : setO env (some M) = .ok (.nx env) M := rfl
theorem g_ixT (l : List D) (i : Int) : gIx (.tup l) (.int i) M = (atI l i).map (·, M) := rfl
theorem g_ixL (l : List D) (i : Int) : gIx (.lst l) (.int i) M = (atI l i).map (·, M) := rfl
theorem g_ixR (n : Nat) (i : Int) : gIx (.ref n) (.int i) M = (celL M[n]?).bind fun l => (atI l i).map (·, M) := by
  unfold gIx
  simp only [asL_ref]
  cases celL M[n]? <;> rfl
theorem g_add_i (i j : Int) : gAdd (.int i) (.int j) M = some (.int (i + j), M) := rfl
theorem g_sub (i j : Int) : Ip.gSub (.int i) (.int j) M = some (.int (i - j), M) := rfl
theorem g_lt (i j : Int) : gLt (.int i) (.int j) M = some (.bl (decide (i < j)), M) := rfl
theorem g_le (i j : Int) : gLe (.int i) (.int j) M = some (.bl (decide (i ≤ j)), M) := rfl
theorem g_gt (i j : Int) : gGt (.int i) (.int j) M = some (.bl (decide (j < i)), M) := rfl
theorem g_ge (i j : Int) : gGe (.int i) (.int j) M = some (.bl (decide (j ≤ i)), M) := rfl
theorem g_mod (i j : Int) (h : 0 < j) : gMod (.int i) (.int j) M = some (.int (i % j), M) := by simp [gMod, gIntC, h]
theorem g_mul (i j : Int) (h : in64 i = true ∨ in64 j = true) : gMul (.int i) (.int j) M = some (.int (i * j), M) := by
  have : (in64 i || in64 j) = true := by rw [Bool.or_eq_true]; exact h
  simp [gMul, orG, gIntC, this]
theorem g_is_n : gIs false .non .non M = some (.bl true, M) := rfl
theorem g_isnot_n : gIs true .non .non M = some (.bl false, M) := rfl
theorem g_is_i (i : Int) : gIs false (.int i) .non M = some (.bl false, M) := rfl
theorem g_isnot_i (i : Int) : gIs true (.int i) .non M = some (.bl true, M) := rfl
theorem g_is_t (l : List D) : gIs false (.tup l) .non M = some (.bl false, M) := rfl
theorem g_isnot_t (l : List D) : gIs true (.tup l) .non M = some (.bl true, M) := rfl
theorem g_eq (x y : D) : gEq false x y M = (eqD x y M).map fun b => (.bl b, M) := rfl
theorem g_ne (x y : D) : gEq true x y M = (eqD x y M).map fun b => (.bl (!b), M) := rfl
theorem eq_int (i j : Int) : eqD (.int i) (.int j) M = some (decide (i = j)) := by simp [eqD, toV, scal]
theorem eq_str (s t : Str) : eqD (.str s) (.str t) M = some (decide (s = t)) := by simp [eqD, toV, scal]
theorem eq_bl (s t : Bool) : eqD (.bl s) (.bl t) M = some (decide (s = t)) := by simp [eqD, toV, scal]
theorem eq_nn : eqD .non .non M = some true := by simp [eqD, toV, scal]
theorem eq_ni (i : Int) : eqD .non (.int i) M = some false := by simp [eqD, toV, scal]
theorem eq_in (i : Int) : eqD (.int i) .non M = some false := by simp [eqD, toV, scal]
theorem eq_t2 (a b c d : Int) : eqD (.tup [.int a, .int b]) (.tup [.int c, .int d]) M = some (decide (a = c ∧ b = d)) := by
  simp [eqD, toV, pyM, toPy, toPys, SeqAt.shaped, PyData.canLay0, PyData.canLayAll0, PyData.depth, PyData.depthAll, PyData.eqv, PyData.eqvAll, Bool.and_true]
  by_cases h1 : a = c <;> by_cases h2 : b = d <;> simp [h1, h2]
theorem g_lenT (l : List D) : gLen [.tup l] M = some (.int (l.length : Nat), M) := rfl
theorem g_lenL (l : List D) : gLen [.lst l] M = some (.int (l.length : Nat), M) := rfl
theorem g_lenR (n : Nat) : gLen [.ref n] M = (celL M[n]?).map fun l => (.int (l.length : Nat), M) := by
  unfold gLen
  simp only [asL_ref]
  cases celL M[n]? <;> rfl
theorem g_slT (l : List D) (lo hi : Option Int) : gSl (.tup l) lo hi M = some (.tup (Ip.cutD l lo hi), M) := rfl
theorem g_slL (l : List D) (lo hi : Option Int) : gSl (.lst l) lo hi M = some (.lst (Ip.cutD l lo hi), M) := rfl
theorem g_slS (ns : List Int) (lo hi : Option Int) : gSl (.scr ns) lo hi M = some (.lst (Ip.cutD (ns.map D.int) lo hi), M) := rfl
theorem at0 (a : α) (l : List α) : atI (a :: l) 0 = some a := atI_nat (j := 0) rfl
theorem at1 (a b : α) (l : List α) : atI (a :: b :: l) 1 = some b := atI_nat (j := 1) rfl
theorem at2 (a b c : α) (l : List α) : atI (a :: b :: c :: l) 2 = some c := atI_nat (j := 2) rfl
theorem at3 (a b c d : α) (l : List α) : atI (a :: b :: c :: d :: l) 3 = some d := atI_nat (j := 3) rfl
theorem at4 (a b c d e : α) (l : List α) : atI (a :: b :: c :: d :: e :: l) 4 = some e := atI_nat (j := 4) rfl
theorem atm1 (l : List α) (a : α) : atI (l ++ [a]) (-1) = some a := atI_last l a
def kLcEnd : List D → Sto → Out D := fun l M2 => .ok (.lst l) M2
def kLc (vs : List Nat) (t : DG) (ft : DT) (fe : DE) (env : En) : List D → Sto → Out D := fun items M1 => (lcGo t ft fe items [] (wipeE env vs) M1).bind kLcEnd
theorem ev_lc (vs : List Nat) (t : DG) (fi : DA) (ft : DT) (fe : DE) : dLc vs t fi ft fe env M = (fi env M).bind (kLc vs t ft fe env) := rfl
theorem ev_kLc (vs : List Nat) (t : DG) (ft : DT) (fe : DE) (l : List D) : kLc vs t ft fe env l M = (lcGo t ft fe l [] (wipeE env vs) M).bind kLcEnd := rfl
theorem ev_kLcEnd (l : List D) : kLcEnd l M = .ok (.lst l) M := rfl
def kLcE (t : DG) (ft : DT) (fe : DE) (ds acc : List D) (env : En) : D → Sto → Out (List D) := fun y M2 => if acc.length < 16777216 then lcGo t ft fe ds (acc ++ [y]) env M2 else .bad
def kLcT (t : DG) (ft : DT) (fe : DE) (ds acc : List D) (env env1 : En) : Bool → Sto → Out (List D) := fun b M1 => if b then (noex (fe env1 M1)).bind (kLcE t ft fe ds acc env) else lcGo t ft fe ds acc env M1
def lcO (t : DG) (ft : DT) (fe : DE) (ds acc : List D) (env : En) (o : Option En) (M : Sto) : Out (List D) := match o with
  | some env1 => (noex (ft env1 M)).bind (kLcT t ft fe ds acc env env1)
  | none => .bad
theorem ev_lc_nil (t : DG) (ft : DT) (fe : DE) (acc : List D) : lcGo t ft fe [] acc env M = .ok acc M := rfl
theorem ev_lc_cons (t : DG) (ft : DT) (fe : DE) (d : D) (ds acc : List D) : lcGo t ft fe (d :: ds) acc env M = lcO t ft fe ds acc env (t d env) M := by
  unfold lcGo lcO; cases t d env <;> rfl
theorem ev_lcO (t : DG) (ft : DT) (fe : DE) (ds acc : List D) (env1 : En) : lcO t ft fe ds acc env (some env1) M = (noex (ft env1 M)).bind (kLcT t ft fe ds acc env env1) := rfl
theorem ev_kLcT_t (t : DG) (ft : DT) (fe : DE) (ds acc : List D) (env1 : En) : kLcT t ft fe ds acc env env1 true M = (noex (fe env1 M)).bind (kLcE t ft fe ds acc env) := rfl
theorem ev_kLcT_f (t : DG) (ft : DT) (fe : DE) (ds acc : List D) (env1 : En) : kLcT t ft fe ds acc env env1 false M = lcGo t ft fe ds acc env M := rfl
theorem ev_kLcE (t : DG) (ft : DT) (fe : DE) (ds acc : List D) (y : D) (h : acc.length < 16777216) : kLcE t ft fe ds acc env y M = lcGo t ft fe ds (acc ++ [y]) env M := if_pos h
/-- a comprehension whose element changes nothing -/
theorem lc_map (t : DG) (fe : DE) (f : D → D) : ∀ (ds acc : List D), (∀ d ∈ ds, ∃ env1, t d env = some env1 ∧ fe env1 M = .ok (f d) M) → acc.length + ds.length ≤ 16777216 → lcGo t dYes fe ds acc env M = .ok (acc ++ ds.map f) M
  | [], acc, _, _ => by rw [ev_lc_nil, List.map_nil, List.append_nil]
  | d :: ds, acc, h, hl => by
    obtain ⟨env1, h1, h2⟩ := h d List.mem_cons_self
    have l1 : acc.length < 16777216 := by simp at hl; omega
    rw [ev_lc_cons, h1, ev_lcO, ev_yes, noex_ok, bind_ok, ev_kLcT_t, h2, noex_ok, bind_ok, ev_kLcE (h := l1), lc_map t fe f ds (acc ++ [f d]) (fun x hx => h x (List.mem_cons_of_mem _ hx)) (by simp at hl ⊢; omega)]
    simp
theorem g_isi_n (T : String) : gIsi T .non M = (isA "NoneType" T).map fun b => (.bl b, M) := rfl
theorem g_isi_b (T : String) (b : Bool) : gIsi T (.bl b) M = (isA "bool" T).map fun b => (.bl b, M) := rfl
theorem g_isi_i (T : String) (i : Int) : gIsi T (.int i) M = (isA "int" T).map fun b => (.bl b, M) := rfl
theorem g_isi_s (T : String) (s : Str) : gIsi T (.str s) M = (isA "str" T).map fun b => (.bl b, M) := rfl
theorem g_isi_t (T : String) (l : List D) : gIsi T (.tup l) M = (isA "tuple" T).map fun b => (.bl b, M) := rfl
theorem g_isi_l (T : String) (l : List D) : gIsi T (.lst l) M = (isA "list" T).map fun b => (.bl b, M) := rfl
theorem isA_ii : isA "int" "int" = some true := by decide +kernel
theorem isA_ib : isA "int" "bool" = some false := by decide +kernel
theorem isA_it : isA "int" "tuple" = some false := by decide +kernel
theorem isA_il : isA "int" "list" = some false := by decide +kernel
theorem isA_bi : isA "bool" "int" = some true := by decide +kernel
theorem isA_bb : isA "bool" "bool" = some true := by decide +kernel
theorem isA_bt : isA "bool" "tuple" = some false := by decide +kernel
theorem isA_bll : isA "bool" "list" = some false := by decide +kernel
theorem isA_ni : isA "NoneType" "int" = some false := by decide +kernel
theorem isA_nb : isA "NoneType" "bool" = some false := by decide +kernel
theorem isA_nt : isA "NoneType" "tuple" = some false := by decide +kernel
theorem isA_nl : isA "NoneType" "list" = some false := by decide +kernel
theorem isA_si : isA "str" "int" = some false := by decide +kernel
theorem isA_sb : isA "str" "bool" = some false := by decide +kernel
theorem isA_st : isA "str" "tuple" = some false := by decide +kernel
theorem isA_sl : isA "str" "list" = some false := by decide +kernel
theorem isA_tt : isA "tuple" "tuple" = some true := by decide +kernel
theorem isA_tl : isA "tuple" "list" = some false := by decide +kernel
theorem isA_ti : isA "tuple" "int" = some false := by decide +kernel
theorem isA_tb : isA "tuple" "bool" = some false := by decide +kernel
theorem isA_lt : isA "list" "tuple" = some false := by decide +kernel
theorem isA_ll : isA "list" "list" = some true := by decide +kernel
theorem isA_li : isA "list" "int" = some false := by decide +kernel
theorem isA_lb : isA "list" "bool" = some false := by decide +kernel
theorem g_neg (i : Int) : gNeg (.int i) M = some (.int (-i), M) := rfl
theorem g_all (l : List D) : gAll [.lst l] M = (bls l).map fun bs => (.bl (bs.all id), M) := rfl
theorem bls_nil : bls [] = some [] := rfl
theorem bls_cons (b : Bool) (l : List D) : bls (.bl b :: l) = (bls l).map (b :: ·) := rfl
def kSetFld2 (c f : Str) (y : D) (env : En) : D → Sto → Out Fl := fun x M2 => match x with
  | .ref n => match M2[n]? with
    | some (.ins c' ks ds) => if c' = c ∧ ks.length < 1000 then .ok (.nx env) (M2.set n (.ins c' (putKs f ks) (putVs f y ks ds))) else .bad
    | _ => .bad
  | _ => .bad
def kSetFld1 (c f : Str) (fo : DE) (env : En) : D → Sto → Out Fl := fun y M1 => (fo env M1).bind (kSetFld2 c f y env)
theorem ev_setFld (c f : Str) (fo fe : DE) : dSetFld c f fo fe env M = (fe env M).bind (kSetFld1 c f fo env) := rfl
theorem ev_kSetFld1 (c f : Str) (fo : DE) (y : D) : kSetFld1 c f fo env y M = (fo env M).bind (kSetFld2 c f y env) := rfl
def kMake2 (k : Nat) : D → Sto → Out D := fun d M2 => match d with
  | .non => frzO k (.ref k) M2
  | _ => .bad
def kMake (c : Str) (F : DF) : List D → Sto → Out D := fun ds M1 => (noex (F (.ref M1.length :: ds) (M1 ++ [.ins c [] []]))).bind (kMake2 M1.length)
theorem ev_make (c : Str) (F : DF) (fa : DA) : dMake c F fa env M = (fa env M).bind (kMake c F) := rfl
theorem ev_kMake (c : Str) (F : DF) (ds : List D) : kMake c F ds M = (noex (F (.ref M.length :: ds) (M ++ [.ins c [] []]))).bind (kMake2 M.length) := rfl
theorem ev_kMake2 (k : Nat) : kMake2 k .non M = frzO k (.ref k) M := rfl
def kMeth2 (F : DF) (x : D) : List D → Sto → Out D := fun as M2 => noex (F (x :: as) M2)
def kMeth (c m : Str) (F : DF) (fa : DA) (env : En) : D → Sto → Out D := fun x M1 => match objOf c x M1 with
  | some (ks, ds) => match (ks.zip ds).lookup m with
    | none => (fa env M1).bind (kMeth2 F x)
    | some _ => .bad
  | none => .bad
theorem ev_meth (c m : Str) (F : DF) (fo : DE) (fa : DA) : dMeth c m F fo fa env M = (fo env M).bind (kMeth c m F fa env) := rfl
theorem ev_kMeth2 (F : DF) (x : D) (as : List D) : kMeth2 F x as M = noex (F (x :: as) M) := rfl
def kLenO2 : D → Sto → Out D := fun d M2 => match d with
  | .int n => if 0 ≤ n ∧ n < 2 ^ 63 then .ok (.int n) M2 else .bad
  | _ => .bad
def kLenO (c : Str) (F : DF) : D → Sto → Out D := fun x M1 => match objOf c x M1 with
  | some _ => (noex (F [x] M1)).bind kLenO2
  | none => .bad
theorem ev_lenO (c : Str) (F : DF) (fe : DE) : dLenO c F fe env M = (fe env M).bind (kLenO c F) := rfl
theorem ev_kLenO (c : Str) (F : DF) (ks : List Str) (ds : List D) : kLenO c F (.obj c ks ds) M = (noex (F [.obj c ks ds] M)).bind kLenO2 := by
  unfold kLenO objOf
  simp only [if_true]
def kReprO2 : D → Sto → Out D := fun d M2 => match d with
  | .str m => .ok (.str m) M2
  | _ => .bad
def kReprO (c : Str) (F : DF) : D → Sto → Out D := fun x M1 => match objOf c x M1 with
  | some _ => (noex (F [x] M1)).bind kReprO2
  | none => .bad
theorem ev_reprO (c : Str) (F : DF) (fe : DE) : dReprO c F fe env M = (fe env M).bind (kReprO c F) := rfl
theorem ev_kReprO (c : Str) (F : DF) (ks : List Str) (ds : List D) : kReprO c F (.obj c ks ds) M = (noex (F [.obj c ks ds] M)).bind kReprO2 := by
  unfold kReprO objOf
  simp only [if_true]
theorem ev_kReprO2 (m : Str) : kReprO2 (.str m) M = .ok (.str m) M := rfl
def kFmt : D → Sto → Out D := fun x M1 => match x with
  | .str y => if y.length ≤ 16777216 then .ok (.str y) M1 else .bad
  | .int i => if i.natAbs.log2 < 1920 then .ok (.str (toString i)) M1 else .bad
  | _ => .bad
theorem ev_fmt (fe : DE) : dFmt fe env M = (fe env M).bind kFmt := rfl
def kJs (fs : List DE) (acc : Str) (env : En) : D → Sto → Out D := fun x M1 => match x with
  | .str y => if (acc ++ y).length ≤ 16777216 then dJs fs (acc ++ y) env M1 else .bad
  | _ => .bad
theorem ev_js_nil (acc : Str) : dJs [] acc env M = .ok (.str acc) M := rfl
theorem ev_js_cons (f : DE) (fs : List DE) (acc : Str) : dJs (f :: fs) acc env M = (f env M).bind (kJs fs acc env) := rfl
theorem g_listC (l : List D) : gListC [.lst l] M = some (.ref M.length, M ++ [.lst l]) := rfl
theorem g_tupleR (n : Nat) : gTuple [.ref n] M = (celL M[n]?).map fun l => (.tup l, M) := by
  show (asL (.ref n) M).map _ = _
  rw [asL_ref]
def kForS (t : DG) (fb : DS) (env : En) : Src → Sto → Out Fl := fun src M1 => forS t fb src 20000000 0 env M1
theorem ev_forS (t : DG) (fi : DI) (fb : DS) : dForS t fi fb env M = (fi env M).bind (kForS t fb env) := rfl
theorem ev_kForS (t : DG) (fb : DS) (src : Src) : kForS t fb env src M = forS t fb src 20000000 0 env M := rfl
def srcO (o : Option Src) (M : Sto) : Out Src := match o with
  | some s => .ok s M
  | none => .bad
def kIter2 : D → Sto → Out Src := fun x M1 => srcO (srcD x M1) M1
def kEnum2 : D → Sto → Out Src := fun x M1 => srcO (esrcD x M1) M1
theorem ev_iter2 (fe : DE) : dIter2 fe env M = (fe env M).bind kIter2 := rfl
theorem ev_enum2 (fe : DE) : dEnum2 fe env M = (fe env M).bind kEnum2 := rfl
theorem ev_kIter2_l (l : List D) : kIter2 (.lst l) M = .ok (.items l) M := rfl
theorem ev_kIter2_t (l : List D) : kIter2 (.tup l) M = .ok (.items l) M := rfl
theorem ev_kIter2_s (ns : List Int) : kIter2 (.scr ns) M = .ok (.items (ns.map D.int)) M := rfl
theorem ev_kEnum2_l (l : List D) : kEnum2 (.lst l) M = .ok (.items (enumD 0 l)) M := rfl
theorem ev_kEnum2_t (l : List D) : kEnum2 (.tup l) M = .ok (.items (enumD 0 l)) M := rfl
end
end Ip
end
section
set_option Elab.async false
set_option linter.all false
set_option maxRecDepth 100000
set_option maxHeartbeats 4000000
set_option autoImplicit false
namespace Ip
open PySem PyProof.Rows L2
end Ip
end
section
set_option Elab.async false
set_option linter.all false
set_option maxRecDepth 100000
set_option maxHeartbeats 1000000
set_option autoImplicit false
namespace Ip
open PySem L2
def Pr (α : Type) : Type := (α → Prop) → (Exn → Prop) → Prop
namespace Pr
variable {α β γ : Type}
def ok (a : α) : Pr α := fun Q _ => Q a
def bad : Pr α := fun _ _ => False
def exc (e : Exn) : Pr α := fun _ E => E e
def bind (p : Pr α) (k : α → Pr β) : Pr β := fun Q E => p (fun a => k a Q E) E
def need (c : Prop) (p : Pr α) : Pr α := fun Q E => c ∧ p Q E
theorem ok_bind (a : α) (k : α → Pr β) : (ok a).bind k = k a := rfl
/-- one of the numbers below n -/
def pull (n : Int) : Pr Int := fun Q _ => 0 < n ∧ n < 1073741824 ∧ ∀ v, 0 ≤ v → v < n → Q v
/-- one of these -/
def of (l : List α) : Pr α := fun Q _ => l ≠ [] ∧ l.length < 1073741824 ∧ ∀ x ∈ l, Q x
end Pr
class Enc (α : Type) where
  enc : α → D
  cls : ∀ a k, closed k (enc a) = true
  inj : ∀ a b, enc a = enc b → a = b
abbrev en {α : Type} [Enc α] (a : α) : D := Enc.enc a
instance : Enc Int := ⟨D.int, fun _ _ => rfl, fun _ _ h => by cases h; rfl⟩
instance : Enc Bool := ⟨D.bl, fun _ _ => rfl, fun _ _ h => by cases h; rfl⟩
instance : Enc Str := ⟨D.str, fun _ _ => rfl, fun _ _ h => by cases h; rfl⟩
instance : Enc Unit := ⟨fun _ => D.non, fun _ _ => rfl, fun _ _ _ => rfl⟩
theorem closedAll_map {α : Type} [Enc α] (k : Nat) : ∀ l : List α, closedAll k (l.map en) = true
  | [] => rfl
  | x :: l => by simp [closedAll, Enc.cls x k, closedAll_map k l]
theorem map_inj {α : Type} [Enc α] : ∀ l l' : List α, l.map en = l'.map en → l = l'
  | [], [], _ => rfl
  | [], _ :: _, h => by simp at h
  | _ :: _, [], h => by simp at h
  | x :: l, y :: l', h => by
    simp only [List.map_cons, List.cons.injEq] at h
    rw [Enc.inj x y h.1, map_inj l l' h.2]
instance {α : Type} [Enc α] : Enc (List α) := ⟨fun l => .lst (l.map en), fun l k => by simp [closed, closedAll_map], fun a b h => map_inj a b (D.lst.inj h)⟩
instance {α β : Type} [Enc α] [Enc β] : Enc (α × β) := ⟨fun p => .tup [en p.1, en p.2], fun p k => by simp [closed, closedAll, Enc.cls], fun a b h => by
  have h' : [en a.1, en a.2] = [en b.1, en b.2] := D.tup.inj h
  simp only [List.cons.injEq, and_true] at h'
  exact Prod.ext (Enc.inj _ _ h'.1) (Enc.inj _ _ h'.2)⟩
/-- never None -/
class NoN (α : Type) [Enc α] : Prop where
  non : ∀ a : α, en a ≠ D.non
instance : NoN Int := ⟨fun _ h => by cases h⟩
instance : NoN Bool := ⟨fun _ h => by cases h⟩
instance : NoN Str := ⟨fun _ h => by cases h⟩
instance {α : Type} [Enc α] : NoN (List α) := ⟨fun _ h => by cases h⟩
instance {α β : Type} [Enc α] [Enc β] : NoN (α × β) := ⟨fun _ h => by cases h⟩
def enO {α : Type} [Enc α] : Option α → D
  | none => .non
  | some a => en a
instance {α : Type} [Enc α] [NoN α] : Enc (Option α) := ⟨enO, fun p k => by
    cases p with
    | none => rfl
    | some a => exact Enc.cls a k, fun a b h => by
    cases a with
    | none => cases b with
      | none => rfl
      | some b => exact absurd h.symm (NoN.non b)
    | some a => cases b with
      | none => exact absurd h (NoN.non a)
      | some b => rw [Enc.inj a b h]⟩
structure T3 (α β γ : Type) where
  p1 : α
  p2 : β
  p3 : γ
structure T4 (α β γ δ : Type) where
  p1 : α
  p2 : β
  p3 : γ
  p4 : δ
instance {α β γ : Type} [Enc α] [Enc β] [Enc γ] : Enc (T3 α β γ) := ⟨fun p => .tup [en p.p1, en p.p2, en p.p3], fun p k => by simp [closed, closedAll, Enc.cls], fun a b h => by
  have h' := D.tup.inj h
  simp only [List.cons.injEq, and_true] at h'
  cases a; cases b
  simp only [T3.mk.injEq]
  exact ⟨Enc.inj _ _ h'.1, Enc.inj _ _ h'.2.1, Enc.inj _ _ h'.2.2⟩⟩
instance {α β γ δ : Type} [Enc α] [Enc β] [Enc γ] [Enc δ] : Enc (T4 α β γ δ) := ⟨fun p => .tup [en p.p1, en p.p2, en p.p3, en p.p4], fun p k => by simp [closed, closedAll, Enc.cls], fun a b h => by
  have h' := D.tup.inj h
  simp only [List.cons.injEq, and_true] at h'
  cases a; cases b
  simp only [T4.mk.injEq]
  exact ⟨Enc.inj _ _ h'.1, Enc.inj _ _ h'.2.1, Enc.inj _ _ h'.2.2.1, Enc.inj _ _ h'.2.2.2⟩⟩
instance {α β γ : Type} [Enc α] [Enc β] [Enc γ] : NoN (T3 α β γ) := ⟨fun _ h => by cases h⟩
instance {α β γ δ : Type} [Enc α] [Enc β] [Enc γ] [Enc δ] : NoN (T4 α β γ δ) := ⟨fun _ h => by cases h⟩
/-- a tree without cells, of any kind -/
structure Da where
  d : D
  c : ∀ k, closed k d = true
instance : Enc Da := ⟨Da.d, fun a k => a.c k, fun a b h => by cases a; cases b; cases h; rfl⟩
def da {α : Type} [Enc α] (a : α) : Da := ⟨en a, fun k => Enc.cls a k⟩
/-- no cell speaks of another one -/
def PureS (M : Sto) : Prop := ∀ k, M.all (cellClosed k) = true
def bagD (ns : List Int) (i j m c : Int) : List D := [.lst (ns.map D.int), .int i, .int j, .int m, .int c]
def BagOk (l : List D) : Prop := ∃ ns i j m c, l = bagD ns i j m c ∧ 0 ≤ i ∧ 0 ≤ j ∧ 0 ≤ m ∧ m < 2147483563 ∧ 0 ≤ c
theorem PureS.app {M N : Sto} (h : PureS M) (h' : PureS N) : PureS (M ++ N) := fun k => by rw [List.all_append, h k, h' k]; rfl
theorem PureS.of_app {M N : Sto} (h : PureS (M ++ N)) : PureS M ∧ PureS N := ⟨fun k => by have := h k; rw [List.all_append, Bool.and_eq_true] at this; exact this.1, fun k => by have := h k; rw [List.all_append, Bool.and_eq_true] at this; exact this.2⟩
theorem PureS.one {c : Cell} (h : ∀ k, cellClosed k c = true) : PureS [c] := fun k => by simp [h k]
theorem PureS.set {M : Sto} (h : PureS M) (n : Nat) {c : Cell} (hc : ∀ k, cellClosed k c = true) : PureS (M.set n c) := fun k => by
  rw [List.all_eq_true]
  intro x hx
  rcases List.mem_or_eq_of_mem_set hx with z | z
  · exact List.all_eq_true.mp (h k) x z
  · rw [z]; exact hc k
theorem PureS.nil : PureS [] := fun _ => rfl
theorem closed_bagD (ns : List Int) (i j m c : Int) (k : Nat) : closedAll k (bagD ns i j m c) = true := by
  have := closedAll_map (α := Int) k ns
  simp only [bagD, closedAll, closed, Bool.and_true]
  exact this
theorem bag_closed {b : List D} (h : BagOk b) (k : Nat) : cellClosed k (.lst b) = true := by
  obtain ⟨ns, i, j, m, c, rfl, _⟩ := h
  exact closed_bagD ns i j m c k
/-- the store: what stood before, as P says, and the cells cs -/
structure St (N : Nat) (P : Sto → Prop) (cs : List (Nat × Cell)) (M : Sto) : Prop where
  base : ∃ A J, P A ∧ A.length = N ∧ M = A ++ J
  pure : PureS M
  nd : (cs.map Prod.fst).Nodup
  cell : ∀ p ∈ cs, N ≤ p.1 ∧ M[p.1]? = some p.2
section
variable {N : Nat} {P : Sto → Prop} {cs : List (Nat × Cell)} {M : Sto}
theorem St.get (h : St N P cs M) (i : Nat) {n : Nat} {c : Cell} (hi : cs[i]? = some (n, c)) : M[n]? = some c := (h.cell _ (List.mem_of_getElem? hi)).2
theorem St.new (h : St N P cs M) {c : Cell} (hc : ∀ k, cellClosed k c = true) : St N P (cs ++ [(M.length, c)]) (M ++ [c]) := by
  obtain ⟨A, J, hP, e, rfl⟩ := h.base
  refine ⟨⟨A, J ++ [c], hP, e, by simp⟩, h.pure.app (.one hc), ?_, ?_⟩
  · rw [List.map_append, List.nodup_append]
    refine ⟨h.nd, by simp, ?_⟩
    intro a ha b hb
    obtain ⟨p, hp, rfl⟩ := List.mem_map.mp ha
    have := (List.getElem?_eq_some_iff.mp (h.cell p hp).2).1
    simp only [List.map_cons, List.map_nil, List.mem_singleton] at hb
    omega
  · intro p hp
    rcases List.mem_append.mp hp with z | z
    · have := h.cell p z
      refine ⟨this.1, ?_⟩
      rw [List.getElem?_append_left (List.getElem?_eq_some_iff.mp this.2).1]
      exact this.2
    · have : p = ((A ++ J).length, c) := by simpa using z
      subst this
      exact ⟨by simp; omega, by simp⟩
theorem nodup_set_fst : ∀ (cs : List (Nat × Cell)) (i : Nat) (n : Nat) (c c' : Cell), cs[i]? = some (n, c) → (cs.set i (n, c')).map Prod.fst = cs.map Prod.fst
  | [], _, _, _, _, h => by simp at h
  | p :: cs, 0, n, c, c', h => by
    have : p = (n, c) := by simpa using h
    subst this; rfl
  | p :: cs, i + 1, n, c, c', h => by
    simp only [List.set_cons_succ, List.map_cons]
    rw [nodup_set_fst cs i n c c' (by simpa using h)]
theorem St.set (h : St N P cs M) (i : Nat) {n : Nat} {c c' : Cell} (hi : cs[i]? = some (n, c)) (hc : ∀ k, cellClosed k c' = true) : St N P (cs.set i (n, c')) (M.set n c') := by
  obtain ⟨A, J, hP, e, rfl⟩ := h.base
  have hn := h.cell _ (List.mem_of_getElem? hi)
  have hlt := (List.getElem?_eq_some_iff.mp hn.2).1
  simp only at hn hlt
  refine ⟨⟨A, J.set (n - N) c', hP, e, ?_⟩, h.pure.set n hc, ?_, ?_⟩
  · rw [List.set_append_right _ _ (by omega), e]
  · rw [nodup_set_fst cs i n c c' hi]; exact h.nd
  · intro p hp
    rcases List.getElem_of_mem hp with ⟨j, hj, ej⟩
    have hj' : (cs.set i (n, c'))[j]? = some p := by rw [List.getElem?_eq_getElem hj, ej]
    by_cases hji : j = i
    · subst hji
      rw [List.getElem?_set_self (by simpa using hj)] at hj'
      cases hj'
      exact ⟨hn.1, by simp only; rw [List.getElem?_set_self hlt]⟩
    · rw [List.getElem?_set_ne (Ne.symm hji)] at hj'
      have hp' := h.cell p (List.mem_of_getElem? hj')
      refine ⟨hp'.1, ?_⟩
      rw [List.getElem?_set_ne]
      · exact hp'.2
      · intro z
        have h1 : (cs.map Prod.fst)[j]? = some p.1 := by rw [List.getElem?_map, hj']; rfl
        have h2 : (cs.map Prod.fst)[i]? = some n := by rw [List.getElem?_map, hi]; rfl
        rw [← z] at h1
        exact hji ((List.getElem?_inj (List.getElem?_eq_some_iff.mp h1).1 h.nd).mp (h1.trans h2.symm))
theorem St.pre {cs' : List (Nat × Cell)} (h : St N P (cs ++ cs') M) : St N P cs M :=
  ⟨h.base, h.pure, by have := h.nd; rw [List.map_append, List.nodup_append] at this; exact this.1, fun p hp => h.cell p (List.mem_append_left _ hp)⟩
theorem St.nil_of (h : St N P cs M) : St N P [] M := ⟨h.base, h.pure, List.nodup_nil, fun _ z => by cases z⟩
theorem St.start (hP : P M) (hl : M.length = N) (hp : PureS M) : St N P [] M := ⟨⟨M, [], hP, hl, by simp⟩, hp, List.nodup_nil, fun _ z => by cases z⟩
end
def BagP (G : Sto) : Sto → Prop := fun A => ∃ b, BagOk b ∧ A = .lst b :: G
/-- the bag of such a store -/
theorem St.bag {G : Sto} {cs : List (Nat × Cell)} {M : Sto} (h : St (G.length + 1) (BagP G) cs M) : ∃ b K, BagOk b ∧ M = .lst b :: K ∧ PureS K ∧ ∀ b', BagOk b' → St (G.length + 1) (BagP G) cs (.lst b' :: K) := by
  obtain ⟨A, J, ⟨b, hb, rfl⟩, e, rfl⟩ := h.base
  have hp := h.pure
  refine ⟨b, G ++ J, hb, rfl, (PureS.of_app (M := [.lst b]) (N := G ++ J) hp).2, fun b' hb' => ⟨⟨.lst b' :: G, J, ⟨b', hb', rfl⟩, by simp, rfl⟩, PureS.app (M := [.lst b']) (.one (bag_closed hb')) (PureS.of_app (M := [.lst b]) (N := G ++ J) hp).2, h.nd, fun p hq => ?_⟩⟩
  have := h.cell p hq
  refine ⟨this.1, ?_⟩
  have h1 := this.1
  obtain ⟨n, c⟩ := p
  simp only at h1 this ⊢
  cases n with
  | zero => omega
  | succ n => simpa using this.2
end Ip
end
section
set_option Elab.async false
set_option linter.all false
set_option maxRecDepth 100000
set_option maxHeartbeats 1000000
set_option autoImplicit false
namespace Ip
open PySem L2
structure Sat {α δ : Type} (o : Out δ) (p : Pr α) (rel : α → δ → Sto → Prop) (X : Sto → Prop) : Prop where
  run : ∀ (Q : α → Prop) (E : Exn → Prop), p Q E → o.post (fun d M => ∃ a, Q a ∧ rel a d M) (fun e _ M => E e ∧ X M)
abbrev NX : Sto → Prop := fun _ => False
theorem post_mk_bind {α β : Type} {o : Out α} {k : α → Sto → Out β} {Q : β → Sto → Prop} {E : Exn → En → Sto → Prop} (h : o.post (fun a M => (k a M).post Q E) E) : (o.bind k).post Q E := by
  cases o <;> exact h
section
variable {α β γ δ ε σ ρ : Type} {X : Sto → Prop} {rel : α → δ → Sto → Prop} {rel' : β → ε → Sto → Prop}
theorem Sat.bind {o : Out δ} {p : Pr α} {c : δ → Sto → Out ε} {k : α → Pr β} (h : Sat o p rel X) (hk : ∀ a d M, rel a d M → Sat (c d M) (k a) rel' X) : Sat (o.bind c) (p.bind k) rel' X :=
  ⟨fun Q E z => post_mk_bind ((h.run _ E z).imp (fun d M ⟨a, q, r⟩ => (hk a d M r).run Q E q) (fun _ _ _ z => z))⟩
theorem Sat.ok {d : δ} {M : Sto} {a : α} (h : rel a d M) : Sat (.ok d M) (Pr.ok a) rel X := ⟨fun Q E z => ⟨a, z, h⟩⟩
theorem Sat.bad {o : Out δ} : Sat o (Pr.bad : Pr α) rel X := ⟨fun Q E z => z.elim⟩
theorem Sat.imp {o : Out δ} {p : Pr α} {rel2 : α → δ → Sto → Prop} (h : Sat o p rel X) (w : ∀ a d M, rel a d M → rel2 a d M) : Sat o p rel2 X :=
  ⟨fun Q E z => (h.run Q E z).imp (fun d M ⟨a, q, r⟩ => ⟨a, q, w a d M r⟩) (fun _ _ _ z => z)⟩
theorem Sat.ref {o : Out δ} {p p' : Pr α} (h : Sat o p rel X) (w : ∀ Q E, p' Q E → p Q E) : Sat o p' rel X := ⟨fun Q E z => h.run Q E (w Q E z)⟩
theorem Sat.map {o : Out δ} {p : Pr α} {w : α → β} {r2 : β → δ → Sto → Prop} (h : Sat o p rel X) (hw : ∀ a d M, rel a d M → r2 (w a) d M) : Sat o (p.bind fun a => Pr.ok (w a)) r2 X :=
  ⟨fun Q E z => (h.run _ E z).imp (fun d M ⟨a, q, r⟩ => ⟨w a, q, hw a d M r⟩) (fun _ _ _ z => z)⟩
theorem Sat.need {c : Prop} {o : Out δ} {p : Pr α} (h : c → Sat o p rel X) : Sat o (Pr.need c p) rel X := ⟨fun Q E z => (h z.1).run Q E z.2⟩
theorem Sat.noex {o : Out δ} {p : Pr α} (h : Sat o p rel NX) : Sat (Ip.noex o) p rel X := by
  refine ⟨fun Q E z => ?_⟩
  have := h.run Q E z
  cases o with
  | ok d M => exact this
  | exc e env M => exact this.2.elim
  | bad => exact this
theorem bind_assoc (o : Out δ) (c : δ → Sto → Out ε) (c' : ε → Sto → Out γ) : (o.bind c).bind c' = o.bind fun d M => (c d M).bind c' := by cases o <;> rfl
def PV (f : DE) (env : En) (S : Sto → Prop) (x : D) : Prop := ∀ M, S M → f env M = .ok x M
def relE [Enc α] (S : Sto → Prop) : α → D → Sto → Prop := fun a d M => d = en a ∧ S M
def PX [Enc α] (f : DE) (env : En) (S X : Sto → Prop) (p : Pr α) : Prop := ∀ M, S M → Sat (f env M) p (relE S) X
def TV (f : DT) (env : En) (S : Sto → Prop) (b : Bool) : Prop := ∀ M, S M → f env M = .ok b M
def relT (S : Sto → Prop) : Bool → Bool → Sto → Prop := fun a d M => d = a ∧ S M
def TX (f : DT) (env : En) (S X : Sto → Prop) (p : Pr Bool) : Prop := ∀ M, S M → Sat (f env M) p (relT S) X
variable {env : En} {S : Sto → Prop} {M : Sto}
theorem PV.px [Enc α] {f : DE} {a : α} (h : PV f env S (en a)) : PX f env S X (Pr.ok a) := fun M hM => by rw [h M hM]; exact .ok ⟨rfl, hM⟩
theorem TV.tx {f : DT} {b : Bool} (h : TV f env S b) : TX f env S X (Pr.ok b) := fun M hM => by rw [h M hM]; exact .ok ⟨rfl, hM⟩
theorem pv {i : Nat} {d : D} (h : env[i]? = some (some d)) : PV (dVar i) env S d := fun M _ => by unfold dVar; rw [h]
theorem pv_c {d : D} : PV (dC d) env S d := fun _ _ => rfl
/-- the value of a tree of another kind -/
def cast [Enc α] [Enc β] (a : α) : Pr β := fun Q _ => ∃ b : β, en a = en b ∧ Q b
theorem PV.cast [Enc α] [Enc β] {f : DE} {a : α} (h : PV f env S (en a)) : PX f env S X (Ip.cast a : Pr β) := fun M hM => by
  refine ⟨fun Q E ⟨b, e, q⟩ => ?_⟩
  rw [h M hM]
  exact ⟨b, q, e, hM⟩
theorem PX.cast [Enc α] [Enc β] {f : DE} {p : Pr α} (h : PX f env S X p) : PX f env S X (p.bind fun a => (Ip.cast a : Pr β)) := fun M hM => ⟨fun Q E z =>
  ((h M hM).run _ E z).imp (fun d M' ⟨a, ⟨b, e, q⟩, r1, r2⟩ => ⟨b, q, r1.trans e, r2⟩) (fun _ _ _ z => z)⟩
theorem bd_p {f : DE} {x : D} {c : D → Sto → Out ε} {P : Pr β} (h : PV f env S x) (hM : S M) (hk : Sat (c x M) P rel' X) : Sat ((f env M).bind c) P rel' X := by
  rw [h M hM]; exact hk
theorem bd_e [Enc α] {f : DE} {p : Pr α} {c : D → Sto → Out ε} {k : α → Pr β} (h : PX f env S X p) (hM : S M) (hk : ∀ a M1, S M1 → Sat (c (en a) M1) (k a) rel' X) : Sat ((f env M).bind c) (p.bind k) rel' X :=
  (h M hM).bind fun a d M1 ⟨e, s⟩ => by rw [e]; exact hk a M1 s
theorem td_p {f : DT} {b : Bool} {c : Bool → Sto → Out ε} {P : Pr β} (h : TV f env S b) (hM : S M) (hk : Sat (c b M) P rel' X) : Sat ((f env M).bind c) P rel' X := by
  rw [h M hM]; exact hk
theorem td_e {f : DT} {p : Pr Bool} {c : Bool → Sto → Out ε} {k : Bool → Pr β} (h : TX f env S X p) (hM : S M) (hk : ∀ a M1, S M1 → Sat (c a M1) (k a) rel' X) : Sat ((f env M).bind c) (p.bind k) rel' X :=
  (h M hM).bind fun a d M1 ⟨e, s⟩ => by rw [e]; exact hk a M1 s
/-- what the operator g gives, as a value of a known kind -/
def op2 [Enc α] [Enc β] [Enc γ] (g : G2) (a : α) (b : β) : Pr γ := fun Q _ => ∃ c : γ, (∀ M, g (en a) (en b) M = some (en c, M)) ∧ Q c
def op1 [Enc α] [Enc γ] (g : D → Sto → Option (D × Sto)) (a : α) : Pr γ := fun Q _ => ∃ c : γ, (∀ M, g (en a) M = some (en c, M)) ∧ Q c
theorem op2_ok [Enc α] [Enc β] [Enc γ] {g : G2} {a : α} {b : β} {c : γ} (h : ∀ M, g (en a) (en b) M = some (en c, M)) : (op2 g a b : Pr γ) = Pr.ok c := by
  funext Q E
  refine propext ⟨fun ⟨c', h', q⟩ => ?_, fun q => ⟨c, h, q⟩⟩
  have e := (h' []).symm.trans (h [])
  simp only [Option.some.injEq, Prod.mk.injEq, and_true] at e
  rw [Enc.inj c' c e] at q
  exact q
theorem op1_ok [Enc α] [Enc γ] {g : D → Sto → Option (D × Sto)} {a : α} {c : γ} (h : ∀ M, g (en a) M = some (en c, M)) : (op1 g a : Pr γ) = Pr.ok c := by
  funext Q E
  refine propext ⟨fun ⟨c', h', q⟩ => ?_, fun q => ⟨c, h, q⟩⟩
  have e := (h' []).symm.trans (h [])
  simp only [Option.some.injEq, Prod.mk.injEq, and_true] at e
  rw [Enc.inj c' c e] at q
  exact q
def GS [Enc γ] (S X : Sto → Prop) (g : G2) (x y : D) (p : Pr γ) : Prop := ∀ M, S M → Sat (liftM (g x y M)) p (relE S) X
theorem gs_op2 [Enc α] [Enc β] [Enc γ] {g : G2} {a : α} {b : β} : GS S X g (en a) (en b) (op2 g a b : Pr γ) := fun M hM => by
  refine ⟨fun Q E ⟨c, h, q⟩ => ?_⟩
  rw [h M]
  exact ⟨c, q, rfl, hM⟩
theorem gs_ok [Enc γ] {g : G2} {x y : D} {c : γ} (h : ∀ M, S M → g x y M = some (en c, M)) : GS S X g x y (Pr.ok c) := fun M hM => by
  rw [h M hM]
  exact .ok ⟨rfl, hM⟩
theorem bin_v {g : G2} {fa fb : DE} {x y z : D} (ha : PV fa env S x) (hb : PV fb env S y) (hg : ∀ M, S M → g x y M = some (z, M)) : PV (dBin g fa fb) env S z := fun M hM => by
  unfold dBin
  rw [ha M hM]
  show (fb env M).bind _ = _
  rw [hb M hM]
  show liftM (g x y M) = _
  rw [hg M hM]; rfl
theorem bin_pp [Enc γ] {g : G2} {fa fb : DE} {x y : D} {P : Pr γ} (ha : PV fa env S x) (hb : PV fb env S y) (hg : GS S X g x y P) : PX (dBin g fa fb) env S X P := fun M hM =>
  bd_p ha hM (bd_p hb hM (hg M hM))
theorem bin_pe [Enc β] [Enc γ] {g : G2} {fa fb : DE} {x : D} {q : Pr β} {R : β → Pr γ} (ha : PV fa env S x) (hb : PX fb env S X q) (hg : ∀ b, GS S X g x (en b) (R b)) : PX (dBin g fa fb) env S X (q.bind R) := fun M hM =>
  bd_p ha hM (bd_e hb hM fun b M1 h1 => hg b M1 h1)
theorem bin_ep [Enc α] [Enc γ] {g : G2} {fa fb : DE} {y : D} {p : Pr α} {R : α → Pr γ} (ha : PX fa env S X p) (hb : PV fb env S y) (hg : ∀ a, GS S X g (en a) y (R a)) : PX (dBin g fa fb) env S X (p.bind R) := fun M hM =>
  bd_e ha hM fun a M1 h1 => bd_p hb h1 (hg a M1 h1)
theorem bin_ee [Enc α] [Enc β] [Enc γ] {g : G2} {fa fb : DE} {p : Pr α} {q : Pr β} {R : α → β → Pr γ} (ha : PX fa env S X p) (hb : PX fb env S X q) (hg : ∀ a b, GS S X g (en a) (en b) (R a b)) : PX (dBin g fa fb) env S X (p.bind fun a => q.bind (R a)) := fun M hM =>
  bd_e ha hM fun a M1 h1 => bd_e hb h1 fun b M2 h2 => hg a b M2 h2
def GU [Enc γ] (S X : Sto → Prop) (g : D → Sto → Option (D × Sto)) (x : D) (p : Pr γ) : Prop := ∀ M, S M → Sat (liftM (g x M)) p (relE S) X
theorem gu_op1 [Enc α] [Enc γ] {g : D → Sto → Option (D × Sto)} {a : α} : GU S X g (en a) (op1 g a : Pr γ) := fun M hM => by
  refine ⟨fun Q E ⟨c, h, q⟩ => ?_⟩
  rw [h M]
  exact ⟨c, q, rfl, hM⟩
theorem un_v {g : D → Sto → Option (D × Sto)} {fa : DE} {x z : D} (ha : PV fa env S x) (hg : ∀ M, S M → g x M = some (z, M)) : PV (dUn g fa) env S z := fun M hM => by
  unfold dUn
  rw [ha M hM]
  show liftM (g x M) = _
  rw [hg M hM]; rfl
theorem un_p [Enc γ] {g : D → Sto → Option (D × Sto)} {fa : DE} {x : D} {P : Pr γ} (ha : PV fa env S x) (hg : GU S X g x P) : PX (dUn g fa) env S X P := fun M hM => bd_p ha hM (hg M hM)
theorem arg_p {f : DE} {fr : DA} {x : D} {c : List D → Sto → Out ε} {P : Pr β} (h : PV f env S x) (hM : S M) (hk : Sat ((fr env M).bind fun xs M2 => c (x :: xs) M2) P rel' X) : Sat ((dConsA f fr env M).bind c) P rel' X := by
  unfold dConsA
  rw [h M hM]
  show Sat ((Out.bind (fr env M) fun xs M2 => Out.ok (x :: xs) M2).bind c) P rel' X
  rw [bind_assoc]
  exact hk
theorem arg_e [Enc α] {f : DE} {fr : DA} {p : Pr α} {k : α → Pr β} {c : List D → Sto → Out ε} (h : PX f env S X p) (hM : S M) (hk : ∀ a M1, S M1 → Sat ((fr env M1).bind fun xs M2 => c (en a :: xs) M2) (k a) rel' X) : Sat ((dConsA f fr env M).bind c) (p.bind k) rel' X := by
  unfold dConsA
  rw [bind_assoc]
  refine (h M hM).bind fun a d M1 ⟨e, s⟩ => ?_
  rw [e]
  show Sat ((Out.bind (fr env M1) fun xs M2 => Out.ok (en a :: xs) M2).bind c) (k a) rel' X
  rw [bind_assoc]
  exact hk a M1 s
theorem arg_nil {c : List D → Sto → Out ε} {P : Pr β} (h : Sat (c [] M) P rel' X) : Sat ((dNilA env M).bind c) P rel' X := h
def AV (fa : DA) (env : En) (S : Sto → Prop) (xs : List D) : Prop := ∀ M, S M → fa env M = .ok xs M
theorem av_nil : AV dNilA env S [] := fun _ _ => rfl
theorem av_cons {f : DE} {fr : DA} {x : D} {xs : List D} (h : PV f env S x) (hr : AV fr env S xs) : AV (dConsA f fr) env S (x :: xs) := fun M hM => by
  unfold dConsA
  rw [h M hM]
  show (fr env M).bind _ = _
  rw [hr M hM]; rfl
/-- tuples and lists written out -/
theorem tup_v {fa : DA} {xs : List D} (h : AV fa env S xs) (hl : xs.length ≤ 16777216 := by exact Nat.le_of_ble_eq_true rfl) : PV (dTup fa) env S (.tup xs) := fun M hM => by
  unfold dTup
  rw [h M hM]
  exact if_pos hl
theorem lst_v {fa : DA} {xs : List D} (h : AV fa env S xs) (hl : xs.length ≤ 16777216 := by exact Nat.le_of_ble_eq_true rfl) : PV (dLst fa) env S (.lst xs) := fun M hM => by
  unfold dLst
  rw [h M hM]
  exact if_pos hl
theorem seq_end [Enc α] {xs : List D} {mk : List D → D} {a : α} (e : mk xs = en a) (hM : S M) (hl : xs.length ≤ 16777216 := by exact Nat.le_of_ble_eq_true rfl) : Sat (if xs.length ≤ 16777216 then Out.ok (mk xs) M else .bad) (Pr.ok a) (relE S) X := by
  rw [if_pos hl]
  exact .ok ⟨e, hM⟩
def FP [Enc α] (F : DF) (ds : List D) (p : Pr α) : Prop := ∀ M, PureS M → Sat (F ds M) p (fun a d M' => d = en a ∧ M' = M) NX
def FB [Enc α] (F : DF) (ds : List D) (p : Pr α) : Prop := ∀ b G, BagOk b → PureS G → Sat (F (.ref 0 :: ds) (.lst b :: G)) p (fun a d M' => d = en a ∧ ∃ b', BagOk b' ∧ M' = .lst b' :: G) NX
variable {N : Nat} {P : Sto → Prop} {cs : List (Nat × Cell)} {G : Sto}
end
end Ip
end
section
set_option Elab.async false
set_option linter.all false
set_option maxRecDepth 100000
set_option maxHeartbeats 1000000
set_option autoImplicit false
namespace Ip
open PySem L2
section
variable {α β γ δ ε σ ρ : Type} {X : Sto → Prop} {env : En} {S : Sto → Prop} {M : Sto}
theorem b_v {f : DE} {b : Bool} (h : PV f env S (.bl b)) : TV (dB f) env S b := fun M hM => by
  rw [ev_b, h M hM]
  rfl
theorem b_x {f : DE} {p : Pr Bool} (h : PX f env S X p) : TX (dB f) env S X p := fun M hM => by
  refine ⟨fun Q E z => ?_⟩
  have := (h M hM).run Q E z
  rw [ev_b]
  cases ho : f env M with
  | bad => rw [ho] at this; exact this
  | exc e v M1 => rw [ho] at this; exact this
  | ok d M1 =>
    rw [ho] at this
    obtain ⟨b, q, e, s⟩ := this
    subst e
    exact ⟨b, q, rfl, s⟩
theorem tru_v {f : DE} {d : D} {b : Bool} (h : PV f env S d) (ht : ∀ M, S M → truD d M = some b) : TV (dTru f) env S b := fun M hM => by
  unfold dTru
  rw [h M hM]
  show (match truD d M with
    | some b => Out.ok b M
    | none => .bad) = _
  rw [ht M hM]
theorem tru_x [Enc α] {f : DE} {p : Pr α} {w : α → Bool} (h : PX f env S X p) (ht : ∀ a M, S M → truD (en a) M = some (w a)) : TX (dTru f) env S X (p.bind fun a => Pr.ok (w a)) := fun M hM =>
  bd_e h hM fun a M1 h1 => by
    show Sat (match truD (en a) M1 with
      | some b => Out.ok b M1
      | none => .bad) _ _ _
    rw [ht a M1 h1]
    exact .ok ⟨rfl, h1⟩
theorem tru_b {f : DE} {p : Pr Bool} (h : PX f env S X p) : TX (dTru f) env S X p := fun M hM => tru_x (w := id) h (fun a M _ => rfl) M hM
theorem not_tv {f : DT} {b : Bool} (h : TV f env S b) : TV (dNot f) env S (!b) := fun M hM => by
  unfold dNot; rw [h M hM]; rfl
theorem not_tx {f : DT} {p : Pr Bool} (h : TX f env S X p) : TX (dNot f) env S X (p.bind fun b => Pr.ok (!b)) := fun M hM => td_e h hM fun b M1 h1 => .ok ⟨rfl, h1⟩
theorem or_tv {f g : DT} {a b : Bool} (h : TV f env S a) (h' : TV g env S b) : TV (dOr f g) env S (a || b) := fun M hM => by
  unfold dOr; rw [h M hM]
  cases a
  · exact h' M hM
  · rfl
theorem and_tx {f g : DT} {p q : Pr Bool} (h : TX f env S X p) (h' : TX g env S X q) : TX (dAnd f g) env S X (p.bind fun a => if a then q else Pr.ok false) := fun M hM => td_e h hM fun a M1 h1 => by
  cases a
  · exact .ok ⟨rfl, h1⟩
  · exact h' M1 h1
theorem or_tx {f g : DT} {p q : Pr Bool} (h : TX f env S X p) (h' : TX g env S X q) : TX (dOr f g) env S X (p.bind fun a => if a then Pr.ok true else q) := fun M hM => td_e h hM fun a M1 h1 => by
  cases a
  · exact h' M1 h1
  · exact .ok ⟨rfl, h1⟩
theorem or_tpx {f g : DT} {a : Bool} {q : Pr Bool} (h : TV f env S a) (h' : TX g env S X q) : TX (dOr f g) env S X (if a then Pr.ok true else q) := fun M hM => td_p h hM (by
  cases a
  · exact h' M hM
  · exact .ok ⟨rfl, hM⟩)
theorem yes_tv : TV dYes env S true := fun _ _ => rfl
theorem notV_x {f : DE} {p : Pr Bool} (h : PX f env S X p) : PX (dNotV f) env S X (p.bind fun b => Pr.ok (!b)) := fun M hM => bd_e h hM fun b M1 h1 => .ok ⟨rfl, h1⟩
theorem andV_x {f g : DE} {p q : Pr Bool} (h : PX f env S X p) (h' : PX g env S X q) : PX (dAndV f g) env S X (p.bind fun a => if a then q else Pr.ok false) := fun M hM => bd_e h hM fun a M1 h1 => by
  cases a
  · exact .ok ⟨rfl, h1⟩
  · exact h' M1 h1
theorem ifE_x [Enc α] {ft : DT} {fa fb : DE} {t : Pr Bool} {p q : Pr α} (h : TX ft env S X t) (ha : PX fa env S X p) (hb : PX fb env S X q) : PX (dIfE ft fa fb) env S X (t.bind fun c => if c then p else q) := fun M hM => td_e h hM fun c M1 h1 => by
  cases c
  · exact hb M1 h1
  · exact ha M1 h1
variable {rel : α → Fl → Sto → Prop}
def NxR (N : σ → En → Sto → Prop) : σ → Fl → Sto → Prop := fun s fl M => ∃ env, fl = .nx env ∧ N s env M
theorem last_of {f : DS} {p : Pr α} (h : Sat (dSeq f dSkip env M) p rel X) : Sat (f env M) p rel X := by
  have e : dSeq f dSkip env M = f env M := by
    unfold dSeq
    cases f env M with
    | ok fl M1 => cases fl <;> rfl
    | exc e v M1 => rfl
    | bad => rfl
  rw [e] at h
  exact h
theorem seq_skip {g : DS} {p : Pr α} (h : Sat (g env M) p rel X) : Sat (dSeq dSkip g env M) p rel X := h
theorem skip_end {a : α} (h : rel a (.nx env) M) : Sat (dSkip env M) (Pr.ok a) rel X := .ok h
theorem seq_nx {f g : DS} {p : Pr σ} {k : σ → Pr α} {I : σ → En → Sto → Prop} (h : Sat (f env M) p (NxR I) X) (hk : ∀ s env1 M1, I s env1 M1 → Sat (g env1 M1) (k s) rel X) : Sat (dSeq f g env M) (p.bind k) rel X :=
  h.bind fun s fl M1 ⟨env1, e, i⟩ => by rw [e]; exact hk s env1 M1 i
theorem seq_set {i : Nat} {fe : DE} {g : DS} {x : D} {p : Pr α} {env1 : En} (he : env.set i (some x) = env1) (h : PV fe env S x) (hM : S M) (hk : Sat (g env1 M) p rel X) : Sat (dSeq (dSet i fe) g env M) p rel X := by
  unfold dSeq dSet
  rw [h M hM]
  subst he
  exact hk
theorem seq_setx [Enc β] {i : Nat} {fe : DE} {g : DS} {p : Pr β} {k : β → Pr α} {env1 : β → En} (he : ∀ a, env.set i (some (en a)) = env1 a) (h : PX fe env S X p) (hM : S M) (hk : ∀ a M1, S M1 → Sat (g (env1 a) M1) (k a) rel X) : Sat (dSeq (dSet i fe) g env M) (p.bind k) rel X := by
  unfold dSeq dSet
  rw [bind_assoc]
  refine bd_e h hM fun a M1 h1 => ?_
  have := hk a M1 h1
  rw [← he a] at this
  exact this
theorem seq_dropx [Enc β] {fe : DE} {g : DS} {p : Pr β} {k : β → Pr α} (h : PX fe env S X p) (hM : S M) (hk : ∀ a M1, S M1 → Sat (g env M1) (k a) rel X) : Sat (dSeq (dDrop fe) g env M) (p.bind k) rel X := by
  unfold dSeq dDrop
  rw [bind_assoc]
  exact bd_e h hM hk
theorem seq_asgx [Enc β] {t : DG} {fe : DE} {g : DS} {env1 : β → En} {p : Pr β} {k : β → Pr α} (h : PX fe env S X p) (ht : ∀ a, t (en a) env = some (env1 a)) (hM : S M) (hk : ∀ a M1, S M1 → Sat (g (env1 a) M1) (k a) rel X) : Sat (dSeq (dAsg t fe) g env M) (p.bind k) rel X := by
  unfold dSeq dAsg
  rw [bind_assoc]
  refine bd_e h hM fun a M1 h1 => ?_
  show Sat (Out.bind (match t (en a) env with
    | some env' => Out.ok (Fl.nx env') M1
    | none => .bad) _) _ rel X
  rw [ht a]
  exact hk a M1 h1
theorem seq_if {ft : DT} {fa fb g : DS} {c : Bool} {p q : Pr α} (h : TV ft env S c) (hM : S M) (ha : Sat (dSeq fa g env M) p rel X) (hb : Sat (dSeq fb g env M) q rel X) : Sat (dSeq (dIf ft fa fb) g env M) (if c then p else q) rel X := by
  unfold dSeq dIf
  rw [h M hM]
  cases c
  · exact hb
  · exact ha
theorem seq_ifx {ft : DT} {fa fb g : DS} {t : Pr Bool} {p q : Pr α} (h : TX ft env S X t) (hM : S M) (ha : ∀ M, S M → Sat (dSeq fa g env M) p rel X) (hb : ∀ M, S M → Sat (dSeq fb g env M) q rel X) : Sat (dSeq (dIf ft fa fb) g env M) (t.bind fun c => if c then p else q) rel X := by
  unfold dSeq dIf
  rw [bind_assoc]
  refine td_e h hM fun c M1 h1 => ?_
  cases c
  · exact hb M1 h1
  · exact ha M1 h1
theorem if_nxx {ft : DT} {fa fb : DS} {t : Pr Bool} {p q : Pr α} (h : TX ft env S X t) (hM : S M) (ha : ∀ M, S M → Sat (fa env M) p rel X) (hb : ∀ M, S M → Sat (fb env M) q rel X) : Sat (dIf ft fa fb env M) (t.bind fun c => if c then p else q) rel X := by
  unfold dIf
  refine td_e h hM fun c M1 h1 => ?_
  cases c
  · exact hb M1 h1
  · exact ha M1 h1
theorem seq_ret {fe : DE} {g : DS} {x : D} {a : α} (h : PV fe env S x) (hM : S M) (hr : rel a (.rt x) M) : Sat (dSeq (dRet fe) g env M) (Pr.ok a) rel X := by
  unfold dSeq dRet
  rw [h M hM]
  exact .ok hr
theorem seq_retx [Enc β] {fe : DE} {g : DS} {p : Pr β} {w : β → α} (h : PX fe env S X p) (hM : S M) (hr : ∀ a M1, S M1 → rel (w a) (.rt (en a)) M1) : Sat (dSeq (dRet fe) g env M) (p.bind fun a => Pr.ok (w a)) rel X := by
  unfold dSeq dRet
  rw [bind_assoc]
  exact bd_e h hM fun a M1 h1 => .ok (hr a M1 h1)
theorem seq_retx' [Enc α] {fe : DE} {g : DS} {p : Pr α} (h : PX fe env S X p) (hM : S M) (hr : ∀ a M1, S M1 → rel a (.rt (en a)) M1) : Sat (dSeq (dRet fe) g env M) p rel X := seq_retx (w := id) h hM hr
theorem seq_never {f g : DS} : Sat (dSeq f g env M) (Pr.bad : Pr α) rel X := .bad
inductive FlT (σ ρ : Type) where
  | nx (s : σ) | bk (s : σ) | rt (r : ρ)
/-- a turn of a loop -/
def LpR (I : σ → En → Sto → Prop) : σ → Fl → Sto → Prop := fun s fl M => ∃ env, (fl = .nx env ∨ fl = .ct env) ∧ I s env M
def LfR (I : σ → En → Sto → Prop) (R : ρ → D → Sto → Prop) : FlT σ ρ → Fl → Sto → Prop
  | .nx s, fl, M => ∃ env, (fl = .nx env ∨ fl = .ct env) ∧ I s env M
  | .bk s, fl, M => ∃ env, fl = .bk env ∧ I s env M
  | .rt r, fl, M => ∃ d, fl = .rt d ∧ R r d M
/-- behind a loop -/
def NfR (I : σ → En → Sto → Prop) (R : ρ → D → Sto → Prop) : FlT σ ρ → Fl → Sto → Prop
  | .nx s, fl, M => ∃ env, fl = .nx env ∧ I s env M
  | .bk _, _, _ => False
  | .rt r, fl, M => ∃ d, fl = .rt d ∧ R r d M
def Pr.flow (p : Pr (FlT σ ρ)) (k : σ → Pr α) (w : ρ → α) : Pr α := p.bind fun fl => match fl with
  | .nx s => k s
  | .rt r => Pr.ok (w r)
  | .bk _ => Pr.bad
theorem seq_fl {f g : DS} {p : Pr (FlT σ ρ)} {k : σ → Pr α} {w : ρ → α} {I : σ → En → Sto → Prop} {R : ρ → D → Sto → Prop} (h : Sat (f env M) p (NfR I R) X) (hk : ∀ s env1 M1, I s env1 M1 → Sat (g env1 M1) (k s) rel X) (hr : ∀ r d M1, R r d M1 → rel (w r) (.rt d) M1) :
    Sat (dSeq f g env M) (p.flow k w) rel X :=
  h.bind fun fl d M1 z => by
    cases fl with
    | nx s => obtain ⟨env1, e, i⟩ := z; rw [e]; exact hk s env1 M1 i
    | bk s => exact z.elim
    | rt r => obtain ⟨x, e, i⟩ := z; rw [e]; exact .ok (hr r x M1 i)
def Pr.forM : List α → σ → (α → σ → Pr σ) → Pr σ
  | [], s, _ => Pr.ok s
  | x :: xs, s, b => (b x s).bind fun s' => Pr.forM xs s' b
def Pr.forF : List α → σ → (α → σ → Pr (FlT σ ρ)) → Pr (FlT σ ρ)
  | [], s, _ => Pr.ok (.nx s)
  | x :: xs, s, b => (b x s).bind fun fl => match fl with
    | .nx s' => Pr.forF xs s' b
    | .bk s' => Pr.ok (.nx s')
    | .rt r => Pr.ok (.rt r)
theorem forGo_sat {t : DG} {fb : DS} {body : β → σ → Pr σ} {I : σ → En → Sto → Prop} {enc : β → D} (hb : ∀ x s env M, I s env M → ∃ env1, t (enc x) env = some env1 ∧ Sat (fb env1 M) (body x s) (LpR I) X) :
    ∀ (l : List β) (s : σ) (env : En) (M : Sto), I s env M → Sat (forGo t fb (l.map enc) env M) (Pr.forM l s body) (NxR I) X
  | [], s, env, M, h => .ok ⟨env, rfl, h⟩
  | x :: l, s, env, M, h => by
    obtain ⟨env1, e, hs⟩ := hb x s env M h
    show Sat (match t (enc x) env with
      | none => Out.bad
      | some env1 => (fb env1 M).bind fun fl M1 => match fl with
        | Fl.nx e => forGo t fb (l.map enc) e M1
        | Fl.ct e => forGo t fb (l.map enc) e M1
        | Fl.bk e => Out.ok (Fl.nx e) M1
        | Fl.rt d => Out.ok (Fl.rt d) M1) _ _ X
    rw [e]
    refine hs.bind fun s' fl M1 ⟨env2, z, i⟩ => ?_
    rcases z with z | z
    · rw [z]; exact forGo_sat hb l s' env2 M1 i
    · rw [z]; exact forGo_sat hb l s' env2 M1 i
theorem forGo_fl {t : DG} {fb : DS} {body : β → σ → Pr (FlT σ ρ)} {I : σ → En → Sto → Prop} {R : ρ → D → Sto → Prop} {enc : β → D} (hb : ∀ x s env M, I s env M → ∃ env1, t (enc x) env = some env1 ∧ Sat (fb env1 M) (body x s) (LfR I R) X) :
    ∀ (l : List β) (s : σ) (env : En) (M : Sto), I s env M → Sat (forGo t fb (l.map enc) env M) (Pr.forF l s body) (NfR I R) X
  | [], s, env, M, h => .ok ⟨env, rfl, h⟩
  | x :: l, s, env, M, h => by
    obtain ⟨env1, e, hs⟩ := hb x s env M h
    show Sat (match t (enc x) env with
      | none => Out.bad
      | some env1 => (fb env1 M).bind fun fl M1 => match fl with
        | Fl.nx e => forGo t fb (l.map enc) e M1
        | Fl.ct e => forGo t fb (l.map enc) e M1
        | Fl.bk e => Out.ok (Fl.nx e) M1
        | Fl.rt d => Out.ok (Fl.rt d) M1) _ _ X
    rw [e]
    refine hs.bind fun s' fl M1 z => ?_
    cases s' with
    | nx s2 =>
      obtain ⟨env2, z, i⟩ := z
      rcases z with z | z
      · rw [z]; exact forGo_fl hb l s2 env2 M1 i
      · rw [z]; exact forGo_fl hb l s2 env2 M1 i
    | bk s2 => obtain ⟨env2, z, i⟩ := z; rw [z]; exact .ok ⟨env2, rfl, i⟩
    | rt r => obtain ⟨d, z, i⟩ := z; rw [z]; exact .ok ⟨d, rfl, i⟩
end
end Ip
end
section
set_option Elab.async false
set_option linter.all false
set_option maxRecDepth 100000
set_option maxHeartbeats 1000000
set_option autoImplicit false
namespace Ip
open PySem L2
/-- a small number -/
def sm (n : Int) : Prop := -1000000000 ≤ n ∧ n ≤ 1000000000
theorem in62_sm {n : Int} (h : sm n) : in62 n = true := by
  unfold in62 sm at *
  simp only [Bool.and_eq_true, decide_eq_true_eq]
  omega
theorem in63_sm {n : Int} (h : sm n) : in63 n = true := by
  unfold in63 sm at *
  simp only [Bool.and_eq_true, decide_eq_true_eq]
  omega
def rngI (lo : Int) (n : Nat) : List Int := (List.range n).map fun k => lo + (k : Nat)
theorem rngD_map (lo : Int) (n : Nat) : rngD lo n = (rngI lo n).map D.int := by simp [rngD, rngI]
section
variable {α β γ δ ε σ ρ : Type} {X : Sto → Prop} {env : En} {S : Sto → Prop} {M : Sto}
def IX (fi : DA) (env : En) (S X : Sto → Prop) (p : Pr (List β)) (enc : β → D) : Prop := ∀ M, S M → Sat (fi env M) p (fun l ds M' => ds = l.map enc ∧ S M') X
theorem rng1_v {fe : DE} {n : Int} (h : PV fe env S (.int n)) : IX (dRng1 (dConsA fe dNilA)) env S X (Pr.need (sm n) (Pr.ok (rngI 0 n.toNat))) D.int := fun M hM =>
  .need fun hn => arg_p h hM (arg_nil (by
    show Sat (if in62 n then Out.ok (rngD 0 n.toNat) M else .bad) _ _ _
    rw [in62_sm hn, rngD_map]
    exact .ok ⟨rfl, hM⟩))
theorem rng1_x {fe : DE} {p : Pr Int} (h : PX fe env S X p) : IX (dRng1 (dConsA fe dNilA)) env S X (p.bind fun n => Pr.need (sm n) (Pr.ok (rngI 0 n.toNat))) D.int := fun M hM =>
  arg_e h hM fun n M1 h1 => arg_nil (.need fun hn => by
    show Sat (if in62 n then Out.ok (rngD 0 n.toNat) M1 else .bad) _ _ _
    rw [in62_sm hn, rngD_map]
    exact .ok ⟨rfl, h1⟩)
theorem iter_v {fe : DE} {l : List β} {enc : β → D} (h : PV fe env S (.lst (l.map enc))) : IX (dIter fe) env S X (Pr.ok l) enc := fun M hM => by
  unfold dIter
  rw [h M hM]
  exact .ok ⟨rfl, hM⟩
theorem for_nx {t : DG} {fi : DA} {fb : DS} {p : Pr (List β)} {enc : β → D} {s : σ} {body : β → σ → Pr σ} {I : σ → En → Sto → Prop} (hi : IX fi env S X p enc) (hM : S M) (h0 : ∀ M, S M → I s env M)
    (hb : ∀ x s env M, I s env M → ∃ env1, t (enc x) env = some env1 ∧ Sat (fb env1 M) (body x s) (LpR I) X) : Sat (dFor t fi fb env M) (p.bind fun l => Pr.forM l s body) (NxR I) X :=
  (hi M hM).bind fun l ds M1 ⟨e, h1⟩ => by rw [e]; exact forGo_sat hb l s env M1 (h0 M1 h1)
theorem for_fl {t : DG} {fi : DA} {fb : DS} {p : Pr (List β)} {enc : β → D} {s : σ} {body : β → σ → Pr (FlT σ ρ)} {I : σ → En → Sto → Prop} {R : ρ → D → Sto → Prop} (hi : IX fi env S X p enc) (hM : S M) (h0 : ∀ M, S M → I s env M)
    (hb : ∀ x s env M, I s env M → ∃ env1, t (enc x) env = some env1 ∧ Sat (fb env1 M) (body x s) (LfR I R) X) : Sat (dFor t fi fb env M) (p.bind fun l => Pr.forF l s body) (NfR I R) X :=
  (hi M hM).bind fun l ds M1 ⟨e, h1⟩ => by rw [e]; exact forGo_fl hb l s env M1 (h0 M1 h1)
def lim (l : List β) : Pr (List β) := Pr.need (l.length < 20000000) (Pr.ok l)
def enumI (k : Nat) : List β → List (Int × β)
  | [] => []
  | x :: l => ((k : Nat), x) :: enumI (k + 1) l
theorem enumD_map (f : β → D) : ∀ (k : Nat) (l : List β), enumD k (l.map f) = (enumI k l).map fun p => .tup [.int p.1, f p.2]
  | _, [] => rfl
  | k, x :: l => by simp [enumD, enumI, enumD_map f (k + 1) l]
theorem enumI_len : ∀ (k : Nat) (l : List β), (enumI k l).length = l.length
  | _, [] => rfl
  | k, x :: l => by simp [enumI, enumI_len (k + 1) l]
def Pr.lcM : List β → (β → Pr Bool) → (β → Pr γ) → Pr (List γ)
  | [], _, _ => Pr.ok []
  | x :: l, c, g => (c x).bind fun b => if b then (g x).bind fun y => (Pr.lcM l c g).bind fun ys => Pr.ok (y :: ys) else Pr.lcM l c g
theorem lcGo_x [Enc γ] {t : DG} {ft : DT} {fe : DE} {enc : β → D} {c : β → Pr Bool} {g : β → Pr γ} {env0 : En} (hb : ∀ x, ∃ env1, t (enc x) env0 = some env1 ∧ TX ft env1 S NX (c x) ∧ PX fe env1 S NX (g x)) :
    ∀ (l : List β) (acc : List D) (M : Sto), S M → acc.length + l.length ≤ 16777216 → Sat (lcGo t ft fe (l.map enc) acc env0 M) (Pr.lcM l c g) (fun ys ds M' => ds = acc ++ ys.map en ∧ S M') X
  | [], acc, M, hM, _ => .ok ⟨by simp, hM⟩
  | x :: l, acc, M, hM, h => by
    obtain ⟨env1, e, h1, h2⟩ := hb x
    simp only [List.length_cons] at h
    simp only [List.map_cons, lcGo, e]
    refine ((h1 M hM).noex (X := X)).bind fun b d M1 ⟨e1, s1⟩ => ?_
    rw [e1]
    cases b with
    | false => exact lcGo_x hb l acc M1 s1 (by omega)
    | true =>
      refine ((h2 M1 s1).noex (X := X)).bind fun y d M2 ⟨e2, s2⟩ => ?_
      rw [e2]
      show Sat (if acc.length < 16777216 then lcGo t ft fe (l.map enc) (acc ++ [en y]) env0 M2 else .bad) _ _ X
      rw [if_pos (by omega)]
      exact (lcGo_x hb l (acc ++ [en y]) M2 s2 (by simp; omega)).map fun ys ds M3 ⟨e3, s3⟩ => ⟨by rw [e3]; simp, s3⟩
theorem lc_x {vs : List Nat} {t : DG} {fi : DA} {ft : DT} {fe : DE} {p : Pr (List β)} {enc : β → D} {c : β → Pr Bool} {g : β → Pr γ} [Enc γ] (hi : IX fi env S X p enc) (hb : ∀ x, ∃ env1, t (enc x) (wipeE env vs) = some env1 ∧ TX ft env1 S NX (c x) ∧ PX fe env1 S NX (g x)) :
    PX (dLc vs t fi ft fe) env S X (p.bind fun l => Pr.need (l.length ≤ 16777216) (Pr.lcM l c g)) := fun M hM =>
  (hi M hM).bind fun l ds M1 ⟨e, h1⟩ => .need fun hl => by
    rw [e]
    refine Sat.bind (k := Pr.ok) (lcGo_x (X := X) hb l [] M1 h1 (by simpa using hl)) fun ys ds M2 ⟨e2, s2⟩ => ?_
    exact .ok ⟨by rw [e2]; rfl, s2⟩
end
end Ip
end
section
set_option Elab.async false
set_option linter.all false
set_option maxRecDepth 100000
set_option maxHeartbeats 1000000
set_option autoImplicit false
namespace Ip
open PySem L2
class PuS (S : Sto → Prop) : Prop where
  pure : ∀ M, S M → PureS M
class BgS (S : Sto → Prop) : Prop where
  bag : ∀ M, S M → ∃ b K, BagOk b ∧ M = .lst b :: K ∧ PureS K ∧ ∀ b', BagOk b' → S (.lst b' :: K)
def S0 (M0 : Sto) : Sto → Prop := fun M => M = M0 ∧ PureS M0
def SB (G : Sto) : Sto → Prop := fun M => ∃ b, BagOk b ∧ M = .lst b :: G ∧ PureS G
instance (M0 : Sto) : PuS (S0 M0) := ⟨fun M ⟨e, h⟩ => by rw [e]; exact h⟩
theorem pure_bag {b : List D} {G : Sto} (h : BagOk b) (hG : PureS G) : PureS (.lst b :: G) := PureS.app (M := [.lst b]) (.one (bag_closed h)) hG
instance (G : Sto) : PuS (SB G) := ⟨fun M ⟨b, hb, e, h⟩ => by rw [e]; exact pure_bag hb h⟩
instance (G : Sto) : BgS (SB G) := ⟨fun M ⟨b, hb, e, h⟩ => ⟨b, G, hb, e, h, fun b' hb' => ⟨b', hb', rfl, h⟩⟩⟩
instance (N : Nat) (P : Sto → Prop) (cs : List (Nat × Cell)) : PuS (St N P cs) := ⟨fun M h => h.pure⟩
instance (G : Sto) (cs : List (Nat × Cell)) : BgS (St (G.length + 1) (BagP G) cs) := ⟨fun M h => h.bag⟩
section
variable {α β γ δ ε σ ρ : Type} {X : Sto → Prop} {env : En} {S : Sto → Prop} {M : Sto}
theorem callP [PuS S] [Enc α] {F : DF} {ds : List D} {p : Pr α} (h : FP F ds p) (hM : S M) : Sat (Ip.noex (F ds M)) p (relE S) X :=
  ((h M (PuS.pure M hM)).imp fun a d M' ⟨e1, e2⟩ => ⟨e1, by rw [e2]; exact hM⟩).noex
theorem callB [BgS S] [Enc α] {F : DF} {ds : List D} {p : Pr α} (h : FB F ds p) (hM : S M) : Sat (Ip.noex (F (.ref 0 :: ds) M)) p (relE S) X := by
  obtain ⟨b, K, hb, rfl, hK, hs⟩ := BgS.bag (S := S) M hM
  refine ((h b K hb hK).imp fun a d M' ⟨e1, b', hb', e2⟩ => ⟨e1, ?_⟩).noex
  rw [e2]
  exact hs b' hb'
theorem run_p [Enc α] {n m : Nat} {B : DS} {ds : List D} {p : Pr α} {env0 : En} (hl : ds.length = m) (he : ds.map some ++ List.replicate (n - m) none = env0) (h : ∀ M0 M, S0 M0 M → Sat (B env0 M) p (fun a fl M' => fl = .rt (en a) ∧ S0 M0 M') NX) : FP (runF n m B) ds p := fun M hM => by
  unfold runF
  rw [if_pos hl, he]
  refine ⟨fun Q E z => ?_⟩
  refine post_mk_bind (((h M M ⟨rfl, hM⟩).run Q E z).imp (fun fl M1 ⟨a, q, e, s⟩ => ?_) (fun _ _ _ z => z))
  rw [e]
  exact ⟨a, q, rfl, s.1⟩
theorem run_b [Enc α] {n m : Nat} {B : DS} {ds : List D} {p : Pr α} {env0 : En} (hl : ds.length + 1 = m) (he : (D.ref 0 :: ds).map some ++ List.replicate (n - m) none = env0) (h : ∀ G M, SB G M → Sat (B env0 M) p (fun a fl M' => fl = .rt (en a) ∧ SB G M') NX) : FB (runF n m B) ds p := fun b G hb hG => by
  unfold runF
  rw [if_pos (show (D.ref 0 :: ds).length = m from hl), he]
  refine ⟨fun Q E z => ?_⟩
  refine post_mk_bind (((h G _ ⟨b, hb, rfl, hG⟩).run Q E z).imp (fun fl M1 ⟨a, q, e, b', hb', s, _⟩ => ?_) (fun _ _ _ z => z))
  rw [e]
  exact ⟨a, q, rfl, b', hb', s⟩
/-- a def with cells of its own -/
theorem closed_no_ref {d : D} (h : ∀ k, closed k d = true) : ∀ n, d ≠ .ref n := fun n e => by
  have := h 0
  rw [e] at this
  simp [closed] at this
theorem thaw_en [Enc α] (k : Nat) (M : Sto) (a : α) : thaw k M (en a) = some (en a) := by
  have hc : ∀ k, closed k (en a) = true := fun k => Enc.cls a k
  revert hc
  generalize en a = d
  intro hc
  have hn := closed_no_ref hc
  cases d with
  | ref n => exact absurd rfl (hn n)
  | _ => simp only [thaw, hc k, if_true]
def RV' [Enc α] (N : Nat) (P : Sto → Prop) : α → Fl → Sto → Prop := fun a fl M' => fl = .rt (en a) ∧ St N P [] M'
theorem st_take {N : Nat} {P : Sto → Prop} {cs : List (Nat × Cell)} {M : Sto} (h : St N P cs M) : P (M.take N) ∧ PureS (M.take N) := by
  obtain ⟨A, J, hP, e, rfl⟩ := h.base
  have hp := PureS.of_app h.pure
  have e2 : (A ++ J).take N = A := by rw [← e]; simp
  rw [e2]
  exact ⟨hP, hp.1⟩
theorem frz_val {N : Nat} {P : Sto → Prop} {cs : List (Nat × Cell)} {M : Sto} [Enc α] {a : α} (h : St N P cs M) : frzO N (en a) M = .ok (en a) (M.take N) := by
  unfold frzO
  rw [thaw_en]
  simp only [(st_take h).2 N, if_true]
theorem frz_bv [Enc α] {n m : Nat} {B : DS} {ds : List D} {p : Pr α} {env0 : En} (hl : ds.length + 1 = m) (he : (D.ref 0 :: ds).map some ++ List.replicate (n - m) none = env0) (h : ∀ G M, PureS G → St (G.length + 1) (BagP G) [] M → Sat (B env0 M) p (RV' (G.length + 1) (BagP G)) NX) : FB (frz (runF n m B)) ds p := fun b G hb hG => by
  unfold frz runF
  rw [if_pos (show (D.ref 0 :: ds).length = m from hl), he, bind_assoc]
  refine ⟨fun Q E z => ?_⟩
  refine post_mk_bind (((h G _ hG (.start ⟨b, hb, rfl⟩ (by simp) (pure_bag hb hG))).run Q E z).imp (fun fl M1 ⟨a, q, e, s⟩ => ?_) (fun _ _ _ z => z))
  rw [e]
  show (frzO (Cell.lst b :: G).length (en a) M1).post _ _
  obtain ⟨⟨b', hb', e2⟩, _⟩ := st_take s
  rw [show (Cell.lst b :: G).length = G.length + 1 from rfl, frz_val s, e2]
  exact ⟨a, q, rfl, b', hb', rfl⟩
variable {rel : α → Fl → Sto → Prop} {N : Nat} {P : Sto → Prop} {cs : List (Nat × Cell)}
theorem lst_closed [Enc β] (l : List β) (k : Nat) : cellClosed k (.lst (l.map en)) = true := closedAll_map k l
theorem seq_newC [Enc β] {i : Nat} {fa : DA} {g : DS} {l : List β} {p : Pr α} {env1 : Nat → En} (he : ∀ n, env.set i (some (.ref n)) = env1 n) (h : AV fa env (St N P cs) (l.map en)) (hM : St N P cs M) (hl : l.length ≤ 16777216) (hk : ∀ n M1, St N P (cs ++ [(n, .lst (l.map en))]) M1 → Sat (g (env1 n) M1) p rel X) : Sat (dSeq (dSet i (dLstC fa)) g env M) p rel X := by
  unfold dSeq dSet dLstC
  rw [h M hM]
  show Sat (Out.bind (Out.bind (if (l.map en).length ≤ 16777216 then Out.ok (D.ref M.length) (M ++ [Cell.lst (l.map en)]) else Out.bad) _) _) p rel X
  rw [if_pos (by simpa using hl)]
  have := hk M.length _ (hM.new (lst_closed l))
  rw [← he] at this
  exact this
theorem seq_app [Enc β] {i : Nat} (j : Nat) {fe : DE} {g : DS} {n : Nat} {l : List β} {x : β} {p : Pr α} (hi : env[i]? = some (some (.ref n))) (hj : cs[j]? = some (n, .lst (l.map en))) (h : PV fe env (St N P cs) (en x)) (hM : St N P cs M) (hk : ∀ M1, St N P (cs.set j (n, .lst ((l ++ [x]).map en))) M1 → Sat (g env M1) p rel X) :
    Sat (dSeq (dDrop (dLm gApp (dVar i) (dConsA fe dNilA))) g env M) (Pr.need (l.length < 16777216) p) rel X := .need fun hl => by
  have hc := hM.get j hj
  have e : dLm gApp (dVar i) (dConsA fe dNilA) env M = .ok .non (M.set n (.lst ((l ++ [x]).map en))) := by
    unfold dLm dVar dConsA
    simp only [hi]
    show (match asL (.ref n) M with
      | some _ => _
      | none => Out.bad) = _
    simp only [asL, hc]
    rw [h M hM]
    show liftM (gApp (.ref n) [en x] M) = _
    simp only [gApp, setL, hc]
    rw [if_pos (by simpa using hl)]
    simp [liftM]
  unfold dSeq dDrop
  rw [e]
  exact hk _ (hM.set j hj (lst_closed _))
theorem seq_appx [Enc β] {i : Nat} (j : Nat) {fe : DE} {g : DS} {n : Nat} {l : List β} {p : Pr β} {k : β → Pr α} (hi : env[i]? = some (some (.ref n))) (hj : cs[j]? = some (n, .lst (l.map en))) (h : PX fe env (St N P cs) X p) (hM : St N P cs M) (hk : ∀ x M1, St N P (cs.set j (n, .lst ((l ++ [x]).map en))) M1 → Sat (g env M1) (k x) rel X) :
    Sat (dSeq (dDrop (dLm gApp (dVar i) (dConsA fe dNilA))) g env M) (p.bind fun x => Pr.need (l.length < 16777216) (k x)) rel X := by
  have hc := hM.get j hj
  have e : dLm gApp (dVar i) (dConsA fe dNilA) env M = (dConsA fe dNilA env M).bind fun as M2 => liftM (gApp (.ref n) as M2) := by
    unfold dLm dVar
    simp only [hi]
    show (match asL (.ref n) M with
      | some _ => (dConsA fe dNilA env M).bind fun as M2 => liftM (gApp (.ref n) as M2)
      | none => Out.bad) = _
    simp only [asL, hc]
  unfold dSeq dDrop
  rw [e, bind_assoc, bind_assoc]
  refine arg_e h hM fun x M1 h1 => arg_nil (.need fun hl => ?_)
  have hc1 := h1.get j hj
  have e2 : gApp (.ref n) [en x] M1 = some (.non, M1.set n (.lst ((l ++ [x]).map en))) := by
    simp only [gApp, setL, hc1]
    rw [if_pos (by simpa using hl)]
    simp
  show Sat ((liftM (gApp (.ref n) [en x] M1)).bind _) _ _ _
  rw [e2]
  exact hk x _ (h1.set j hj (lst_closed _))
/-- a call whose new list goes to a name -/
theorem seq_setC [Enc β] {i : Nat} {fa : DE} {g : DS} {p : Pr (List β)} {k : List β → Pr α} {env1 : Nat → En} (he : ∀ n, env.set i (some (.ref n)) = env1 n) (h : ∀ (c : D → Sto → Out Fl) (k : List β → Pr α), (∀ l n M1, St N P (cs ++ [(n, .lst (l.map en))]) M1 → Sat (c (.ref n) M1) (k l) rel X) → Sat ((fa env M).bind c) (p.bind k) rel X)
    (hk : ∀ l n M1, St N P (cs ++ [(n, .lst (l.map en))]) M1 → Sat (g (env1 n) M1) (k l) rel X) : Sat (dSeq (dSet i fa) g env M) (p.bind k) rel X := by
  unfold dSeq dSet
  rw [bind_assoc]
  refine h _ k fun l n M1 h1 => ?_
  have := hk l n M1 h1
  rw [← he n] at this
  exact this
end
end Ip
end
section
set_option Elab.async false
set_option linter.all false
set_option maxRecDepth 100000
set_option maxHeartbeats 1000000
set_option autoImplicit false
namespace Ip
open PySem L2
inductive Pc where
  | top (n : Int) | old (a b : Int) | opn (a : Int) | new (a b n : Int)
deriving DecidableEq
def Pc.d : Pc → D
  | .top n => .tup [.str "top", .int n]
  | .old a b => .tup [.str "old", .int a, .int b]
  | .opn a => .tup [.str "old", .int a, .non]
  | .new a b n => .tup [.str "new", .int a, .int b, .int n]
instance : Enc Pc := ⟨Pc.d, fun p k => by cases p <;> simp [Pc.d, closed, closedAll], fun a b h => by
  have w1 : ((Str.ofString "old") = (Str.ofString "new")) = False := by simp only [eq_iff_iff, iff_false]; decide +kernel
  have w2 : ((Str.ofString "new") = (Str.ofString "old")) = False := by simp only [eq_iff_iff, iff_false]; decide +kernel
  cases a <;> cases b <;> simp_all [Pc.d]⟩
instance : NoN Pc := ⟨fun p h => by cases p <;> cases h⟩
theorem w_eq (a b : Str) (M : Sto) : gEq false (.str a) (.str b) M = some (.bl (decide (a = b)), M) := by
  unfold gEq eqD
  simp only [toV, scal, if_true, Option.map_some, V.str.injEq]
  rfl
theorem w_ne (a b : Str) (M : Sto) : gEq true (.str a) (.str b) M = some (.bl (!decide (a = b)), M) := by
  unfold gEq eqD
  simp only [toV, scal, if_true, Option.map_some, V.str.injEq]
theorem geqI (a b : Int) (M : Sto) : gEq false (.int a) (.int b) M = some (.bl (decide (a = b)), M) := by
  unfold gEq eqD
  simp only [toV, scal, if_true, Option.map_some, V.int.injEq]
  rfl
theorem gneI (a b : Int) (M : Sto) : gEq true (.int a) (.int b) M = some (.bl (!decide (a = b)), M) := by
  unfold gEq eqD
  simp only [toV, scal, if_true, Option.map_some, V.int.injEq]
section
variable {α β γ δ ε σ ρ : Type} {X : Sto → Prop} {env : En} {S : Sto → Prop} {M : Sto}
theorem cast_ok [Enc α] [Enc β] {a : α} {b : β} (h : en a = en b) : (cast a : Pr β) = Pr.ok b := by
  funext Q E
  refine propext ⟨fun ⟨c, e, q⟩ => ?_, fun q => ⟨b, h, q⟩⟩
  rw [Enc.inj b c (h.symm.trans e)]; exact q
theorem isNon_some [Enc α] [NoN α] (a : α) : isNon (en a) = false := by
  have := NoN.non a
  revert this
  generalize en a = d
  intro h
  cases d <;> first | rfl | exact absurd rfl h
theorem isNon_opt [Enc α] [NoN α] (o : Option α) : isNon (en o) = o.isNone := by
  cases o with
  | none => rfl
  | some a => exact isNon_some a
def LV (f : DE) (env : En) (S : Sto → Prop) (l : List D) : Prop := ∀ M, S M → ∃ x, f env M = .ok x M ∧ asL x M = some l
theorem lv_v {f : DE} {l : List D} (h : PV f env S (.lst l)) : LV f env S l := fun M hM => ⟨_, h M hM, rfl⟩
theorem lv_c {N : Nat} {P : Sto → Prop} {cs : List (Nat × Cell)} {i : Nat} (j : Nat) {n : Nat} {l : List D} (hi : env[i]? = some (some (.ref n))) (hj : cs[j]? = some (n, .lst l)) : LV (dVar i) env (St N P cs) l := fun M hM =>
  ⟨.ref n, by unfold dVar; rw [hi], by simp only [asL, hM.get j hj]⟩
def idx (l : List α) (i : Int) : Pr α := fun Q _ => ∃ a, atI l i = some a ∧ Q a
theorem atI_map (f : α → β) (l : List α) (i : Int) : atI (l.map f) i = (atI l i).map f := by
  unfold atI
  rw [List.length_map]
  cases ixN l.length i with
  | none => rfl
  | some j => simp
theorem cutD_map (f : α → β) (l : List α) (lo hi : Option Int) : cutD (l.map f) lo hi = (cutD l lo hi).map f := by
  unfold cutD
  simp only [List.length_map, List.map_drop, List.map_take]
theorem gIx_as {x : D} {l : List D} {i : Int} (h : asL x M = some l) : gIx x (.int i) M = (atI l i).map (·, M) := by
  unfold gIx
  cases x <;> first | (simp only [asL] at h; done) | skip
  all_goals simp only [h]
  all_goals first | (simp only [asL] at h; cases h; done) | (cases hh : atI l i <;> rfl)
theorem ix_l [Enc α] {fa fb : DE} {l : List α} {i : Int} (h : LV fa env S (l.map en)) (h' : PV fb env S (.int i)) : PX (dBin gIx fa fb) env S X (idx l i) := fun M hM => by
  refine ⟨fun Q E ⟨a, ha, q⟩ => ?_⟩
  obtain ⟨x, e, hx⟩ := h M hM
  have e2 : dBin gIx fa fb env M = .ok (en a) M := by
    unfold dBin
    rw [e]
    show (fb env M).bind _ = _
    rw [h' M hM]
    show liftM (gIx x (.int i) M) = _
    rw [gIx_as hx, atI_map, ha]; rfl
  rw [e2]
  exact ⟨a, q, rfl, hM⟩
theorem gLen_as {x : D} {l : List D} (h : asL x M = some l) : gLen [x] M = some (.int (l.length : Nat), M) := by
  unfold gLen
  cases x <;> first | (simp only [asL] at h; cases h; done) | simp only [h]
theorem len_l {fa : DE} {l : List D} (h : LV fa env S l) : PV (dCallB gLen (dConsA fa dNilA)) env S (.int (l.length : Nat)) := fun M hM => by
  obtain ⟨x, e, hx⟩ := h M hM
  unfold dCallB dConsA
  rw [e]
  show liftM (gLen [x] M) = _
  rw [gLen_as hx]; rfl
def OV (f : DO) (env : En) (S : Sto → Prop) (o : Option Int) : Prop := ∀ M, S M → f env M = .ok o M
theorem ov_n : OV dNoPart env S none := fun _ _ => rfl
theorem ov_s {f : DE} {i : Int} (h : PV f env S (.int i)) : OV (dPart f) env S (some i) := fun M hM => by
  unfold dPart; rw [h M hM]; rfl
theorem gSl_as {x : D} {l : List D} {lo hi : Option Int} (h : asL x M = some l) : gSl x lo hi M = some (.lst (cutD l lo hi), M) := by
  unfold gSl
  cases x <;> first | (simp only [asL] at h; cases h; done) | simp only [h]
theorem sl_l {fa : DE} {fl fh : DO} {l : List D} {lo hi : Option Int} (h : LV fa env S l) (h1 : OV fl env S lo) (h2 : OV fh env S hi) : PV (dSl fa fl fh) env S (.lst (cutD l lo hi)) := fun M hM => by
  obtain ⟨x, e, hx⟩ := h M hM
  unfold dSl
  rw [e]
  show (fl env M).bind _ = _
  rw [h1 M hM]
  show (fh env M).bind _ = _
  rw [h2 M hM]
  show liftM (gSl x lo hi M) = _
  rw [gSl_as hx]; rfl
theorem sl_v {fa : DE} {fl fh : DO} {x z : D} {lo hi : Option Int} (h : PV fa env S x) (h1 : OV fl env S lo) (h2 : OV fh env S hi) (hg : ∀ M, S M → gSl x lo hi M = some (z, M)) : PV (dSl fa fl fh) env S z := fun M hM => by
  unfold dSl
  rw [h M hM]
  show (fl env M).bind _ = _
  rw [h1 M hM]
  show (fh env M).bind _ = _
  rw [h2 M hM]
  show liftM (gSl x lo hi M) = _
  rw [hg M hM]; rfl
theorem sl_op [Enc α] [Enc γ] {fa : DE} {fl fh : DO} {a : α} {lo hi : Option Int} (h : PV fa env S (en a)) (h1 : OV fl env S lo) (h2 : OV fh env S hi) : PX (dSl fa fl fh) env S X (op1 (fun x M => gSl x lo hi M) a : Pr γ) := fun M hM => by
  refine ⟨fun Q E ⟨c, hc, q⟩ => ?_⟩
  have e : dSl fa fl fh env M = .ok (en c) M := sl_v (z := en c) (S := S) h h1 h2 (fun M _ => hc M) M hM
  rw [e]
  exact ⟨c, q, rfl, hM⟩
def rep (l : List α) (k : Int) : Pr (List α) := Pr.need (sm k ∧ l.length * k.toNat ≤ 16777216) (Pr.ok (List.replicate k.toNat l).flatten)
theorem gs_rep [Enc α] {l : List α} {k : Int} : GS S X gMul (en l) (.int k) (rep l k) := fun M hM => .need fun ⟨h1, h2⟩ => by
  have e : gMul (en l) (.int k) M = some (.lst (List.replicate k.toNat (l.map en)).flatten, M) := by
    show gMul (.lst (l.map en)) (.int k) M = _
    unfold gMul orG gIntC gRep
    simp only [asL, in63_sm h1, List.length_map, h2, decide_true, Bool.and_true, if_true]
  rw [e]
  refine .ok ⟨?_, hM⟩
  show D.lst _ = D.lst _
  congr 1
  generalize k.toNat = n
  induction n with
  | zero => rfl
  | succ n ih => rw [List.replicate_succ, List.replicate_succ, List.flatten_cons, List.flatten_cons, List.map_append, ih]
theorem callB_end [Enc γ] {g : GC} {xs : List D} {c : γ} (hM : S M) (hg : ∀ M, S M → g xs M = some (en c, M)) : Sat (liftM (g xs M)) (Pr.ok c) (relE S) X := by
  rw [hg M hM]
  exact .ok ⟨rfl, hM⟩
theorem bls_map : ∀ l : List Bool, bls (l.map en) = some l
  | [] => rfl
  | b :: l => by
    show (bls (l.map en)).map (b :: ·) = _
    rw [bls_map l]; rfl
theorem gAll_v (l : List Bool) (M : Sto) : gAll [en l] M = some (.bl (l.all id), M) := by
  show (bls (l.map en)).map (fun bs => (D.bl (bs.all id), M)) = _
  rw [bls_map]; rfl
end
end Ip
namespace Ip
open PySem L2
section
variable {α β γ δ ε σ ρ : Type} {X : Sto → Prop} {env : En} {S : Sto → Prop} {M : Sto}
theorem pv_eq {f : DE} {x y : D} (e : x = y) (h : PV f env S x) : PV f env S y := e ▸ h
theorem sl_L [Enc α] {fa : DE} {fl fh : DO} {l : List α} {lo hi : Option Int} (h : LV fa env S (l.map en)) (h1 : OV fl env S lo) (h2 : OV fh env S hi) : PV (dSl fa fl fh) env S (en (cutD l lo hi)) :=
  pv_eq (by show D.lst _ = D.lst _; rw [cutD_map]) (sl_l h h1 h2)
theorem len_L [Enc α] {fa : DE} {l : List α} (h : LV fa env S (l.map en)) : PV (dCallB gLen (dConsA fa dNilA)) env S (en ((l.length : Nat) : Int)) := pv_eq (by show D.int _ = D.int _; simp) (len_l h)
class PyT (α : Type) [Enc α] where
  py : α → PyData
  top : ∀ a : α, toPy (en a) = some (py a)
  lay : ∀ a, PyData.canLay0 (py a) = true
  dp : Nat
  dep : ∀ a, PyData.depth (py a) ≤ dp
  eqv : ∀ a b, PyData.eqv (py a) (py b) = true ↔ a = b
  sc : ∀ (a b : α) (v w : V), toV (en a) = some v → toV (en b) = some w → scal v w = true
instance : PyT Int := ⟨.int, fun _ => rfl, fun _ => rfl, 0, fun _ => Nat.le_refl _, fun a b => by simp [PyData.eqv], fun a b v w h1 h2 => by cases h1; cases h2; rfl⟩
instance : PyT Bool := ⟨.bool, fun _ => rfl, fun _ => rfl, 0, fun _ => Nat.le_refl _, fun a b => by simp [PyData.eqv], fun a b v w h1 h2 => by cases h1; cases h2; rfl⟩
theorem toV_non {d : D} {w : V} (h : toV d = some w) : scal .non w = true ∧ scal w .non = true := by
  cases d <;> cases h <;> exact ⟨rfl, rfl⟩
theorem toPys_map [Enc α] [PyT α] : ∀ l : List α, toPys (l.map en) = some (l.map PyT.py)
  | [] => rfl
  | x :: l => by simp [toPys, PyT.top, toPys_map l]
theorem layAll_map [Enc α] [PyT α] : ∀ l : List α, PyData.canLayAll0 (l.map PyT.py) = true
  | [] => rfl
  | x :: l => by simp [PyData.canLayAll0, PyT.lay, layAll_map l]
theorem depAll_map [Enc α] [PyT α] : ∀ l : List α, PyData.depthAll (l.map PyT.py) ≤ PyT.dp α
  | [] => Nat.zero_le _
  | x :: l => by simp only [List.map_cons, PyData.depthAll]; exact Nat.max_le.mpr ⟨PyT.dep x, depAll_map l⟩
theorem eqvAll_map [Enc α] [PyT α] : ∀ l m : List α, PyData.eqvAll (l.map PyT.py) (m.map PyT.py) = true ↔ l = m
  | [], [] => by simp [PyData.eqvAll]
  | [], _ :: _ => by simp [PyData.eqvAll]
  | _ :: _, [] => by simp [PyData.eqvAll]
  | x :: l, y :: m => by simp [PyData.eqvAll, PyT.eqv, eqvAll_map l m]
instance [Enc α] [PyT α] : PyT (List α) := ⟨fun l => .list (l.map PyT.py), fun l => by show (toPys (l.map en)).map _ = _; rw [toPys_map]; rfl, fun l => layAll_map l, PyT.dp α + 1, fun l => Nat.succ_le_succ (depAll_map l), fun a b => eqvAll_map a b, fun a b v w h1 h2 => by cases h1⟩
instance [Enc α] [PyT α] [Enc β] [PyT β] : PyT (α × β) := ⟨fun p => .tuple [PyT.py p.1, PyT.py p.2], fun p => by show (toPys [en p.1, en p.2]).map _ = _; simp [toPys, PyT.top], fun p => by simp [PyData.canLay0, PyData.canLayAll0, PyT.lay], max (PyT.dp α) (PyT.dp β) + 1, fun p => by
    have h1 := PyT.dep p.1
    have h2 := PyT.dep p.2
    simp only [PyData.depth, PyData.depthAll]
    omega, fun a b => by simp [PyData.eqv, PyData.eqvAll, PyT.eqv, Prod.ext_iff], fun a b v w h1 h2 => by cases h1⟩
/-- never equal to None -/
class NoE (α : Type) [Enc α] [PyT α] : Prop where
  l : ∀ a : α, PyData.eqv (PyT.py a) .none = false
  r : ∀ a : α, PyData.eqv .none (PyT.py a) = false
instance : NoE Int := ⟨fun _ => rfl, fun _ => rfl⟩
instance : NoE Bool := ⟨fun _ => rfl, fun _ => rfl⟩
instance [Enc α] [PyT α] : NoE (List α) := ⟨fun _ => rfl, fun _ => rfl⟩
instance [Enc α] [PyT α] [Enc β] [PyT β] : NoE (α × β) := ⟨fun _ => rfl, fun _ => rfl⟩
instance [Enc α] [PyT α] [NoN α] [NoE α] : PyT (Option α) := ⟨fun o => match o with | none => .none | some a => PyT.py a, fun o => by cases o with | none => rfl | some a => exact PyT.top a, fun o => by cases o with | none => rfl | some a => exact PyT.lay a, PyT.dp α, fun o => by cases o with | none => exact Nat.zero_le _ | some a => exact PyT.dep a, fun a b => by
    cases a with
    | none => cases b with
      | none => simp [PyData.eqv]
      | some b => simp [NoE.r]
    | some a => cases b with
      | none => simp [NoE.l]
      | some b => simp [PyT.eqv], fun a b v w h1 h2 => by
    cases a with
    | none => cases h1; exact (toV_non h2).1
    | some a => cases b with
      | none => cases h2; exact (toV_non h1).2
      | some b => exact PyT.sc a b v w h1 h2⟩
structure Sq (α : Type) where
  t : Bool
  l : List α
def Sq.cut {α : Type} (q : Sq α) (lo hi : Option Int) : Sq α := ⟨q.t, cutD q.l lo hi⟩
def Sq.d {α : Type} [Enc α] (q : Sq α) : D := match q.t with
  | true => .tup (q.l.map en)
  | false => .lst (q.l.map en)
instance [Enc α] : Enc (Sq α) := ⟨Sq.d, fun q k => by
    obtain ⟨t, l⟩ := q
    cases t <;> exact closedAll_map k l, fun a b h => by
    obtain ⟨t, l⟩ := a
    obtain ⟨t', l'⟩ := b
    cases t <;> cases t' <;> first | (cases h; done) | skip
    · rw [map_inj l l' (D.lst.inj h)]
    · rw [map_inj l l' (D.tup.inj h)]⟩
instance [Enc α] : NoN (Sq α) := ⟨fun q h => by obtain ⟨t, l⟩ := q; cases t <;> cases h⟩
variable {rel : α → Fl → Sto → Prop} {N : Nat} {P : Sto → Prop} {cs : List (Nat × Cell)}
/-- a def of one list, which may be a cell of the caller's -/
def FPL [Enc α] [Enc β] (F : DF) (l : List α) (p : Pr β) : Prop := ∀ M x, PureS M → asL x M = some (l.map en) → Sat (F [x] M) p (fun a d M' => d = en a ∧ M' = M) NX
theorem FPL.fp [Enc α] [Enc β] {F : DF} {l : List α} {p : Pr β} (h : FPL F l p) : FP F [en l] p := fun M hM => h M (en l) hM rfl
end
end Ip
end
section
set_option Elab.async false
set_option linter.all false
set_option maxRecDepth 100000
set_option maxHeartbeats 1000000
set_option autoImplicit false
namespace Ip
open PySem L2
structure Lay where
  parts : List Pc
  starts : List Int
abbrev lks : List Str := ["parts", "starts"]
instance : Enc Lay := ⟨fun l => .obj "Layout" lks [en l.parts, en l.starts], fun l k => by
    show closedAll k [en l.parts, en l.starts] = true
    simp [closedAll, Enc.cls], fun a b h => by
    have h' := (D.obj.inj h).2.2
    simp only [List.cons.injEq, and_true] at h'
    cases a; cases b
    simp only [Lay.mk.injEq]
    exact ⟨Enc.inj _ _ h'.1, Enc.inj _ _ h'.2⟩⟩
instance : NoN Lay := ⟨fun _ h => by cases h⟩
section
variable {α β γ δ ε σ ρ : Type} {X : Sto → Prop} {env : En} {S : Sto → Prop} {M : Sto}
theorem Sat.nx {rel : α → δ → Sto → Prop} {o : Out δ} {p : Pr α} (h : Sat o p rel NX) : Sat o p rel X := ⟨fun Q E z => (h.run Q E z).imp (fun _ _ z => z) (fun _ _ _ z => z.2.elim)⟩
mutual
def lkD : Nat → D → Bool
  | 0, _ => false
  | _ + 1, .non => true
  | _ + 1, .bl _ => true
  | _ + 1, .int _ => true
  | _ + 1, .str _ => true
  | k + 1, .tup l => decide (l.length ≤ 1000) && lkDs k l
  | k + 1, .lst l => decide (l.length ≤ 1000) && lkDs k l
  | _ + 1, _ => false
def lkDs : Nat → List D → Bool
  | _, [] => true
  | k, d :: l => lkD k d && lkDs k l
end
def lk [Enc α] [Enc β] (k : Nat) (a : α) (b : β) : Pr Bool := fun Q _ => en a = en b ∧ lkD k (en a) = true ∧ Q true
variable {rel : α → Fl → Sto → Prop}
theorem seq_bag {ns : List Int} {Fb : DF} {g : DS} {i : Nat} {env1 : En} {p : Pr α} (h : ∃ l, Fb [.scr ns] [] = .ok (.ref 0) [.lst l] ∧ BagOk l) (h0 : env[0]? = some (some (.scr ns))) (he : env.set i (some (.ref 0)) = env1) (hk : ∀ M, SB [] M → Sat (g env1 M) p rel X) : Sat (dSeq (dSet i (dCall Fb (dConsA (dVar 0) dNilA))) g env []) p rel X := by
  obtain ⟨l, e, hb⟩ := h
  have e2 : dCall Fb (dConsA (dVar 0) dNilA) env [] = .ok (.ref 0) [.lst l] := by
    unfold dCall dConsA dVar dNilA
    rw [h0]
    show noex (Fb [.scr ns] []) = _
    rw [e]; rfl
  unfold dSeq dSet
  rw [e2]
  subst he
  exact hk _ ⟨l, hb, rfl, PureS.nil⟩
theorem SB.st {M : Sto} (h : SB [] M) : St (([] : Sto).length + 1) (BagP []) [] M := by
  obtain ⟨b, hb, rfl, _⟩ := h
  exact .start ⟨b, hb, rfl⟩ rfl (pure_bag hb PureS.nil)
theorem run_law {n : Nat} {B : DS} {ns : List Int} {p : Pr Bool} {env0 : En} {R : Sto → Prop} (he : [some (D.scr ns)] ++ List.replicate (n - 1) none = env0) (h : Sat (B env0 []) p (fun a fl M' => fl = .rt (en a) ∧ R M') NX) (ht : p (fun b => b = true) (fun _ => False)) : ∃ M, runF n 1 B [.scr ns] [] = .ok (.bl true) M := by
  have := h.run _ _ ht
  have e : runF n 1 B [.scr ns] [] = (B env0 []).bind fun fl M1 => match fl with
    | .nx _ => .ok .non M1
    | .rt d => .ok d M1
    | _ => .bad := by
    unfold runF
    rw [if_pos (show [D.scr ns].length = 1 from rfl), ← he]
    rfl
  rw [e]
  cases ho : B env0 [] with
  | bad => rw [ho] at this; exact this.elim
  | exc e v M => rw [ho] at this; exact this.1.elim
  | ok fl M =>
    rw [ho] at this
    obtain ⟨a, ha, h1, _⟩ := this
    subst ha
    rw [h1]
    exact ⟨M, rfl⟩
end
end Ip
namespace Ip
open PySem L2
theorem idx_nat {α : Type} {l : List α} {i : Nat} (h : i < l.length) : idx l (i : Int) = Pr.ok l[i] := by
  funext Q E
  have e : atI l (i : Int) = some l[i] := by
    unfold atI ixN
    simp [h]
  refine propext ⟨fun ⟨a, ha, q⟩ => ?_, fun q => ⟨l[i], e, q⟩⟩
  rw [e] at ha
  cases ha
  exact q
theorem ixN_last {α : Type} (l : List α) (x : α) : ixN (l ++ [x]).length (-1) = some l.length := by
  unfold ixN
  rw [if_neg (by omega), if_pos (by simp; omega), show (-1 + (((l ++ [x]).length : Nat) : Int)).toNat = l.length by simp; omega]
theorem idx_last {α : Type} (l : List α) (x : α) : idx (l ++ [x]) (-1) = Pr.ok x := by
  funext Q E
  have e : atI (l ++ [x]) (-1) = some x := by
    unfold atI
    rw [ixN_last]
    simp
  refine propext ⟨fun ⟨a, ha, q⟩ => ?_, fun q => ⟨x, e, q⟩⟩
  rw [e] at ha
  cases ha
  exact q
end Ip
namespace Ip
open PySem L2
section
variable {α β γ δ ε σ ρ : Type} {X : Sto → Prop} {env : En} {S : Sto → Prop} {M : Sto}
theorem forS_cell {t : DG} {fb : DS} {n : Nat} {l : List β} {enc : β → D} {body : β → σ → Pr σ} {I : σ → En → Sto → Prop} (hI : ∀ s env M, I s env M → M[n]? = some (Cell.lst (l.map enc))) (hb : ∀ x s env M, I s env M → ∃ env1, t (enc x) env = some env1 ∧ Sat (fb env1 M) (body x s) (LpR I) X) :
    ∀ (f i : Nat) (s : σ) (env : En) (M : Sto), l.length < f + i → i ≤ l.length → I s env M → Sat (forS t fb (.cell n) f i env M) (Pr.forM (l.drop i) s body) (NxR I) X
  | 0, i, s, env, M, h, hi, _ => by omega
  | f + 1, i, s, env, M, h, hi, hs => by
    have hc := hI s env M hs
    by_cases hl : i < l.length
    · rw [List.drop_eq_getElem_cons hl]
      obtain ⟨env1, e1, hb1⟩ := hb l[i] s env M hs
      unfold forS
      rw [show (Src.cell n).at_ i M = some (some (enc l[i])) by
        show (celL M[n]?).map (fun l => l[i]?) = _
        rw [hc]
        show some ((l.map enc)[i]?) = _
        rw [List.getElem?_map, List.getElem?_eq_getElem hl]; rfl]
      simp only [e1]
      refine hb1.bind fun s' fl M1 ⟨env2, z, i2⟩ => ?_
      rcases z with z | z
      · rw [z]; exact forS_cell hI hb f (i + 1) s' env2 M1 (by omega) (by omega) i2
      · rw [z]; exact forS_cell hI hb f (i + 1) s' env2 M1 (by omega) (by omega) i2
    · have e : i = l.length := by omega
      subst e
      rw [List.drop_length]
      unfold forS
      rw [show (Src.cell n).at_ l.length M = some none by
        show (celL M[n]?).map (fun k => k[l.length]?) = _
        rw [hc]
        show some ((l.map enc)[l.length]?) = _
        simp]
      exact .ok ⟨env, rfl, hs⟩
theorem iter2_c {fe : DE} {n : Nat} {l : List D} {c : Src → Sto → Out ε} (h : fe env M = .ok (.ref n) M) (hn : M[n]? = some (.lst l)) : (dIter2 fe env M).bind c = c (.cell n) M := by
  unfold dIter2
  rw [h]
  show Out.bind (match (celL M[n]?).map (fun _ => Src.cell n) with
    | some s => Out.ok s M
    | none => .bad) c = _
  rw [hn]
  rfl
theorem forC_nx {t : DG} {k n : Nat} {fb : DS} {l : List β} {enc : β → D} {s : σ} {body : β → σ → Pr σ} {I : σ → En → Sto → Prop} (hk : env[k]? = some (some (.ref n))) (hI : ∀ s env M, I s env M → M[n]? = some (Cell.lst (l.map enc))) (h0 : I s env M)
    (hb : ∀ x s env M, I s env M → ∃ env1, t (enc x) env = some env1 ∧ Sat (fb env1 M) (body x s) (LpR I) X) : Sat (dForS t (dIter2 (dVar k)) fb env M) ((lim l).bind fun l => Pr.forM l s body) (NxR I) X := by
  refine Sat.need (p := Pr.forM l s body) fun hl => ?_
  unfold dForS
  rw [iter2_c (by unfold dVar; rw [hk]) (hI s env M h0)]
  exact forS_cell hI hb 20000000 0 s env M (by omega) (Nat.zero_le _) h0
end
end Ip
namespace Ip
open PySem L2
section
variable {α β γ δ ε σ ρ : Type} {X : Sto → Prop} {env : En} {S : Sto → Prop} {M : Sto} {N : Nat} {P : Sto → Prop} {cs : List (Nat × Cell)}
theorem eqD_ref {n : Nat} {l : List D} {y : D} (hn : M[n]? = some (.lst l)) : eqD (.ref n) y M = eqD (.lst l) y M := by
  unfold eqD
  have h1 : pyM (.ref n) M = pyM (.lst l) M := by
    show (match M[n]? with
      | some (.lst l) => toPy (.lst l)
      | _ => none) = _
    rw [hn]
    rfl
  rw [h1]
  rfl
end
end Ip
namespace Ip
open PySem L2
end Ip
end
section
set_option Elab.async false
set_option linter.all false
set_option maxRecDepth 100000
set_option maxHeartbeats 1000000
set_option autoImplicit false
namespace Ip
open PySem L2
section
variable {α β γ δ ε σ ρ : Type} {X : Sto → Prop} {rel : α → Fl → Sto → Prop} {env : En} {S : Sto → Prop} {M : Sto}
theorem gs_isnt [Enc β] [NoN β] {o : Option β} : GS S X (gIs true) (en o) (en ()) (Pr.ok o.isSome) := gs_ok fun M _ => by
  show some (D.bl (if true = true then !isNon (en o) else isNon (en o)), M) = _
  rw [isNon_opt]
  cases o <;> rfl
end
def Pc.py : Pc → PyData
  | .top n => .tuple [.str "top", .int n]
  | .old a b => .tuple [.str "old", .int a, .int b]
  | .opn a => .tuple [.str "old", .int a, .none]
  | .new a b n => .tuple [.str "new", .int a, .int b, .int n]
theorem sOkT : PyData.strOk (Str.ofString "top") = true := by decide +kernel
theorem sOkO : PyData.strOk (Str.ofString "old") = true := by decide +kernel
theorem sOkN : PyData.strOk (Str.ofString "new") = true := by decide +kernel
theorem sTO : (Str.ofString "top" == Str.ofString "old") = false := by decide +kernel
theorem sTN : (Str.ofString "top" == Str.ofString "new") = false := by decide +kernel
theorem sOT : (Str.ofString "old" == Str.ofString "top") = false := by decide +kernel
theorem sON : (Str.ofString "old" == Str.ofString "new") = false := by decide +kernel
theorem sNT : (Str.ofString "new" == Str.ofString "top") = false := by decide +kernel
theorem sNO : (Str.ofString "new" == Str.ofString "old") = false := by decide +kernel
instance : PyT Pc := ⟨Pc.py, fun p => by cases p <;> rfl, fun p => by cases p <;> simp [Pc.py, PyData.canLay0, PyData.canLayAll0, sOkT, sOkO, sOkN], 1, fun p => by cases p <;> simp [Pc.py, PyData.depth, PyData.depthAll],
  fun a b => by cases a <;> cases b <;> simp [Pc.py, PyData.eqv, PyData.eqvAll, sTO, sTN, sOT, sON, sNT, sNO], fun a b v w h1 h2 => by cases a <;> cases h1⟩
instance : NoE Pc := ⟨fun p => by cases p <;> rfl, fun p => by cases p <;> rfl⟩
end Ip
end
section
set_option Elab.async false
set_option linter.all false
set_option maxRecDepth 100000
set_option maxHeartbeats 1000000
set_option autoImplicit false
namespace Ip
open PySem L2
section
variable {α β γ δ ε σ ρ : Type} {X S : Sto → Prop} {env : En} {M : Sto} {rel : α → Fl → Sto → Prop}
/-- a def that may raise and leaves the store as it is -/
def FPx [Enc α] (F : DF) (ds : List D) (p : Pr α) : Prop := ∀ M, PureS M → Sat (F ds M) p (fun a d M' => d = en a ∧ M' = M) (fun M' => M' = M)
theorem callPx [PuS S] [Enc α] {F : DF} {ds : List D} {p : Pr α} (h : FPx F ds p) (hM : S M) : Sat (atE env (F ds M)) p (relE S) S := by
  refine ⟨fun Q E z => ?_⟩
  have q := (h M (PuS.pure M hM)).run Q E z
  cases hf : F ds M with
  | ok d M1 =>
    rw [hf] at q
    obtain ⟨a, qa, e, eM⟩ := q
    subst eM
    exact ⟨a, qa, e, hM⟩
  | exc e v M1 =>
    rw [hf] at q
    obtain ⟨qe, eM⟩ := q
    subst eM
    exact ⟨qe, hM⟩
  | bad => rw [hf] at q; exact q.elim
theorem run_px [Enc α] {n m : Nat} {B : DS} {ds : List D} {p : Pr α} {env0 : En} (hl : ds.length = m) (he : ds.map some ++ List.replicate (n - m) none = env0) (h : ∀ M0 M, S0 M0 M → Sat (B env0 M) p (fun a fl M' => fl = .rt (en a) ∧ S0 M0 M') (S0 M0)) : FPx (runF n m B) ds p := fun M hM => by
  unfold runF
  rw [if_pos hl, he]
  refine ⟨fun Q E z => ?_⟩
  refine post_mk_bind (((h M M ⟨rfl, hM⟩).run Q E z).imp (fun fl M1 ⟨a, q, e, s⟩ => ?_) (fun _ _ _ z => ⟨z.1, z.2.1⟩))
  rw [e]
  exact ⟨a, q, rfl, s.1⟩
theorem seq_raise1 [Enc β] {c w fl : Str} {fe : DE} {g : DS} {a : β} (h : PV fe env S (en a)) (hS : S M) (hM : X M) : Sat (dSeq (dRaise1 c w fl okIntD fe) g env M) (Pr.need (okIntD (en a) = true) (Pr.exc ⟨c, [fl, "word"], [en a, .str w]⟩) : Pr α) rel X := by
  refine ⟨fun Q E z => ?_⟩
  unfold dSeq dRaise1
  rw [h M hS]
  show (Out.bind (if okIntD (en a) = true then Out.exc ⟨c, [fl, "word"], [en a, .str w]⟩ env M else .bad) _).post _ _
  rw [if_pos z.1]
  exact ⟨z.2, hM⟩
/-- what is told of a value or of an error -/
def Pr.told [Enc α] (errs : List Str) (p : Pr α) : Pr (Str × Da) := fun Q _ => p (fun a => Q ("told", da a)) (fun e => e.c ∈ errs ∧ ∃ (w : Str) (d : Da), e.at "word" = some (.str w) ∧ fieldD e w = some d.d ∧ Q (w, d))
theorem px_told [Enc α] {errs : List Str} {fe : DE} {p : Pr α} (h : PX fe env S S p) : PX (dTold errs fe) env S X (Pr.told errs p) := fun M hM => by
  refine ⟨fun Q E z => ?_⟩
  have q := (h M hM).run _ _ z
  unfold dTold
  cases hf : fe env M with
  | ok d M1 =>
    rw [hf] at q
    obtain ⟨a, qa, e, s⟩ := q
    subst e
    exact ⟨_, qa, rfl, s⟩
  | exc e v M1 =>
    rw [hf] at q
    obtain ⟨⟨hc, w, d, hw, hd, hq⟩, s⟩ := q
    simp only [hc, if_true, hw, hd]
    exact ⟨_, hq, rfl, s⟩
  | bad => rw [hf] at q; exact q.elim
end
end Ip
end
section
set_option Elab.async false
set_option linter.all false
set_option maxRecDepth 100000
set_option maxHeartbeats 4000000
namespace Ip
open PySem L2
end Ip
end
section
set_option Elab.async false
set_option linter.all false
set_option maxRecDepth 100000
set_option maxHeartbeats 4000000
namespace Ip
open PySem L2
theorem pyM_T {α : Type} [Enc α] [PyT α] (c : α) (M : Sto) : pyM (en c) M = some (PyT.py c) := by
  have h1 := PyT.top c
  have hn := closed_no_ref (d := en c) fun k => Enc.cls c k
  revert h1 hn
  generalize en c = d
  intro h1 hn
  cases d with
  | ref n => exact absurd rfl (hn n)
  | _ => exact h1
theorem shaped_T {α : Type} [Enc α] [PyT α] (c : α) (hd : PyT.dp α ≤ 64) : SeqAt.shaped (PyT.py c) = true := by
  unfold SeqAt.shaped
  rw [PyT.lay c, Bool.true_and, decide_eq_true_eq]
  exact Nat.le_trans (PyT.dep c) hd
theorem eqv_T {α : Type} [Enc α] [PyT α] [DecidableEq α] (a b : α) : PyData.eqv (PyT.py a) (PyT.py b) = decide (a = b) := by
  have := PyT.eqv a b
  by_cases h : a = b
  · rw [this.mpr h]; simp [h]
  · cases hh : PyData.eqv (PyT.py a) (PyT.py b) with
    | true => exact absurd (this.mp hh) h
    | false => simp [h]
def inT {α : Type} [DecidableEq α] (x : α) (l : List α) : Bool := decide (x ∈ l)
theorem any_T {α : Type} [Enc α] [PyT α] [DecidableEq α] (x : α) : ∀ l : List α, anyD (l.map PyT.py) (PyT.py x) = inT x l
  | [] => rfl
  | y :: l => by
    have ih := any_T x l
    unfold anyD inT at ih ⊢
    simp only [List.map_cons, List.any_cons, ih, eqv_T, List.mem_cons]
    by_cases e : y = x
    · simp [e]
    · simp [e, Ne.symm e]
section
variable {α β γ δ ε σ ρ : Type} {X S : Sto → Prop} {env : En} {M : Sto} {N : Nat} {P : Sto → Prop} {cs : List (Nat × Cell)} {rel : α → Fl → Sto → Prop}
theorem inD_of {x y : D} {p : PyData} {qs : List PyData} (hx : pyM x M = some p) (hy : pyM y M = some (.list qs)) (h1 : SeqAt.shaped p = true) (h2 : SeqAt.shaped (.list qs) = true) : inD x y M = some (anyD qs p) := by
  unfold inD
  simp only [hx, hy, h1, h2, Bool.and_self, if_true]
theorem in_vT [Enc β] [PyT β] [DecidableEq β] (b : Bool) {l : List β} {x : β} {fa fb : DE} (hx : PV fa env S (en x)) (hy : PV fb env S (en l)) (hd : PyT.dp β + 1 ≤ 64 := by exact Nat.le_of_ble_eq_true rfl) :
    PV (dBin (gIn b) fa fb) env S (.bl (if b then !inT x l else inT x l)) := bin_v hx hy fun M hM => by
  have e : inD (en x) (en l) M = some (inT x l) := by
    rw [← any_T x l]
    exact inD_of (pyM_T x M) (pyM_T l M) (shaped_T x (by omega)) (shaped_T (α := List β) l (by show PyT.dp β + 1 ≤ 64; omega))
  show (inD (en x) (en l) M).map _ = _
  rw [e]
  rfl
structure Dic (β : Type) where
  l : List (II × β)
theorem pK_inj {a b : II} (h : pK a = pK b) : a = b := by
  unfold pK at h
  simp only [List.cons.injEq, Sum.inl.injEq, and_true] at h
  exact Prod.ext h.1 h.2
def dks (l : List (II × β)) : List (List Key) := l.map fun p => pK p.1
def dvs [Enc β] (l : List (II × β)) : List D := l.map fun p => en p.2
theorem dks_inj [Enc β] : ∀ a b : List (II × β), dks a = dks b → dvs a = dvs b → a = b
  | [], [], _, _ => rfl
  | [], _ :: _, h, _ => by cases h
  | _ :: _, [], h, _ => by cases h
  | x :: a, y :: b, h, h' => by
    simp only [dks, List.map_cons, List.cons.injEq] at h
    simp only [dvs, List.map_cons, List.cons.injEq] at h'
    rw [Prod.ext (pK_inj h.1) (Enc.inj _ _ h'.1), dks_inj a b h.2 h'.2]
theorem closed_dvs [Enc β] (k : Nat) : ∀ l : List (II × β), closedAll k (dvs l) = true
  | [] => rfl
  | x :: l => by
    have ih := closed_dvs k l
    unfold dvs at ih ⊢
    simp [closedAll, Enc.cls x.2 k, ih]
instance [Enc β] : Enc (Dic β) := ⟨fun d => .dT (dks d.l) (dvs d.l), fun d k => by simp only [closed]; exact closed_dvs k d.l, fun a b h => by
  obtain ⟨la⟩ := a
  obtain ⟨lb⟩ := b
  exact congrArg Dic.mk (dks_inj la lb (D.dT.inj h).1 (D.dT.inj h).2)⟩
instance [Enc β] : NoN (Dic β) := ⟨fun _ h => by cases h⟩
end
end Ip
end
section
set_option Elab.async false
set_option linter.all false
set_option maxRecDepth 100000
set_option maxHeartbeats 4000000
namespace Ip
open PySem L2
end Ip
end
section
set_option Elab.async false
set_option linter.all false
set_option maxRecDepth 100000
set_option maxHeartbeats 1000000
namespace Ip
open PySem L2
end Ip
end
section
set_option Elab.async false
set_option linter.all false
set_option maxRecDepth 100000
set_option maxHeartbeats 4000000
namespace Ip
open PySem L2
section
variable {α β γ δ ε σ ρ : Type} {X S : Sto → Prop} {env : En} {M : Sto} {N : Nat} {P : Sto → Prop} {cs : List (Nat × Cell)} {rel : α → Fl → Sto → Prop}
def optP (o : Option α) : Pr α := match o with
  | some a => Pr.ok a
  | none => Pr.bad
end
end Ip
end
section
set_option Elab.async false
set_option linter.all false
set_option maxRecDepth 100000
set_option maxHeartbeats 4000000
namespace Ip
open PySem L2
end Ip
end
section
set_option Elab.async false
set_option linter.all false
set_option maxRecDepth 100000
set_option maxHeartbeats 1000000
set_option autoImplicit false
namespace Ip
open PySem L2
structure Gr where
  rows : Lay
  cols : Lay
abbrev gks : List Str := ["row_layout", "column_layout"]
instance : Enc Gr := ⟨fun l => .obj "Grid" gks [en l.rows, en l.cols], fun l k => by
    show closedAll k [en l.rows, en l.cols] = true
    simp [closedAll, Enc.cls], fun a b h => by
    have h' := (D.obj.inj h).2.2
    simp only [List.cons.injEq, and_true] at h'
    cases a; cases b
    simp only [Gr.mk.injEq]
    exact ⟨Enc.inj _ _ h'.1, Enc.inj _ _ h'.2⟩⟩
instance : NoN Gr := ⟨fun _ h => by cases h⟩
section
variable {α β γ δ ε σ ρ : Type} {X : Sto → Prop} {env : En} {S : Sto → Prop} {M : Sto}
/-- tuple(list) -/
theorem tup_L [Enc α] {fa : DE} {l : List α} (h : LV fa env S (l.map en)) : PV (dCallB gTuple (dConsA fa dNilA)) env S (en (Sq.mk true l)) := fun M hM => by
  obtain ⟨x, e, h2⟩ := h M hM
  unfold dCallB dConsA
  rw [e]
  show liftM (gTuple [x] M) = _
  have : gTuple [x] M = some (.tup (l.map en), M) := by
    unfold gTuple
    cases x <;> simp only [asL] at h2 <;> (try (cases h2; done))
    all_goals simp only [asL, h2, Option.map_some]
    all_goals (try (cases h2))
    all_goals rfl
  rw [this]
  rfl
end
end Ip
end
section
set_option Elab.async false
set_option linter.all false
set_option maxRecDepth 100000
set_option maxHeartbeats 1000000
set_option autoImplicit false
namespace Ip
open PySem L2
def nilT : Da := ⟨.tup [], fun _ => rfl⟩
section
variable {α β γ δ ε σ ρ : Type} {X : Sto → Prop} {env : En} {S : Sto → Prop} {M : Sto}
def seqD (d : D) (l : List D) : Prop := d = .tup l ∨ d = .lst l
/-- how long data is -/
def lenD (a : Da) : Pr Int := fun Q _ => ∃ l, seqD a.d l ∧ Q ((l.length : Nat) : Int)
/-- the items of data -/
def itemsD (a : Da) : Pr (List Da) := fun Q _ => ∃ l : List Da, seqD a.d (l.map en) ∧ Q l
theorem nilT_v : PV (dTup dNilA) env S (en nilT) := fun M hM => rfl
theorem lenD_v {fa : DE} {a : Da} (h : PV fa env S (en a)) : PX (dCallB gLen (dConsA fa dNilA)) env S X (lenD a) := fun M hM => ⟨fun Q E ⟨l, hl, q⟩ => by
  have e : dCallB gLen (dConsA fa dNilA) env M = .ok (.int (l.length : Nat)) M := by
    unfold dCallB dConsA
    rw [h M hM]
    show liftM (gLen [a.d] M) = _
    rcases hl with hl | hl <;> rw [hl]
    · rfl
    · rw [gLen_as (l := l) rfl]; rfl
  rw [e]
  exact ⟨_, q, rfl, hM⟩⟩
theorem iterD_v {fe : DE} {a : Da} (h : PV fe env S (en a)) : IX (dIter fe) env S X (itemsD a) (en (α := Da)) := fun M hM => ⟨fun Q E ⟨l, hl, q⟩ => by
  have e : dIter fe env M = .ok (l.map en) M := by
    unfold dIter
    rw [h M hM]
    show Out.bind (.ok a.d M) _ = _
    rcases hl with hl | hl <;> rw [hl] <;> rfl
  rw [e]
  exact ⟨l, q, rfl, hM⟩⟩
/-- a < b <= c of promised values -/
theorem chain_xx {g g' : G2} {fa fb fc : DE} {p q r : Pr Int} {c1 c2 : Int → Int → Bool} (ha : PX fa env S X p) (hb : PX fb env S X q) (hc : PX fc env S X r) (h1 : ∀ x y M, g (.int x) (.int y) M = some (.bl (c1 x y), M)) (h2 : ∀ x y M, g' (.int x) (.int y) M = some (.bl (c2 x y), M)) :
    PX (dChain g g' fa fb fc) env S X (p.bind fun x => q.bind fun y => if c1 x y then r.bind fun z => Pr.ok (c2 y z) else Pr.ok false) := fun M hM => by
  unfold dChain
  refine bd_e ha hM fun x M1 s1 => ?_
  refine bd_e hb s1 fun y M2 s2 => ?_
  show Sat ((liftM (g (.int x) (.int y) M2)).bind _) _ _ _
  rw [h1]
  show Sat (match (D.bl (c1 x y)) with
    | .bl true => (fc env M2).bind fun w M4 => liftM (g' (.int y) w M4)
    | .bl false => .ok (.bl false) M2
    | _ => .bad) _ _ _
  cases c1 x y with
  | true =>
    refine bd_e (k := fun z => Pr.ok (c2 y z)) hc s2 fun z M3 s3 => ?_
    show Sat (liftM (g' (.int y) (.int z) M3)) _ _ _
    rw [h2]
    exact .ok ⟨rfl, s3⟩
  | false => exact .ok ⟨rfl, s2⟩
end
end Ip
end
section
set_option Elab.async false
set_option linter.all false
set_option maxRecDepth 100000
set_option maxHeartbeats 1000000
set_option autoImplicit false
namespace Ip
open PySem L2
section
variable {α β γ δ ε σ ρ : Type} {X : Sto → Prop} {env : En} {S : Sto → Prop} {M : Sto}
def seqM (x : D) (M : Sto) : Option (List D) := match x with
  | .tup l => some l
  | x => asL x M
theorem celL_some {c : Option Cell} {l : List D} (h : celL c = some l) : c = some (.lst l) := by
  cases c with
  | none => cases h
  | some c => cases c <;> first | (cases h; rfl) | cases h
theorem seqM_cases {x : D} {l : List D} (h : seqM x M = some l) : x = .lst l ∨ x = .tup l ∨ ∃ n, x = .ref n ∧ M[n]? = some (.lst l) := by
  cases x <;> first | (cases h; done) | skip
  · cases h; exact .inr (.inl rfl)
  · cases h; exact .inl rfl
  · rename_i n
    exact .inr (.inr ⟨n, rfl, celL_some h⟩)
theorem forS_src {t : DG} {fb : DS} {src : Src} {l : List β} {enc : β → D} {body : β → σ → Pr σ} {I : σ → En → Sto → Prop} (hI : ∀ s env M, I s env M → ∀ i : Nat, src.at_ i M = some ((l[i]?).map enc)) (hb : ∀ x s env M, I s env M → ∃ env1, t (enc x) env = some env1 ∧ Sat (fb env1 M) (body x s) (LpR I) X) :
    ∀ (f i : Nat) (s : σ) (env : En) (M : Sto), l.length < f + i → i ≤ l.length → I s env M → Sat (forS t fb src f i env M) (Pr.forM (l.drop i) s body) (NxR I) X
  | 0, i, s, env, M, h, hi, _ => by omega
  | f + 1, i, s, env, M, h, hi, hs => by
    have hc := hI s env M hs
    by_cases hl : i < l.length
    · rw [List.drop_eq_getElem_cons hl]
      obtain ⟨env1, e1, hb1⟩ := hb l[i] s env M hs
      unfold forS
      rw [show src.at_ i M = some (some (enc l[i])) by rw [hc i, List.getElem?_eq_getElem hl]; rfl]
      simp only [e1]
      refine hb1.bind fun s' fl M1 ⟨env2, z, i2⟩ => ?_
      rcases z with z | z
      · rw [z]; exact forS_src hI hb f (i + 1) s' env2 M1 (by omega) (by omega) i2
      · rw [z]; exact forS_src hI hb f (i + 1) s' env2 M1 (by omega) (by omega) i2
    · have e : i = l.length := by omega
      subst e
      rw [List.drop_length]
      unfold forS
      rw [show src.at_ l.length M = some none by rw [hc]; simp]
      exact .ok ⟨env, rfl, hs⟩
theorem at_lst (l : List β) (enc : β → D) (i : Nat) : (Src.items (l.map enc)).at_ i M = some ((l[i]?).map enc) := by
  show some ((l.map enc)[i]?) = _
  rw [List.getElem?_map]
theorem enumI_get : ∀ (l : List β) (k i : Nat), (enumI k l)[i]? = (l[i]?).map fun x => (((k + i : Nat) : Int), x)
  | [], k, i => by simp [enumI]
  | x :: l, k, 0 => by simp [enumI]
  | x :: l, k, i + 1 => by
    simp only [enumI, List.getElem?_cons_succ]
    rw [enumI_get l (k + 1) i, show k + 1 + i = k + (i + 1) by omega]
/-- what a walk over such a value walks -/
theorem iter_H {k : Nat} {x : D} {l : List β} {enc : β → D} {c : Src → Sto → Out ε} (hk : env[k]? = some (some x)) (hx : seqM x M = some (l.map enc)) :
    ∃ src, (dIter2 (dVar k) env M).bind c = c src M ∧ ∀ M' : Sto, seqM x M' = some (l.map enc) → ∀ i : Nat, src.at_ i M' = some ((l[i]?).map enc) := by
  have ev : dVar k env M = .ok x M := by unfold dVar; rw [hk]
  unfold dIter2
  rw [ev]
  rcases seqM_cases hx with rfl | rfl | ⟨n, rfl, hn⟩
  · exact ⟨.items (l.map enc), rfl, fun M' _ i => at_lst l enc i⟩
  · exact ⟨.items (l.map enc), rfl, fun M' _ i => at_lst l enc i⟩
  · refine ⟨.cell n, ?_, fun M' h i => ?_⟩
    · show Out.bind (match (celL M[n]?).map (fun _ => Src.cell n) with
        | some s => Out.ok s M
        | none => .bad) c = _
      rw [hn]
      rfl
    · show (celL M'[n]?).map (fun k => k[i]?) = _
      rw [celL_some (show celL M'[n]? = some (l.map enc) from h)]
      show some ((l.map enc)[i]?) = _
      rw [List.getElem?_map]
theorem enum_H [Enc β] {k : Nat} {x : D} {l : List β} {c : Src → Sto → Out ε} (hk : env[k]? = some (some x)) (hx : seqM x M = some (l.map en)) :
    ∃ src, (dEnum2 (dVar k) env M).bind c = c src M ∧ ∀ M' : Sto, seqM x M' = some (l.map en) → ∀ i : Nat, src.at_ i M' = some (((enumI 0 l)[i]?).map (en (α := Int × β))) := by
  have ev : dVar k env M = .ok x M := by unfold dVar; rw [hk]
  unfold dEnum2
  rw [ev]
  have hl : ∀ i : Nat, (Src.items (enumD 0 (l.map en))).at_ i M = some (((enumI 0 l)[i]?).map (en (α := Int × β))) := fun i => by
    rw [enumD_map]
    exact at_lst (enumI 0 l) (en (α := Int × β)) i
  rcases seqM_cases hx with rfl | rfl | ⟨n, rfl, hn⟩
  · exact ⟨.items (enumD 0 (l.map en)), rfl, fun M' _ i => hl i⟩
  · exact ⟨.items (enumD 0 (l.map en)), rfl, fun M' _ i => hl i⟩
  · refine ⟨.ecell n, ?_, fun M' h i => ?_⟩
    · show Out.bind (match (celL M[n]?).map (fun _ => Src.ecell n) with
        | some s => Out.ok s M
        | none => .bad) c = _
      rw [hn]
      rfl
    · show (celL M'[n]?).map (fun k => (k[i]?).map fun d => D.tup [.int (i : Nat), d]) = _
      rw [celL_some (show celL M'[n]? = some (l.map en) from h)]
      show some (((l.map en)[i]?).map fun d => D.tup [.int (i : Nat), d]) = _
      rw [List.getElem?_map, enumI_get]
      cases l[i]? with
      | none => rfl
      | some y => show some (some (D.tup [.int (i : Nat), en y])) = some (some (D.tup [.int ((0 + i : Nat) : Int), en y])); rw [Nat.zero_add]
theorem forHe_nx [Enc β] {t : DG} {k : Nat} {x : D} {fb : DS} {l : List β} {s : σ} {body : Int × β → σ → Pr σ} {I : σ → En → Sto → Prop} (hk : env[k]? = some (some x)) (hI : ∀ s env M, I s env M → seqM x M = some (l.map en)) (h0 : I s env M)
    (hb : ∀ x s env M, I s env M → ∃ env1, t (en x) env = some env1 ∧ Sat (fb env1 M) (body x s) (LpR I) X) : Sat (dForS t (dEnum2 (dVar k)) fb env M) (((lim l).bind fun l => Pr.ok (enumI 0 l)).bind fun l => Pr.forM l s body) (NxR I) X := by
  refine Sat.need (p := Pr.forM (enumI 0 l) s body) fun hl => ?_
  unfold dForS
  obtain ⟨src, e, hat⟩ := enum_H (c := fun src M1 => forS t fb src 20000000 0 env M1) hk (hI s env M h0)
  rw [e]
  have := forS_src (l := enumI 0 l) (fun s env M h => hat M (hI s env M h)) hb 20000000 0 s env M (by rw [enumI_len]; omega) (Nat.zero_le _) h0
  rw [List.drop_zero] at this
  exact this
/-- len(x), x[i] -/
def HV (f : DE) (env : En) (S : Sto → Prop) (l : List D) : Prop := ∀ M, S M → ∃ x, f env M = .ok x M ∧ seqM x M = some l
theorem hv_x {k : Nat} {x : D} {l : List D} (hk : env[k]? = some (some x)) (hS : ∀ M, S M → seqM x M = some l) : HV (dVar k) env S l := fun M hM => ⟨x, by unfold dVar; rw [hk], hS M hM⟩
theorem len_H {fa : DE} {l : List D} (h : HV fa env S l) : PV (dCallB gLen (dConsA fa dNilA)) env S (.int (l.length : Nat)) := fun M hM => by
  obtain ⟨x, e, hx⟩ := h M hM
  unfold dCallB dConsA
  rw [e]
  show liftM (gLen [x] M) = _
  rcases seqM_cases hx with rfl | rfl | ⟨n, rfl, hn⟩
  · rw [gLen_as (l := l) rfl]; rfl
  · rfl
  · rw [gLen_as (l := l) (by show celL M[n]? = _; rw [hn]; rfl)]; rfl
theorem ix_H [Enc α] {fa fb : DE} {l : List α} {i : Int} (h : HV fa env S (l.map en)) (h' : PV fb env S (.int i)) : PX (dBin gIx fa fb) env S X (idx l i) := fun M hM => by
  refine ⟨fun Q E ⟨a, ha, q⟩ => ?_⟩
  obtain ⟨x, e, hx⟩ := h M hM
  have e2 : dBin gIx fa fb env M = .ok (en a) M := by
    unfold dBin
    rw [e]
    show (fb env M).bind _ = _
    rw [h' M hM]
    show liftM (gIx x (.int i) M) = _
    rcases seqM_cases hx with rfl | rfl | ⟨n, rfl, hn⟩
    · rw [gIx_as (l := l.map en) rfl, atI_map, ha]; rfl
    · show liftM ((atI (l.map en) i).map (·, M)) = _
      rw [atI_map, ha]; rfl
    · rw [gIx_as (l := l.map en) (by show celL M[n]? = _; rw [hn]; rfl), atI_map, ha]; rfl
  rw [e2]
  exact ⟨a, q, rfl, hM⟩
/-- a def of such a value -/
def SH (x : D) (l : List D) (M0 : Sto) : Sto → Prop := fun M => M = M0 ∧ PureS M0 ∧ seqM x M0 = some l
instance (x : D) (l : List D) (M0 : Sto) : PuS (SH x l M0) := ⟨fun M h => by rw [h.1]; exact h.2.1⟩
theorem SH.sq {x : D} {l : List D} {M0 : Sto} (h : SH x l M0 M) : seqM x M = some l := by rw [h.1]; exact h.2.2
theorem len_h [Enc α] {fa : DE} {l : List α} (h : HV fa env S (l.map en)) : PV (dCallB gLen (dConsA fa dNilA)) env S (en ((l.length : Nat) : Int)) := pv_eq (by show D.int _ = D.int _; simp) (len_H h)
def FH [Enc β] [Enc α] (F : DF) (ds : D → List D) (l : List β) (p : Pr α) : Prop := ∀ x M, PureS M → seqM x M = some (l.map en) → Sat (F (ds x) M) p (fun a d M' => d = en a ∧ M' = M) NX
def FHx [Enc β] [Enc α] (F : DF) (ds : D → List D) (l : List β) (p : Pr α) : Prop := ∀ x M, PureS M → seqM x M = some (l.map en) → Sat (F (ds x) M) p (fun a d M' => d = en a ∧ M' = M) (fun M' => M' = M)
theorem FH.fp [Enc β] [Enc α] {F : DF} {ds : D → List D} {l : List β} {p : Pr α} (h : FH F ds l p) : FP F (ds (en l)) p := fun M hM => h (en l) M hM rfl
theorem FHx.fp [Enc β] [Enc α] {F : DF} {ds : D → List D} {l : List β} {p : Pr α} (h : FHx F ds l p) : FPx F (ds (en l)) p := fun M hM => h (en l) M hM rfl
theorem run_h [Enc β] [Enc α] {n m : Nat} {B : DS} {ds : D → List D} {l : List β} {p : Pr α} {env0 : D → En} (hl : ∀ x, (ds x).length = m) (he : ∀ x, (ds x).map some ++ List.replicate (n - m) none = env0 x)
    (h : ∀ x M0 M, SH x (l.map en) M0 M → Sat (B (env0 x) M) p (fun a fl M' => fl = .rt (en a) ∧ SH x (l.map en) M0 M') NX) : FH (runF n m B) ds l p := fun x M hM hx => by
  unfold runF
  rw [if_pos (hl x), he]
  refine ⟨fun Q E z => ?_⟩
  refine post_mk_bind (((h x M M ⟨rfl, hM, hx⟩).run Q E z).imp (fun fl M1 ⟨a, q, e, s⟩ => ?_) (fun _ _ _ z => z))
  rw [e]
  exact ⟨a, q, rfl, s.1⟩
theorem run_hN [Enc β] {n m : Nat} {B : DS} {ds : D → List D} {l : List β} {p : Pr Unit} {env0 : D → En} (hl : ∀ x, (ds x).length = m) (he : ∀ x, (ds x).map some ++ List.replicate (n - m) none = env0 x)
    (h : ∀ x M0 M, SH x (l.map en) M0 M → Sat (B (env0 x) M) p (fun _ fl M' => ((∃ e, fl = .nx e) ∨ fl = .rt .non) ∧ SH x (l.map en) M0 M') NX) : FH (runF n m B) ds l p := fun x M hM hx => by
  unfold runF
  rw [if_pos (hl x), he]
  refine ⟨fun Q E z => ?_⟩
  refine post_mk_bind (((h x M M ⟨rfl, hM, hx⟩).run Q E z).imp (fun fl M1 ⟨a, q, e, s⟩ => ?_) (fun _ _ _ z => z))
  rcases e with ⟨e, rfl⟩ | rfl
  · exact ⟨a, q, rfl, s.1⟩
  · exact ⟨a, q, rfl, s.1⟩
theorem run_hx [Enc β] [Enc α] {n m : Nat} {B : DS} {ds : D → List D} {l : List β} {p : Pr α} {env0 : D → En} (hl : ∀ x, (ds x).length = m) (he : ∀ x, (ds x).map some ++ List.replicate (n - m) none = env0 x)
    (h : ∀ x M0 M, SH x (l.map en) M0 M → Sat (B (env0 x) M) p (fun a fl M' => fl = .rt (en a) ∧ SH x (l.map en) M0 M') (SH x (l.map en) M0)) : FHx (runF n m B) ds l p := fun x M hM hx => by
  unfold runF
  rw [if_pos (hl x), he]
  refine ⟨fun Q E z => ?_⟩
  refine post_mk_bind (((h x M M ⟨rfl, hM, hx⟩).run Q E z).imp (fun fl M1 ⟨a, q, e, s⟩ => ?_) (fun _ _ _ z => ⟨z.1, z.2.1⟩))
  rw [e]
  exact ⟨a, q, rfl, s.1⟩
theorem run_hNx [Enc β] {n m : Nat} {B : DS} {ds : D → List D} {l : List β} {p : Pr Unit} {env0 : D → En} (hl : ∀ x, (ds x).length = m) (he : ∀ x, (ds x).map some ++ List.replicate (n - m) none = env0 x)
    (h : ∀ x M0 M, SH x (l.map en) M0 M → Sat (B (env0 x) M) p (fun _ fl M' => ((∃ e, fl = .nx e) ∨ fl = .rt .non) ∧ SH x (l.map en) M0 M') (SH x (l.map en) M0)) : FHx (runF n m B) ds l p := fun x M hM hx => by
  unfold runF
  rw [if_pos (hl x), he]
  refine ⟨fun Q E z => ?_⟩
  refine post_mk_bind (((h x M M ⟨rfl, hM, hx⟩).run Q E z).imp (fun fl M1 ⟨a, q, e, s⟩ => ?_) (fun _ _ _ z => ⟨z.1, z.2.1⟩))
  rcases e with ⟨e, rfl⟩ | rfl
  · exact ⟨a, q, rfl, s.1⟩
  · exact ⟨a, q, rfl, s.1⟩
theorem callH [PuS S] [Enc β] [Enc α] {F : DF} {ds : D → List D} {l : List β} {p : Pr α} {x : D} (h : FH F ds l p) (hM : S M) (hq : seqM x M = some (l.map en)) : Sat (Ip.noex (F (ds x) M)) p (relE S) X :=
  ((h x M (PuS.pure M hM) hq).imp fun a d M' ⟨e1, e2⟩ => ⟨e1, by rw [e2]; exact hM⟩).noex
theorem callHx [PuS S] [Enc β] [Enc α] {F : DF} {ds : D → List D} {l : List β} {p : Pr α} {x : D} (h : FHx F ds l p) (hM : S M) (hq : seqM x M = some (l.map en)) : Sat (atE env (F (ds x) M)) p (relE S) S := by
  refine ⟨fun Q E z => ?_⟩
  have q := (h x M (PuS.pure M hM) hq).run Q E z
  cases hf : F (ds x) M with
  | ok d M1 =>
    rw [hf] at q
    obtain ⟨a, qa, e, eM⟩ := q
    subst eM
    exact ⟨a, qa, e, hM⟩
  | exc e v M1 =>
    rw [hf] at q
    obtain ⟨qe, eM⟩ := q
    subst eM
    exact ⟨qe, hM⟩
  | bad => rw [hf] at q; exact q.elim
theorem seq_c {N : Nat} {P : Sto → Prop} {cs : List (Nat × Cell)} {l : List D} {n : Nat} (j : Nat) (hj : cs[j]? = some (n, .lst l)) (hM : St N P cs M) : seqM (.ref n) M = some l := by
  show celL M[n]? = _
  rw [hM.get j hj]
  rfl
end
end Ip
end
section
set_option Elab.async false
set_option linter.all false
set_option maxRecDepth 100000
set_option maxHeartbeats 1000000
set_option autoImplicit false
namespace Ip
open PySem L2
section
variable {α β γ δ ε σ ρ : Type} {X : Sto → Prop} {env : En} {S : Sto → Prop} {M : Sto} {N : Nat} {P : Sto → Prop} {cs : List (Nat × Cell)} {G : Sto}
def FBC [Enc α] (F : DF) (ds : List D) (p : Pr (List α)) : Prop := ∀ b G, BagOk b → PureS G → Sat (F (.ref 0 :: ds) (.lst b :: G)) p (fun a d M' => ∃ b', BagOk b' ∧ d = .ref (G.length + 1) ∧ M' = .lst b' :: (G ++ [.lst (a.map en)])) NX
theorem dLcC_eq {vs : List Nat} {t : DG} {fi : DA} {ft : DT} {fe : DE} {M : Sto} : dLcC vs t fi ft fe env M = (dLc vs t fi ft fe env M).bind fun d M2 => match d with
    | .lst l => .ok (.ref M2.length) (M2 ++ [.lst l])
    | _ => .bad := by
  unfold dLcC dLc
  rw [bind_assoc]
  congr 1
  funext items M1
  rw [bind_assoc]
  rfl
theorem run_bC [Enc α] {n m : Nat} {vs : List Nat} {t : DG} {fi : DA} {ft : DT} {fe : DE} {ds : List D} {p : Pr (List α)} (h : FB (runF n m (dRet (dLc vs t fi ft fe))) ds p) : FBC (runF n m (dRet (dLcC vs t fi ft fe))) ds p := fun b G hb hG => by
  refine ⟨fun Q E z => ?_⟩
  have q := (h b G hb hG).run Q E z
  unfold runF at q ⊢
  split at q
  · rename_i hl
    rw [if_pos hl]
    unfold dRet at q ⊢
    rw [dLcC_eq]
    generalize dLc vs t fi ft fe _ _ = o at q ⊢
    cases o with
    | ok d M1 =>
      obtain ⟨a, qa, e, b', hb', eM⟩ := q
      have e : d = en a := e
      subst e
      have eM : M1 = .lst b' :: G := eM
      subst eM
      exact ⟨a, qa, b', hb', by simp, by simp⟩
    | exc e v M1 => exact q
    | bad => exact q
  · exact q.elim
theorem callBC [Enc β] {F : DF} {ds : List D} {p : Pr (List β)} {c : D → Sto → Out ε} {k : List β → Pr γ} {rel' : γ → ε → Sto → Prop} (h : FBC F ds p) (hM : St (G.length + 1) (BagP G) cs M)
    (hk : ∀ l n M1, St (G.length + 1) (BagP G) (cs ++ [(n, .lst (l.map en))]) M1 → Sat (c (.ref n) M1) (k l) rel' X) : Sat ((Ip.noex (F (.ref 0 :: ds) M)).bind c) (p.bind k) rel' X := by
  obtain ⟨b, K, hb, rfl, hK, hs⟩ := hM.bag
  refine Sat.bind (((h b K hb hK)).noex) fun a d M' ⟨b', hb', e1, e2⟩ => ?_
  subst e1
  subst e2
  have h1 := hs b' hb'
  have := h1.new (c := .lst (a.map en)) (lst_closed a)
  exact hk a _ _ this
/-- xs.insert(i, y) -/
theorem seq_insx [Enc β] {i : Nat} (j : Nat) {fe fe2 : DE} {g : DS} {n : Nat} {l : List β} {p : Pr Int} {q : Pr β} {k : Int → β → Pr α} {rel : α → Fl → Sto → Prop} (hi : env[i]? = some (some (.ref n))) (hj : cs[j]? = some (n, .lst (l.map en))) (h : PX fe env (St N P cs) X p) (h2 : PX fe2 env (St N P cs) X q) (hM : St N P cs M)
    (hk : ∀ x y M1, St N P (cs.set j (n, .lst ((l.take x.toNat ++ [y] ++ l.drop x.toNat).map en))) M1 → Sat (g env M1) (k x y) rel X) :
    Sat (dSeq (dDrop (dLm gIns (dVar i) (dConsA fe (dConsA fe2 dNilA)))) g env M) (p.bind fun x => q.bind fun y => Pr.need ((0 ≤ x ∧ x < 16777216) ∧ l.length < 16777216) (k x y)) rel X := by
  have hc := hM.get j hj
  have e : dLm gIns (dVar i) (dConsA fe (dConsA fe2 dNilA)) env M = (dConsA fe (dConsA fe2 dNilA) env M).bind fun as M2 => liftM (gIns (.ref n) as M2) := by
    unfold dLm dVar
    simp only [hi]
    show (match asL (.ref n) M with
      | some _ => (dConsA fe (dConsA fe2 dNilA) env M).bind fun as M2 => liftM (gIns (.ref n) as M2)
      | none => Out.bad) = _
    simp only [asL, hc]
  unfold dSeq dDrop
  rw [e, bind_assoc, bind_assoc]
  refine arg_e h hM fun x M1 h1 => arg_e h2 h1 fun y M2 h3 => arg_nil (.need fun hl => ?_)
  have hc1 := h3.get j hj
  have e2 : gIns (.ref n) [en x, en y] M2 = some (.non, M2.set n (.lst ((l.take x.toNat ++ [y] ++ l.drop x.toNat).map en))) := by
    show (if 0 ≤ x ∧ x < 16777216 then (setL (.ref n) M2 fun l => if l.length < 16777216 then some (l.take x.toNat ++ [en y] ++ l.drop x.toNat) else none).map (D.non, ·) else none) = _
    rw [if_pos hl.1]
    simp only [setL, hc1]
    rw [if_pos (by simpa using hl.2)]
    simp
  show Sat ((liftM (gIns (.ref n) [en x, en y] M2)).bind _) _ _ _
  rw [e2]
  exact hk x y _ (h3.set j hj (lst_closed _))
theorem callBC_v [Enc β] {F : DF} {fa : DA} {ds : List D} {p : Pr (List β)} {c : D → Sto → Out ε} {k : List β → Pr γ} {rel' : γ → ε → Sto → Prop} (ha : AV fa env (St (G.length + 1) (BagP G) cs) (.ref 0 :: ds)) (h : FBC F ds p) (hM : St (G.length + 1) (BagP G) cs M)
    (hk : ∀ l n M1, St (G.length + 1) (BagP G) (cs ++ [(n, .lst (l.map en))]) M1 → Sat (c (.ref n) M1) (k l) rel' X) : Sat ((dCall F fa env M).bind c) (p.bind k) rel' X := by
  unfold dCall
  rw [bind_assoc, ha M hM]
  exact callBC h hM hk
/-- a new cell that holds one promised value -/
theorem seq_new1 [Enc β] {i : Nat} {fe : DE} {g : DS} {p : Pr β} {k : β → Pr α} {env1 : Nat → En} {rel : α → Fl → Sto → Prop} (he : ∀ n, env.set i (some (.ref n)) = env1 n) (h : PX fe env (St N P cs) X p) (hM : St N P cs M)
    (hk : ∀ x n M1, St N P (cs ++ [(n, .lst ([x].map en))]) M1 → Sat (g (env1 n) M1) (k x) rel X) : Sat (dSeq (dSet i (dLstC (dConsA fe dNilA))) g env M) (p.bind k) rel X := by
  have e : dSeq (dSet i (dLstC (dConsA fe dNilA))) g env M = (dConsA fe dNilA env M).bind fun ds M1 => (if ds.length ≤ 16777216 then Out.ok (D.ref M1.length) (M1 ++ [Cell.lst ds]) else Out.bad).bind fun d M2 => g (env.set i (some d)) M2 := by
    unfold dSeq dSet dLstC
    rw [bind_assoc, bind_assoc]
    congr 1
  rw [e]
  refine arg_e h hM fun x M1 h1 => arg_nil ?_
  show Sat (g (env.set i (some (.ref M1.length))) (M1 ++ [.lst [en x]])) _ _ _
  rw [he]
  exact hk x _ _ (h1.new (lst_closed [x]))
/-- a list in a cell, compared -/
theorem eq_cx [Enc β] [Enc γ] {k : Nat} {fb : DE} {n : Nat} {l : List β} {q : Pr γ} (b : Bool) (j : Nat) (hk : env[k]? = some (some (.ref n))) (hj : cs[j]? = some (n, .lst (l.map en))) (hb : PX fb env (St N P cs) X q) :
    PX (dBin (gEq b) (dVar k) fb) env (St N P cs) X (q.bind fun y => op2 (α := List β) (β := γ) (γ := Bool) (gEq b) l y) := fun M hM => by
  unfold dBin
  rw [show dVar k env M = .ok (.ref n) M by unfold dVar; rw [hk]]
  show Sat ((fb env M).bind _) _ _ _
  refine bd_e hb hM fun y M1 h1 => ⟨fun Q E ⟨c, hc, z⟩ => ?_⟩
  have e : gEq b (.ref n) (en y) M1 = some (en c, M1) := by
    have := hc M1
    show ((eqD (.ref n) (en y) M1).map fun c => (D.bl (if b then !c else c), M1)) = _
    rw [eqD_ref (h1.get j hj)]
    exact this
  show (liftM (gEq b (.ref n) (en y) M1)).post _ _
  rw [e]
  exact ⟨c, z, rfl, h1⟩
def tup1 {α : Type} [Enc α] (a : α) : Da := ⟨.tup [en a], fun k => by simp [closed, closedAll, Enc.cls]⟩
/-- x = a cell + a list, a new cell -/
theorem seq_addC [Enc β] {i k : Nat} (j : Nat) {fb : DE} {g : DS} {n : Nat} {l m : List β} {p : Pr α} {env1 : Nat → En} {rel : α → Fl → Sto → Prop} (hk : env[k]? = some (some (.ref n))) (hj : cs[j]? = some (n, .lst (l.map en))) (h : PV fb env (St N P cs) (en m)) (he : ∀ n', env.set i (some (.ref n')) = env1 n') (hM : St N P cs M)
    (hn : ∀ n' M1, St N P (cs ++ [(n', .lst ((l ++ m).map en))]) M1 → Sat (g (env1 n') M1) p rel X) : Sat (dSeq (dSet i (dBin gCatC (dVar k) fb)) g env M) (Pr.need (l.length + m.length ≤ 16777216) p) rel X := .need fun hl => by
  have e : dBin gCatC (dVar k) fb env M = .ok (.ref M.length) (M ++ [.lst ((l ++ m).map en)]) := by
    unfold dBin
    rw [show dVar k env M = .ok (.ref n) M by unfold dVar; rw [hk]]
    show (fb env M).bind _ = _
    rw [h M hM]
    show liftM (gCatC (.ref n) (.lst (m.map en)) M) = _
    unfold gCatC
    simp only [asL, hM.get j hj]
    rw [if_pos (by simpa using hl), List.map_append]
    rfl
  unfold dSeq dSet
  rw [e]
  show Sat (g (env.set i (some (.ref M.length))) _) _ _ _
  rw [he]
  exact hn _ _ (hM.new (lst_closed _))
theorem callHc [Enc β] [Enc α] {F : DF} {ds : D → List D} {l : List β} {p : Pr α} {x : D} (h : FH F ds l p) (hM : St N P cs M) (hq : seqM x M = some (l.map en)) : Sat (Ip.noex (F (ds x) M)) p (relE (St N P cs)) X := callH (S := St N P cs) h hM hq
theorem callHcx [Enc β] [Enc α] {F : DF} {ds : D → List D} {l : List β} {p : Pr α} {x : D} (h : FHx F ds l p) (hM : St N P cs M) (hq : seqM x M = some (l.map en)) : Sat (atE env (F (ds x) M)) p (relE (St N P cs)) (St N P cs) := callHx (S := St N P cs) h hM hq
end
end Ip
end
section
set_option Elab.async false
set_option linter.all false
set_option maxRecDepth 100000
set_option maxHeartbeats 4000000
set_option autoImplicit false
namespace Ip
open PySem L2
end Ip
end
section
set_option Elab.async false
set_option linter.all false
namespace Ip
open PySem L2
end Ip
end
section
set_option Elab.async false
set_option linter.all false
set_option maxRecDepth 100000
set_option maxHeartbeats 4000000
namespace Ip
open PySem L2
end Ip
end
section
set_option Elab.async false
set_option linter.all false
set_option maxRecDepth 100000
set_option maxHeartbeats 4000000
namespace Ip
open PySem L2
theorem map_enda {α : Type} [Enc α] (l : List α) : (l.map da).map en = l.map (en (α := α)) := by
  rw [List.map_map]; rfl
def castL {α : Type} [Enc α] (l : List Da) : Pr (List α) := fun Q _ => ∃ cs : List α, l = cs.map da ∧ Q cs
theorem castL_i {α β ε : Type} [Enc α] {l : List Da} {o : Out ε} {k : List α → Pr β} {rel : β → ε → Sto → Prop} {X : Sto → Prop} (h : ∀ cs : List α, l = cs.map da → Sat o (k cs) rel X) : Sat o ((castL l).bind k) rel X := ⟨fun Q E ⟨cs, e, q⟩ => (h cs e).run Q E q⟩
theorem sq_cast {α : Type} [Enc α] {x : D} {M : Sto} {l : List Da} {cs : List α} (e : l = cs.map da) (h : seqM x M = some (l.map en)) : seqM x M = some (cs.map en) := by
  rw [h, e, map_enda]
end Ip
end
section
set_option Elab.async false
set_option linter.all false
set_option maxRecDepth 100000
set_option maxHeartbeats 4000000
namespace Ip
open PySem L2
theorem slS_x {S X : Sto → Prop} {env : En} {fe : DE} {fl fh : DO} {a : Str} {lo hi : Option Int} (h : PV fe env S (en a)) (h1 : OV fl env S lo) (h2 : OV fh env S hi) : PX (dSlS fe fl fh) env S X (Pr.need (a.length ≤ 16777216) (Pr.ok (cutS a lo hi))) := fun M hM => by
  refine ⟨fun Q E ⟨hl, q⟩ => ?_⟩
  have e : dSlS fe fl fh env M = .ok (.str (cutS a lo hi)) M := by
    unfold dSlS
    rw [h M hM]
    show ((fl env M).bind fun lo M2 => (fh env M2).bind fun hi M3 => liftM (gSlS (.str a) lo hi M3)) = _
    rw [h1 M hM]
    show ((fh env M).bind fun hi M3 => liftM (gSlS (.str a) lo hi M3)) = _
    rw [h2 M hM]
    show liftM (gSlS (.str a) lo hi M) = _
    unfold gSlS
    simp only [hl, if_true]
    rfl
  rw [e]
  exact ⟨_, q, rfl, hM⟩
end Ip
end
section
set_option Elab.async false
set_option linter.all false
set_option maxRecDepth 100000
set_option maxHeartbeats 4000000
namespace Ip
open PySem L2
def strI (i : Int) : Str := Str.ofString (toString i)
theorem gStrI_v {i : Int} (h : i.natAbs.log2 < 1920) (M : Sto) : gStrI [en i] M = some (en (strI i), M) := if_pos h
section
variable {α β γ δ ε σ ρ : Type} {X : Sto → Prop} {env : En} {S : Sto → Prop} {M : Sto}
theorem jx_nil {acc : Str} : PX (dJs [] acc) env S X (Pr.ok acc) := fun M hM => .ok ⟨rfl, hM⟩
theorem jx_c {fc : DE} {fs : List DE} {acc s : Str} {q : Pr Str} (hc : PV fc env S (en s)) (h : PX (dJs fs (acc ++ s)) env S X q) : PX (dJs (fc :: fs) acc) env S X (Pr.need ((acc ++ s).length ≤ 16777216) q) := fun M hM => .need fun hl => by
  unfold dJs
  refine bd_p hc hM ?_
  show Sat (if (acc ++ s).length ≤ 16777216 then dJs fs (acc ++ s) env M else .bad) _ _ _
  rw [if_pos hl]
  exact h M hM
theorem jx_i {fa : DE} {fs : List DE} {acc : Str} {p : Pr Int} {q : Int → Pr Str} (ha : PX fa env S X p) (h : ∀ i, PX (dJs fs (acc ++ strI i)) env S X (q i)) : PX (dJs (dFmt fa :: fs) acc) env S X (p.bind fun i => Pr.need (i.natAbs.log2 < 1920 ∧ (acc ++ strI i).length ≤ 16777216) (q i)) := fun M hM => by
  unfold dJs dFmt
  refine ⟨fun Q E z => ?_⟩
  refine post_mk_bind (post_mk_bind (((ha M hM).run _ E z).imp (fun d M1 ⟨i, ⟨⟨h1, h2⟩, q⟩, e, s⟩ => ?_) fun _ _ _ z => z))
  rw [e]
  show Out.post (if i.natAbs.log2 < 1920 then Out.ok (D.str (strI i)) M1 else Out.bad) _ _
  rw [if_pos h1]
  show Out.post (if (acc ++ strI i).length ≤ 16777216 then dJs fs (acc ++ strI i) env M1 else .bad) _ _
  rw [if_pos h2]
  exact (h i M1 s).run Q E q
theorem jx_s {fa : DE} {fs : List DE} {acc : Str} {p : Pr Str} {q : Str → Pr Str} (ha : PX fa env S X p) (h : ∀ i, PX (dJs fs (acc ++ i)) env S X (q i)) : PX (dJs (dFmt fa :: fs) acc) env S X (p.bind fun i => Pr.need (i.length ≤ 16777216 ∧ (acc ++ i).length ≤ 16777216) (q i)) := fun M hM => by
  unfold dJs dFmt
  refine ⟨fun Q E z => ?_⟩
  refine post_mk_bind (post_mk_bind (((ha M hM).run _ E z).imp (fun d M1 ⟨i, ⟨⟨h1, h2⟩, q⟩, e, s⟩ => ?_) fun _ _ _ z => z))
  rw [e]
  show Out.post (if i.length ≤ 16777216 then Out.ok (D.str i) M1 else Out.bad) _ _
  rw [if_pos h1]
  show Out.post (if (acc ++ i).length ≤ 16777216 then dJs fs (acc ++ i) env M1 else .bad) _ _
  rw [if_pos h2]
  exact (h i M1 s).run Q E q
end
end Ip
namespace Ip
open PySem L2
section
variable {α β γ δ ε σ ρ : Type} {X : Sto → Prop} {env : En} {S : Sto → Prop} {M : Sto}
theorem seqM_q [Enc β] (q : Sq β) (M : Sto) : seqM (en q) M = some (q.l.map en) := by
  obtain ⟨t, l⟩ := q
  cases t <;> rfl
theorem FH.fq [Enc β] [Enc α] {F : DF} {ds : D → List D} {q : Sq β} {p : Pr α} (h : FH F ds q.l p) : FP F (ds (en q)) p := fun M hM => h (en q) M hM (seqM_q q M)
theorem FHx.fq [Enc β] [Enc α] {F : DF} {ds : D → List D} {q : Sq β} {p : Pr α} (h : FHx F ds q.l p) : FPx F (ds (en q)) p := fun M hM => h (en q) M hM (seqM_q q M)
end
end Ip
end
section
set_option Elab.async false
set_option linter.all false
set_option maxRecDepth 100000
set_option maxHeartbeats 4000000
namespace Ip
open PySem L2
end Ip
end
section
set_option Elab.async false
set_option linter.all false
set_option maxRecDepth 100000
set_option maxHeartbeats 4000000
namespace Ip
open PySem L2
end Ip
end
section
set_option Elab.async false
set_option linter.all false
set_option maxRecDepth 100000
set_option maxHeartbeats 4000000
namespace Ip
open PySem L2
section
variable {α β γ δ ε σ ρ : Type} {X S : Sto → Prop} {env : En} {M : Sto} {N : Nat} {P : Sto → Prop} {cs : List (Nat × Cell)} {rel : α → Fl → Sto → Prop}
theorem lcS_x [Enc γ] {t : DG} {ft : DT} {fe : DE} {src : Src} {l : List β} {enc : β → D} {c : β → Pr Bool} {g : β → Pr γ} {env0 : En} (hI : ∀ M, S M → ∀ i : Nat, src.at_ i M = some ((l[i]?).map enc))
    (hb : ∀ x, ∃ env1, t (enc x) env0 = some env1 ∧ TX ft env1 S NX (c x) ∧ PX fe env1 S NX (g x)) :
    ∀ (f i : Nat) (acc : List D) (M : Sto), S M → i ≤ l.length → l.length - i < f → acc.length + (l.length - i) ≤ 16777216 → Sat (lcS t ft fe src f i acc env0 M) (Pr.lcM (l.drop i) c g) (fun ys ds M' => ds = acc ++ ys.map en ∧ S M') X
  | 0, i, acc, M, _, _, h, _ => by omega
  | f + 1, i, acc, M, hM, hi, hf, hl => by
    unfold lcS
    rw [hI M hM i]
    by_cases hlt : i < l.length
    · obtain ⟨env1, e, h1, h2⟩ := hb l[i]
      rw [List.getElem?_eq_getElem hlt, List.drop_eq_getElem_cons hlt]
      show Sat (match t (enc l[i]) env0 with
        | none => .bad
        | some env1 => (noex (ft env1 M)).bind fun b M1 => if b then (noex (fe env1 M1)).bind fun y M2 => if acc.length < 16777216 then lcS t ft fe src f (i + 1) (acc ++ [y]) env0 M2 else .bad
          else lcS t ft fe src f (i + 1) acc env0 M1) _ _ X
      rw [e]
      refine ((h1 M hM).noex (X := X)).bind fun b d M1 ⟨e1, s1⟩ => ?_
      rw [e1]
      cases b with
      | false => exact lcS_x hI hb f (i + 1) acc M1 s1 (by omega) (by omega) (by omega)
      | true =>
        refine ((h2 M1 s1).noex (X := X)).bind fun y d M2 ⟨e2, s2⟩ => ?_
        rw [e2]
        show Sat (if acc.length < 16777216 then lcS t ft fe src f (i + 1) (acc ++ [en y]) env0 M2 else .bad) _ _ X
        rw [if_pos (by omega)]
        exact (lcS_x hI hb f (i + 1) (acc ++ [en y]) M2 s2 (by omega) (by omega) (by simp; omega)).map fun ys ds M3 ⟨e3, s3⟩ => ⟨by rw [e3]; simp, s3⟩
    · have : i = l.length := by omega
      subst this
      rw [List.getElem?_eq_none (Nat.le_refl _), List.drop_length]
      exact .ok ⟨by simp, hM⟩
theorem lcH_x [Enc γ] {vs : List Nat} {t : DG} {k : Nat} {x : D} {ft : DT} {fe : DE} {l : List β} {enc : β → D} {c : β → Pr Bool} {g : β → Pr γ} (hk : env[k]? = some (some x)) (hI : ∀ M, S M → seqM x M = some (l.map enc))
    (hb : ∀ x, ∃ env1, t (enc x) (wipeE env vs) = some env1 ∧ TX ft env1 S NX (c x) ∧ PX fe env1 S NX (g x)) :
    PX (dLc2 vs t (dIter2 (dVar k)) ft fe) env S X (Pr.need (l.length ≤ 16777216) (Pr.lcM l c g)) := fun M hM => .need fun hl => by
  unfold dLc2
  obtain ⟨src, e, hat⟩ := iter_H (c := fun src M1 => (lcS t ft fe src 20000000 0 [] (wipeE env vs) M1).bind fun l M2 => .ok (D.lst l) M2) hk (hI M hM)
  rw [e]
  refine Sat.bind (k := Pr.ok) (lcS_x (X := X) (l := l) (fun M h => hat M (hI M h)) hb 20000000 0 [] M hM (Nat.zero_le _) (by omega) (by simp; omega)) fun ys ds M2 ⟨e2, s2⟩ => ?_
  exact .ok ⟨by rw [e2]; rfl, s2⟩
end
end Ip
end
section
set_option Elab.async false
set_option linter.all false
set_option maxRecDepth 100000
set_option maxHeartbeats 1000000
set_option autoImplicit false
namespace Ip
open PySem L2
end Ip
end
section
set_option Elab.async false
set_option linter.all false
set_option maxRecDepth 100000
set_option maxHeartbeats 1000000
set_option autoImplicit false
namespace Ip
open PySem L2
end Ip
end
section
set_option Elab.async false
set_option linter.all false
set_option maxRecDepth 100000
set_option maxHeartbeats 1000000
set_option autoImplicit false
namespace Ip
open PySem L2
def Pr.pullB (n : Int) : Pr Int := fun Q _ => 0 < n ∧ n < 1000000000000000000 ∧ ∀ v, 0 ≤ v → v < n → Q v
section
variable {S X : Sto → Prop} {env : En} {α : Type} [Enc α]
theorem isdig_v {fe : DE} {a : Str} (h : PV fe env S (en a)) : PV (dM0 (fun a => .bl (Txt.isdigit a)) fe) env S (en (α := Bool) (Txt.isdigit a)) := fun M hM => by
  unfold dM0
  rw [h M hM]
  rfl
def splOk (a b : Str) : Prop := (b.length == 0) = false ∧ a.length + 2 ≤ 16777216
theorem gSplit_ok {a b : Str} (h : splOk a b) : gSplit a b = some (en (Txt.split a b)) := by
  unfold gSplit
  unfold splOk at h
  rw [if_pos h]
  rfl
theorem split_v {fo fe : DE} {a b : Str} (ho : PV fo env S (en a)) (he : PV fe env S (en b)) : PX (dM1 gSplit fo fe) env S X (Pr.need (splOk a b) (Pr.ok (Txt.split a b))) := fun M hM => .need fun hc => by
  have e : dM1 gSplit fo fe env M = .ok (en (Txt.split a b)) M := by
    unfold dM1
    rw [ho M hM]
    show ((fe env M).bind fun y M2 => _) = _
    rw [he M hM]
    show (match gSplit a b with
      | some d => Out.ok d M
      | none => .bad) = _
    rw [gSplit_ok hc]
  rw [e]
  exact .ok ⟨rfl, hM⟩
theorem split_x {fo fe : DE} {p : Pr Str} {b : Str} (ho : PX fo env S X p) (he : PV fe env S (en b)) : PX (dM1 gSplit fo fe) env S X (p.bind fun a => Pr.need (splOk a b) (Pr.ok (Txt.split a b))) := fun M hM => by
  unfold dM1
  refine bd_e ho hM fun a M1 h1 => .need fun hc => ?_
  show Sat ((fe env M1).bind fun y M2 => _) _ _ _
  rw [he M1 h1]
  show Sat (match gSplit a b with
    | some d => Out.ok d M1
    | none => .bad) _ _ _
  rw [gSplit_ok hc]
  exact .ok ⟨rfl, h1⟩
theorem strsD_map : ∀ l : List Str, strsD (l.map en) = some l
  | [] => rfl
  | s :: l => by
    show (strsD (l.map en)).map (s :: ·) = _
    rw [strsD_map l]
    rfl
def joiOk (a : Str) (l : List Str) : Prop := (l.map (·.length)).sum + l.length * a.length ≤ 16777216
theorem join_x {fo fe : DE} {a : Str} {p : Pr (List Str)} (ho : PV fo env S (en a)) (he : PX fe env S X p) : PX (dJoin fo fe) env S X (p.bind fun l => Pr.need (joiOk a l) (Pr.ok (Txt.join a l))) := fun M hM => by
  unfold dJoin
  rw [ho M hM]
  show Sat ((fe env M).bind fun y M2 => _) _ _ _
  refine bd_e he hM fun l M1 h1 => .need fun hc => ?_
  show Sat (match strsD (l.map en) with
    | some ys => if (ys.map (·.length)).sum + ys.length * a.length ≤ 16777216 then Out.ok (D.str (Txt.join a ys)) M1 else .bad
    | none => .bad) _ _ _
  rw [strsD_map]
  show Sat (if (l.map (·.length)).sum + l.length * a.length ≤ 16777216 then Out.ok (D.str (Txt.join a l)) M1 else .bad) _ _ _
  unfold joiOk at hc
  rw [if_pos hc]
  exact .ok ⟨rfl, h1⟩
def sgns (z : Str) : List Str := z.cps.toList.map sgn
theorem iterS_v {fe : DE} {z : Str} (h : PV fe env S (en z)) : IX (dIterS fe) env S X (Pr.ok (sgns z)) (en (α := Str)) := fun M hM => by
  unfold dIterS
  rw [h M hM]
  refine .ok ⟨?_, hM⟩
  unfold signsD sgns
  rw [List.map_map]
  rfl
theorem gLenS_v {z : Str} (h : z.length ≤ 16777216) (M : Sto) : gLenS [en z] M = some (en ((z.length : Nat) : Int), M) := by
  show (if z.length ≤ 16777216 then some (D.int (z.length : Nat), M) else none) = _
  rw [if_pos h]
  rfl
theorem gIntT_v {z : Str} {n : Int} (h : z.length ≤ 640) (e : PySem.intText? z = some n) (M : Sto) : gIntT [en z] M = some (en n, M) := by
  show (if z.length ≤ 640 then (PySem.intText? z).map fun n => (D.int n, M) else none) = _
  rw [if_pos h, e]
  rfl
theorem intT_end {z : Str} {M : Sto} (hM : S M) : Sat (liftM (gIntT [en z] M)) (Pr.need (z.length ≤ 640) (optP (PySem.intText? z))) (relE S) X := .need fun hl => by
  refine ⟨fun Q E h => ?_⟩
  cases e : PySem.intText? z with
  | none => rw [e] at h; exact h.elim
  | some n =>
    rw [e] at h
    rw [gIntT_v hl e]
    exact ⟨n, h, rfl, hM⟩
end
section
variable {S X : Sto → Prop} {env : En}
theorem slS_lo {fe fl : DE} {a : Str} {p : Pr Int} (h : PV fe env S (en a)) (h1 : PX fl env S X p) : PX (dSlS fe (dPart fl) dNoPart) env S X (p.bind fun i => Pr.need (a.length ≤ 16777216) (Pr.ok (cutS a (some i) none))) := fun M hM => by
  unfold dSlS
  rw [h M hM]
  show Sat ((dPart fl env M).bind fun lo M2 => (dNoPart env M2).bind fun hi M3 => liftM (gSlS (.str a) lo hi M3)) _ _ _
  have e : dPart fl env M = (fl env M).bind fun x M1 => (match x with
    | .int i => Out.ok (some i) M1
    | _ => .bad) := rfl
  rw [e, bind_assoc]
  refine bd_e h1 hM fun i M1 hM1 => .need fun hl => ?_
  show Sat (liftM (gSlS (.str a) (some i) none M1)) _ _ _
  unfold gSlS
  simp only [hl, if_true]
  exact .ok ⟨rfl, hM1⟩
def opL {α β γ : Type} [Enc α] [Enc β] [Enc γ] (g : GM) (a : α) (b : β) : Pr γ := fun Q _ => ∃ c : γ, (∀ M, (asL (en a) M).isSome = true ∧ g (en a) [en b] M = some (en c, M)) ∧ Q c
theorem lm_op {α β γ : Type} [Enc α] [Enc β] [Enc γ] {g : GM} {fo fa : DE} {a : α} {b : β} (ho : PV fo env S (en a)) (ha : PV fa env S (en b)) : PX (dLm g fo (dConsA fa dNilA)) env S X (opL g a b : Pr γ) := fun M hM => by
  refine ⟨fun Q E ⟨c, h, q⟩ => ?_⟩
  obtain ⟨h1, h2⟩ := h M
  have e : dLm g fo (dConsA fa dNilA) env M = .ok (en c) M := by
    unfold dLm dConsA
    rw [ho M hM]
    show (match asL (en a) M with
      | some _ => (((fa env M).bind fun x M1 => (dNilA env M1).bind fun xs M2 => Out.ok (x :: xs) M2).bind fun as M2 => liftM (g (en a) as M2))
      | none => .bad) = _
    obtain ⟨l, hl⟩ := Option.isSome_iff_exists.mp h1
    rw [hl]
    show (((fa env M).bind fun x M1 => (dNilA env M1).bind fun xs M2 => Out.ok (x :: xs) M2).bind fun as M2 => liftM (g (en a) as M2)) = _
    rw [ha M hM]
    show liftM (g (en a) [en b] M) = _
    rw [h2]
    rfl
  rw [e]
  exact ⟨c, q, rfl, hM⟩
/-- lines = a.split(b); rest = lines.pop(): behind both the list is a value -/
theorem seq_splitPop {α : Type} {rel : α → Fl → Sto → Prop} {i j : Nat} {fo fe : DE} {g : DS} {a b : Str} {k : Str → Pr α} {env1 : Str → En} {M0 M : Sto} (hij : i ≠ j) (hil : i < env.length) (ho : PV fo env (S0 M0) (en a)) (hf : PV fe env (S0 M0) (en b)) (hM : S0 M0 M)
    (he : ∀ (y : Str) (n : Nat) (M2 : Sto), (∀ s : Str, thaw n M2 (en s) = some (en s)) → thaw n M2 (.ref n) = some (en (Txt.split a b).dropLast) → thawE n M2 ((env.set i (some (.ref n))).set j (some (en y))) = env1 y)
    (hk : ∀ y, S0 M0 M → Sat (g (env1 y) M) (k y) rel X) : Sat (dThaw2 (dSet i (dSplitC fo fe)) (dSet j (dLm gPop (dVar i) dNilA)) g env M) (Pr.need (splOk a b) ((optP (Txt.split a b)[(Txt.split a b).length - 1]?).bind k)) rel X := .need fun hc => by
  refine ⟨fun Q E h => ?_⟩
  cases el : (Txt.split a b)[(Txt.split a b).length - 1]? with
  | none => rw [el] at h; exact h.elim
  | some y =>
    rw [el] at h
    have e1 : dM1 gSplit fo fe env M = .ok (en (Txt.split a b)) M := by
      unfold dM1
      rw [ho M hM]
      show ((fe env M).bind fun y M2 => _) = _
      rw [hf M hM]
      show (match gSplit a b with
        | some d => Out.ok d M
        | none => .bad) = _
      rw [gSplit_ok hc]
    have e2 : dSet i (dSplitC fo fe) env M = .ok (.nx (env.set i (some (.ref M.length)))) (M ++ [Cell.lst ((Txt.split a b).map en)]) := by
      unfold dSet dSplitC
      rw [e1]
      rfl
    have hget : (M ++ [Cell.lst ((Txt.split a b).map (en (α := Str)))])[M.length]? = some (.lst ((Txt.split a b).map en)) := by simp
    have e3 : dSet j (dLm gPop (dVar i) dNilA) (env.set i (some (.ref M.length))) (M ++ [Cell.lst ((Txt.split a b).map en)]) = .ok (.nx ((env.set i (some (.ref M.length))).set j (some (en y)))) (M ++ [Cell.lst ((Txt.split a b).dropLast.map en)]) := by
      have e4 : dLm gPop (dVar i) dNilA (env.set i (some (.ref M.length))) (M ++ [Cell.lst ((Txt.split a b).map en)]) = .ok (en y) (M ++ [Cell.lst ((Txt.split a b).dropLast.map en)]) := by
        unfold dLm dVar
        rw [List.getElem?_set_self hil]
        show (match asL (.ref M.length) (M ++ [Cell.lst ((Txt.split a b).map en)]) with
          | some _ => (dNilA (env.set i (some (.ref M.length))) (M ++ [Cell.lst ((Txt.split a b).map en)])).bind fun as M2 => liftM (gPop (.ref M.length) as M2)
          | none => Out.bad) = _
        simp only [asL, hget]
        show liftM (gPop (.ref M.length) [] _) = _
        unfold gPop
        simp only [asL, hget]
        rw [List.length_map, List.getElem?_map, el]
        show liftM ((setL (.ref M.length) _ fun l => some l.dropLast).map (en y, ·)) = _
        unfold setL
        simp only [hget]
        rw [List.map_dropLast]
        show Out.ok _ ((M ++ _).set M.length _) = _
        rw [List.set_append_right _ _ (Nat.le_refl _), Nat.sub_self]
        rfl
      unfold dSet
      rw [e4]
      rfl
    have hp : PureS M := by obtain ⟨rfl, hp⟩ := hM; exact hp
    unfold dThaw2
    rw [e2]
    show (Out.bind (dSet j (dLm gPop (dVar i) dNilA) (env.set i (some (.ref M.length))) (M ++ [Cell.lst ((Txt.split a b).map en)])) _).post _ _
    rw [e3]
    show (if ((M ++ [Cell.lst ((Txt.split a b).dropLast.map (en (α := Str)))]).take M.length).all (cellClosed M.length) then g (thawE M.length (M ++ [Cell.lst ((Txt.split a b).dropLast.map en)]) ((env.set i (some (.ref M.length))).set j (some (en y)))) ((M ++ [Cell.lst ((Txt.split a b).dropLast.map en)]).take M.length) else Out.bad).post _ _
    rw [List.take_left, if_pos (hp M.length)]
    rw [he y M.length _ (fun s => thaw_en (α := Str) _ _ s) (by
      unfold thaw
      simp only [Nat.lt_irrefl, if_false]
      have : (M ++ [Cell.lst ((Txt.split a b).dropLast.map (en (α := Str)))])[M.length]? = some (.lst ((Txt.split a b).dropLast.map en)) := by simp
      rw [this]
      simp only [closedAll_map, if_true]
      rfl)]
    exact (hk y hM).1 Q E h
theorem seq_raise1x {α β : Type} [Enc β] {rel : α → Fl → Sto → Prop} {c w fl : Str} {fe : DE} {g : DS} {M : Sto} {p : Pr β} (h : PX fe env S S p) (hM : S M) : Sat (dSeq (dRaise1 c w fl okIntD fe) g env M) (p.bind fun a => Pr.need (okIntD (en a) = true) (Pr.exc ⟨c, [fl, "word"], [en a, .str w]⟩) : Pr α) rel S := by
  unfold dSeq dRaise1
  rw [bind_assoc]
  refine bd_e h hM fun a M1 h1 => ⟨fun Q E z => ?_⟩
  show (Out.bind (if okIntD (en a) = true then Out.exc ⟨c, [fl, "word"], [en a, .str w]⟩ env M1 else .bad) _).post _ _
  rw [if_pos z.1]
  exact ⟨z.2, h1⟩
end
section
variable {N : Nat} {P : Sto → Prop} {cs : List (Nat × Cell)} {env : En} {X : Sto → Prop} {M : Sto} {α β : Type}
theorem seq_newA {rel : α → Fl → Sto → Prop} {i : Nat} {fa : DA} {g : DS} {p : Pr α} (h : Sat ((fa env M).bind fun xs M1 => (if xs.length ≤ 16777216 then Out.ok (D.ref M1.length) (M1 ++ [Cell.lst xs]) else .bad).bind fun d M2 => g (env.set i (some d)) M2) p rel X) : Sat (dSeq (dSet i (dLstC fa)) g env M) p rel X := by
  unfold dSeq dSet dLstC
  rw [bind_assoc, bind_assoc]
  exact h
theorem newA_end [Enc β] {rel : α → Fl → Sto → Prop} {i : Nat} {g : DS} {xs : List D} {l : List β} {p : Pr α} {env1 : Nat → En} (he : ∀ n, env.set i (some (.ref n)) = env1 n) (ex : xs = l.map en) (hM : St N P cs M) (hl : l.length ≤ 16777216)
    (hk : ∀ n M1, St N P (cs ++ [(n, .lst (l.map en))]) M1 → Sat (g (env1 n) M1) p rel X) : Sat ((if xs.length ≤ 16777216 then Out.ok (D.ref M.length) (M ++ [Cell.lst xs]) else .bad).bind fun d M2 => g (env.set i (some d)) M2) p rel X := by
  subst ex
  rw [if_pos (by simpa using hl)]
  have := hk M.length _ (hM.new (lst_closed l))
  rw [← he] at this
  exact this
/-- ys = list(xs), both lists that change -/
theorem seq_copyC {β γ : Type} [Enc β] [Enc γ] {rel : α → Fl → Sto → Prop} {i i2 : Nat} (j : Nat) {g : DS} {n : Nat} {l : List β} {c : List γ} {p : Pr α} {env1 : Nat → En} (hc : c.map en = l.map en) (hi : env[i2]? = some (some (.ref n))) (hj : cs[j]? = some (n, .lst (l.map en))) (he : ∀ n, env.set i (some (.ref n)) = env1 n) (hM : St N P cs M)
    (hk : ∀ n M1, St N P (cs ++ [(n, .lst (c.map en))]) M1 → Sat (g (env1 n) M1) p rel X) : Sat (dSeq (dSet i (dCallB gListC (dConsA (dVar i2) dNilA))) g env M) p rel X := by
  have hg := hM.get j hj
  have e : dSet i (dCallB gListC (dConsA (dVar i2) dNilA)) env M = .ok (.nx (env.set i (some (.ref M.length)))) (M ++ [.lst (c.map en)]) := by
    unfold dSet dCallB dConsA dVar
    simp only [hi]
    show (Out.bind (liftM (gListC [.ref n] M)) _) = _
    have e2 : gListC [.ref n] M = some (.ref M.length, M ++ [.lst (c.map en)]) := by
      show (asL (.ref n) M).map (fun l => (D.ref M.length, M ++ [Cell.lst l])) = _
      simp only [asL, hg, hc, Option.map_some]
    rw [e2]
    rfl
  unfold dSeq
  rw [e]
  have := hk M.length _ (hM.new (lst_closed c))
  rw [← he] at this
  exact this
/-- what is given back: a pair, or a pair whose second is a cell -/
def RT (N : Nat) (P : Sto → Prop) : Str × Da → Fl → Sto → Prop := fun a fl M' => ∃ cs, St N P cs M' ∧ (fl = .rt (en a) ∨ ∃ (n i : Nat) (l : List D), fl = .rt (.tup [.str a.1, .ref n]) ∧ cs[i]? = some (n, Cell.lst l) ∧ en a.2 = D.lst l)
theorem frzT_pv {n m : Nat} {B : DS} {ds : List D} {p : Pr (Str × Da)} {env0 : En} (hl : ds.length = m) (he : ds.map some ++ List.replicate (n - m) none = env0) (h : ∀ M0 M, PureS M0 → St M0.length (· = M0) [] M → Sat (B env0 M) p (RT M0.length (· = M0)) NX) : FP (frzT (runF n m B)) ds p := fun M hM => by
  unfold frzT runF
  rw [if_pos hl, he, bind_assoc]
  refine ⟨fun Q E z => ?_⟩
  refine post_mk_bind (((h M M hM (.start rfl rfl hM)).run Q E z).imp (fun fl M1 ⟨a, q, cs, s, e⟩ => ?_) (fun _ _ _ z => z))
  obtain ⟨a1, a2⟩ := a
  rcases e with e | ⟨k, i, l, e, hi, el⟩
  · rw [e]
    show (frzTO M.length (en (a1, a2)) M1).post _ _
    unfold frzTO
    rw [show thawT M.length M1 (en (a1, a2)) = some (en (a1, a2)) by
      show (thaw M.length M1 (en a2)).map (fun y => D.tup [.str a1, y]) = _
      rw [thaw_en]
      rfl]
    simp only [(st_take s).1, hM M.length, if_true]
    exact ⟨(a1, a2), q, rfl, rfl⟩
  · rw [e]
    have hc := s.cell _ (List.mem_of_getElem? hi)
    have hcl : closedAll M.length l = true := by
      have := Enc.cls a2 M.length
      have e3 : closed M.length (en a2) = true := this
      rw [el] at e3
      simpa [closed] using e3
    show (frzTO M.length (.tup [.str a1, .ref k]) M1).post _ _
    unfold frzTO
    rw [show thawT M.length M1 (.tup [.str a1, .ref k]) = some (en (a1, a2)) by
      show (thaw M.length M1 (.ref k)).map (fun y => D.tup [.str a1, y]) = _
      unfold thaw
      simp only at hc
      simp only [show ¬ k < M.length by omega, if_false, hc.2, hcl, if_true, Option.map_some]
      rw [← el]
      rfl]
    simp only [(st_take s).1, hM M.length, if_true]
    exact ⟨(a1, a2), q, rfl, rfl⟩
/-- return (s, xs) if c else p -/
theorem ret_ifT [Enc β] {i : Nat} (j : Nat) {ft : DT} {fs fb : DE} {g : DS} {n : Nat} {l : List β} {w : Str} {c : Pr Bool} {p2 : Pr (Str × Da)} (hi : env[i]? = some (some (.ref n))) (hj : cs[j]? = some (n, .lst (l.map en))) (hs : PV fs env (St N P cs) (en w)) (hc : TX ft env (St N P cs) X c) (hb : PX fb env (St N P cs) X p2) (hM : St N P cs M) :
    Sat (dSeq (dRet (dIfE ft (dTup (dConsA fs (dConsA (dVar i) dNilA))) fb)) g env M) (c.bind fun b => if b then Pr.ok (w, da l) else p2) (RT N P) X := by
  unfold dSeq dRet dIfE
  rw [bind_assoc, bind_assoc]
  refine td_e hc hM fun b M1 h1 => ?_
  cases b with
  | true =>
    have e : dTup (dConsA fs (dConsA (dVar i) dNilA)) env M1 = .ok (.tup [en w, .ref n]) M1 := by
      unfold dTup dConsA dVar
      rw [hs M1 h1, hi]
      rfl
    simp only [if_true]
    rw [e]
    exact .ok ⟨cs, h1, .inr ⟨n, j, _, rfl, hj, rfl⟩⟩
  | false =>
    simp only [Bool.false_eq_true, if_false]
    refine ⟨fun Q E z => ?_⟩
    refine post_mk_bind (((hb M1 h1).run Q E z).imp (fun d M2 ⟨a, q, e, s⟩ => ?_) (fun _ _ _ z => z))
    rw [e]
    exact ⟨a, q, cs, s, .inl rfl⟩
end
end Ip
end
section
set_option Elab.async false
set_option linter.all false
set_option maxRecDepth 100000
set_option maxHeartbeats 4000000
namespace T
open PySem PyProof.Rows L2 Ip
def top (i : Nat) : Stmt := PySem.Challenge.pw_spanrows_k58_whole_scripts_and_their_tex.main.body.getD i (.Pass ⟨0, 0, 0, 0⟩)
abbrev s__law_bag : Stmt := top 21
abbrev s__law_pull : Stmt := top 22
abbrev s__law_of : Stmt := top 23
abbrev s__law_command : Stmt := top 27
abbrev s__law_script : Stmt := top 28
abbrev s_is_number : Stmt := top 8
abbrev s_are_numbers : Stmt := top 9
abbrev s_is_command : Stmt := top 12
abbrev s_check_script : Stmt := top 13
abbrev s_script_text : Stmt := top 15
abbrev s_read_number : Stmt := top 10
abbrev s_read_command : Stmt := top 16
abbrev s_parse_script : Stmt := top 17
abbrev s__law_like : Stmt := top 24
abbrev s__law_bent_text : Stmt := top 20
abbrev s__law_plain_number : Stmt := top 19
abbrev s__law_due_command : Stmt := top 30
abbrev s__law_lines_due : Stmt := top 31
abbrev s__law_odd_command : Stmt := top 29
abbrev s__law_long_text_right : Stmt := top 32
abbrev s_law : Stmt := top 33
abbrev s_SpanError : Stmt := inClass (top 1) 0
abbrev s_BadText : Stmt := inClass (top 3) 0
abbrev s_BadCommand : Stmt := inClass (top 2) 0
abbrev s__law_field : Stmt := top 25
abbrev s__law_told : Stmt := top 26
set_option genInjectivity false in
set_option genSizeOf false in
structure Txt (K : PySem.W.Frag) (mg : Str → Option Value) where
  b_all : mg "all" = none
  b_bool : mg "bool" = none
  b_enumerate : mg "enumerate" = none
  b_int : mg "int" = none
  b_isinstance : mg "isinstance" = none
  b_len : mg "len" = none
  b_list : mg "list" = none
  b_range : mg "range" = none
  b_str : mg "str" = none
  b_tuple : mg "tuple" = none
  t_MOST_DIGITS : Tok
  c_MOST_DIGITS : mg "MOST_DIGITS" = some (.int 18 t_MOST_DIGITS)
  a__law_bag : Addr
  d__law_bag : FuncData
  g__law_bag : mg "_law_bag" = some (.ref a__law_bag)
  p__law_bag : PySem.W.keepIn K (.ref a__law_bag) = true
  f__law_bag : Fun K "_law_bag" "_law_bag" s__law_bag a__law_bag d__law_bag
  n__law_bag : Binds K d__law_bag ["_law_script_here"] []
  a__law_pull : Addr
  d__law_pull : FuncData
  g__law_pull : mg "_law_pull" = some (.ref a__law_pull)
  p__law_pull : PySem.W.keepIn K (.ref a__law_pull) = true
  f__law_pull : Fun K "_law_pull" "_law_pull" s__law_pull a__law_pull d__law_pull
  n__law_pull : Binds K d__law_pull ["_law_bag_here", "_law_size"] []
  a__law_of : Addr
  d__law_of : FuncData
  g__law_of : mg "_law_of" = some (.ref a__law_of)
  p__law_of : PySem.W.keepIn K (.ref a__law_of) = true
  f__law_of : Fun K "_law_of" "_law_of" s__law_of a__law_of d__law_of
  n__law_of : Binds K d__law_of ["_law_bag_here", "_law_some"] []
  a__law_command : Addr
  d__law_command : FuncData
  g__law_command : mg "_law_command" = some (.ref a__law_command)
  p__law_command : PySem.W.keepIn K (.ref a__law_command) = true
  f__law_command : Fun K "_law_command" "_law_command" s__law_command a__law_command d__law_command
  n__law_command : Binds K d__law_command ["_law_bag_here", "_law_far"] []
  a__law_script : Addr
  d__law_script : FuncData
  g__law_script : mg "_law_script" = some (.ref a__law_script)
  p__law_script : PySem.W.keepIn K (.ref a__law_script) = true
  f__law_script : Fun K "_law_script" "_law_script" s__law_script a__law_script d__law_script
  n__law_script : Binds K d__law_script ["_law_bag_here", "_law_most"] []
  a_is_number : Addr
  d_is_number : FuncData
  g_is_number : mg "is_number" = some (.ref a_is_number)
  p_is_number : PySem.W.keepIn K (.ref a_is_number) = true
  f_is_number : Fun K "is_number" "is_number" s_is_number a_is_number d_is_number
  n_is_number : Binds K d_is_number ["value"] []
  a_are_numbers : Addr
  d_are_numbers : FuncData
  g_are_numbers : mg "are_numbers" = some (.ref a_are_numbers)
  p_are_numbers : PySem.W.keepIn K (.ref a_are_numbers) = true
  f_are_numbers : Fun K "are_numbers" "are_numbers" s_are_numbers a_are_numbers d_are_numbers
  n_are_numbers : Binds K d_are_numbers ["values", "many"] []
  a_is_command : Addr
  d_is_command : FuncData
  g_is_command : mg "is_command" = some (.ref a_is_command)
  p_is_command : PySem.W.keepIn K (.ref a_is_command) = true
  f_is_command : Fun K "is_command" "is_command" s_is_command a_is_command d_is_command
  n_is_command : Binds K d_is_command ["item"] []
  a_check_script : Addr
  d_check_script : FuncData
  g_check_script : mg "check_script" = some (.ref a_check_script)
  p_check_script : PySem.W.keepIn K (.ref a_check_script) = true
  f_check_script : Fun K "check_script" "check_script" s_check_script a_check_script d_check_script
  n_check_script : Binds K d_check_script ["script"] []
  a_script_text : Addr
  d_script_text : FuncData
  g_script_text : mg "script_text" = some (.ref a_script_text)
  p_script_text : PySem.W.keepIn K (.ref a_script_text) = true
  f_script_text : Fun K "script_text" "script_text" s_script_text a_script_text d_script_text
  n_script_text : Binds K d_script_text ["script"] []
  a_read_number : Addr
  d_read_number : FuncData
  g_read_number : mg "read_number" = some (.ref a_read_number)
  p_read_number : PySem.W.keepIn K (.ref a_read_number) = true
  f_read_number : Fun K "read_number" "read_number" s_read_number a_read_number d_read_number
  n_read_number : Binds K d_read_number ["text"] []
  a_read_command : Addr
  d_read_command : FuncData
  g_read_command : mg "read_command" = some (.ref a_read_command)
  p_read_command : PySem.W.keepIn K (.ref a_read_command) = true
  f_read_command : Fun K "read_command" "read_command" s_read_command a_read_command d_read_command
  n_read_command : Binds K d_read_command ["line"] []
  a_parse_script : Addr
  d_parse_script : FuncData
  g_parse_script : mg "parse_script" = some (.ref a_parse_script)
  p_parse_script : PySem.W.keepIn K (.ref a_parse_script) = true
  f_parse_script : Fun K "parse_script" "parse_script" s_parse_script a_parse_script d_parse_script
  n_parse_script : Binds K d_parse_script ["text"] []
  a__law_like : Addr
  d__law_like : FuncData
  g__law_like : mg "_law_like" = some (.ref a__law_like)
  p__law_like : PySem.W.keepIn K (.ref a__law_like) = true
  f__law_like : Fun K "_law_like" "_law_like" s__law_like a__law_like d__law_like
  n__law_like : Binds K d__law_like ["_law_found", "_law_due"] []
  a__law_bent_text : Addr
  d__law_bent_text : FuncData
  g__law_bent_text : mg "_law_bent_text" = some (.ref a__law_bent_text)
  p__law_bent_text : PySem.W.keepIn K (.ref a__law_bent_text) = true
  f__law_bent_text : Fun K "_law_bent_text" "_law_bent_text" s__law_bent_text a__law_bent_text d__law_bent_text
  n__law_bent_text : Binds K d__law_bent_text ["_law_bag_here", "_law_text", "_law_signs"] []
  a__law_plain_number : Addr
  d__law_plain_number : FuncData
  g__law_plain_number : mg "_law_plain_number" = some (.ref a__law_plain_number)
  p__law_plain_number : PySem.W.keepIn K (.ref a__law_plain_number) = true
  f__law_plain_number : Fun K "_law_plain_number" "_law_plain_number" s__law_plain_number a__law_plain_number d__law_plain_number
  n__law_plain_number : Binds K d__law_plain_number ["_law_word"] []
  a__law_due_command : Addr
  d__law_due_command : FuncData
  g__law_due_command : mg "_law_due_command" = some (.ref a__law_due_command)
  p__law_due_command : PySem.W.keepIn K (.ref a__law_due_command) = true
  f__law_due_command : Fun K "_law_due_command" "_law_due_command" s__law_due_command a__law_due_command d__law_due_command
  n__law_due_command : Binds K d__law_due_command ["_law_script_here"] []
  a__law_lines_due : Addr
  d__law_lines_due : FuncData
  g__law_lines_due : mg "_law_lines_due" = some (.ref a__law_lines_due)
  p__law_lines_due : PySem.W.keepIn K (.ref a__law_lines_due) = true
  f__law_lines_due : Fun K "_law_lines_due" "_law_lines_due" s__law_lines_due a__law_lines_due d__law_lines_due
  n__law_lines_due : Binds K d__law_lines_due ["_law_text"] []
  a__law_odd_command : Addr
  d__law_odd_command : FuncData
  g__law_odd_command : mg "_law_odd_command" = some (.ref a__law_odd_command)
  p__law_odd_command : PySem.W.keepIn K (.ref a__law_odd_command) = true
  f__law_odd_command : Fun K "_law_odd_command" "_law_odd_command" s__law_odd_command a__law_odd_command d__law_odd_command
  n__law_odd_command : Binds K d__law_odd_command ["_law_bag_here"] []
  a__law_long_text_right : Addr
  d__law_long_text_right : FuncData
  g__law_long_text_right : mg "_law_long_text_right" = some (.ref a__law_long_text_right)
  p__law_long_text_right : PySem.W.keepIn K (.ref a__law_long_text_right) = true
  f__law_long_text_right : Fun K "_law_long_text_right" "_law_long_text_right" s__law_long_text_right a__law_long_text_right d__law_long_text_right
  n__law_long_text_right : Binds K d__law_long_text_right ["_law_bag_here"] []
  a_law : Addr
  d_law : FuncData
  g_law : mg "law" = some (.ref a_law)
  p_law : PySem.W.keepIn K (.ref a_law) = true
  f_law : Fun K "law" "law" s_law a_law d_law
  n_law : Binds K d_law ["_law_script_here"] []
  a_SpanError : Addr
  mc_SpanError : Value
  g_SpanError : mg "SpanError" = some (.ref a_SpanError)
  fi_SpanError : Addr
  di_SpanError : FuncData
  rd_SpanError : ClX.CRead K a_SpanError mc_SpanError
  ci_SpanError : PySem.W.findCls K (.ref a_SpanError) mc_SpanError "__init__" = some (.val (.ref fi_SpanError))
  ki_SpanError : PySem.W.keepIn K (.ref fi_SpanError) = true
  fn_SpanError : Fun K "__init__" "SpanError.__init__" s_SpanError fi_SpanError di_SpanError
  nb_SpanError : Binds K di_SpanError ["self", "word", "message"] []
  mV : mg "ValueError" = none
  vV : PySem.W.findCls K (.type "ValueError") (.type "type") "__init__" = some (.val (.builtin "ValueError.__init__"))
  a_BadText : Addr
  fi_BadText : Addr
  di_BadText : FuncData
  g_BadText : mg "BadText" = some (.ref a_BadText)
  oc_BadText : OexC K a_BadText
  xc_BadText : XcC K a_BadText
  em_BadText : PySem.W.exmOne K (.ref a_BadText) (.ref a_SpanError) = some true
  in_BadText : PySem.W.findIn K (.ref a_BadText) "__init__" = some (some (.ref fi_BadText))
  ti_BadText : PySem.W.typeIn K (.ref fi_BadText) = some (.type "function")
  fn_BadText : Fun K "__init__" "BadText.__init__" s_BadText fi_BadText di_BadText
  nb_BadText : Binds K di_BadText ["self", "at"] []
  a_BadCommand : Addr
  fi_BadCommand : Addr
  di_BadCommand : FuncData
  g_BadCommand : mg "BadCommand" = some (.ref a_BadCommand)
  oc_BadCommand : OexC K a_BadCommand
  xc_BadCommand : XcC K a_BadCommand
  em_BadCommand : PySem.W.exmOne K (.ref a_BadCommand) (.ref a_SpanError) = some true
  in_BadCommand : PySem.W.findIn K (.ref a_BadCommand) "__init__" = some (some (.ref fi_BadCommand))
  ti_BadCommand : PySem.W.typeIn K (.ref fi_BadCommand) = some (.type "function")
  fn_BadCommand : Fun K "__init__" "BadCommand.__init__" s_BadCommand fi_BadCommand di_BadCommand
  nb_BadCommand : Binds K di_BadCommand ["self", "at"] []
  a__law_field : Addr
  d__law_field : FuncData
  g__law_field : mg "_law_field" = some (.ref a__law_field)
  p__law_field : PySem.W.keepIn K (.ref a__law_field) = true
  f__law_field : Fun K "_law_field" "_law_field" s__law_field a__law_field d__law_field
  n__law_field : Binds K d__law_field ["_law_e"] []
  a__law_told : Addr
  d__law_told : FuncData
  cd__law_told : Value
  g__law_told : mg "_law_told" = some (.ref a__law_told)
  p__law_told : PySem.W.keepIn K (.ref a__law_told) = true
  fc__law_told : FunC K "_law_told" "_law_told" s__law_told a__law_told d__law_told cd__law_told
  n__law_told : Binds K d__law_told ["_law_ask"] []
  c_law : Addr
  t_law : Addr
  fc_law : FunC K "law" "law" s_law a_law d_law (.ref c_law)
  c__law_long_text_right : Addr
  t__law_long_text_right : Addr
  fc__law_long_text_right : FunC K "_law_long_text_right" "_law_long_text_right" s__law_long_text_right a__law_long_text_right d__law_long_text_right (.ref c__law_long_text_right)
  dj_law__law_long_text_right : t_law ≠ t__law_long_text_right
section
variable {P : Program} {w : World} {K : PySem.W.Frag} {mg : Str → Option Value} {base : Heap}
def Txt.cl (T : Txt K mg) : Str → Option Addr := fun x => if x = "_law_long_text_right.<locals>.<lambda>" then some T.t__law_long_text_right else if x = "law.<locals>.<lambda>" then some T.t_law else if x = "BadCommand" then some T.a_BadCommand else if x = "BadText" then some T.a_BadText else none
theorem Txt.cl_BadText (T : Txt K mg) : T.cl "BadText" = some T.a_BadText := rfl
theorem Txt.cl_BadCommand (T : Txt K mg) : T.cl "BadCommand" = some T.a_BadCommand := rfl
def Txt.lams (T : Txt K mg) : List (Addr × Str) := [(T.t_law, "law.<locals>.<lambda>"), (T.t__law_long_text_right, "_law_long_text_right.<locals>.<lambda>")]
def Txt.cts (T : Txt K mg) : List (Addr × Addr) := [(T.c_law, T.t_law), (T.c__law_long_text_right, T.t__law_long_text_right)]
theorem Txt.lam (T : Txt K mg) : ∀ q P, lamQ q = true → T.cl q = some P → (P, q) ∈ T.lams := by
  intro q P h e
  unfold Txt.cl at e
  split at e
  · rename_i z; cases e; subst z; exact (List.mem_cons_of_mem _ List.mem_cons_self)
  split at e
  · rename_i z; cases e; subst z; exact List.mem_cons_self
  split at e
  · rename_i z; subst z; exact absurd h (by decide +kernel)
  split at e
  · rename_i z; subst z; exact absurd h (by decide +kernel)
  cases e
theorem Txt.lam2 (T : Txt K mg) : ∀ p ∈ T.lams, lamQ p.2 = true ∧ T.cl p.2 = some p.1 := List.forall_mem_cons.mpr ⟨⟨(by decide +kernel : lamQ ("law.<locals>.<lambda>" : Str) = true), rfl⟩, List.forall_mem_cons.mpr ⟨⟨(by decide +kernel : lamQ ("_law_long_text_right.<locals>.<lambda>" : Str) = true), rfl⟩, fun _ h => nomatch h⟩⟩
theorem Txt.lam3 (T : Txt K mg) : (T.t_law, ("law.<locals>.<lambda>" : Str)) ∈ T.lams := List.mem_cons_self
theorem Txt.cm_law (T : Txt K mg) : (T.c_law, T.t_law) ∈ T.cts := List.mem_cons_self
theorem Txt.lam4 (T : Txt K mg) : ∀ p ∈ T.lams, p.1 = T.t_law → p.2 = ("law.<locals>.<lambda>" : Str) := List.forall_mem_cons.mpr ⟨fun h => rfl, List.forall_mem_cons.mpr ⟨fun h => absurd h (Ne.symm T.dj_law__law_long_text_right), fun _ h => nomatch h⟩⟩
theorem Txt.lam3__law_long_text_right (T : Txt K mg) : (T.t__law_long_text_right, ("_law_long_text_right.<locals>.<lambda>" : Str)) ∈ T.lams := (List.mem_cons_of_mem _ List.mem_cons_self)
theorem Txt.cm__law_long_text_right (T : Txt K mg) : (T.c__law_long_text_right, T.t__law_long_text_right) ∈ T.cts := (List.mem_cons_of_mem _ List.mem_cons_self)
theorem Txt.lam4__law_long_text_right (T : Txt K mg) : ∀ p ∈ T.lams, p.1 = T.t__law_long_text_right → p.2 = ("_law_long_text_right.<locals>.<lambda>" : Str) := List.forall_mem_cons.mpr ⟨fun h => absurd h T.dj_law__law_long_text_right, List.forall_mem_cons.mpr ⟨fun h => rfl, fun _ h => nomatch h⟩⟩
theorem Txt.lct (T : Txt K mg) : ∀ p ∈ T.lams, ∃ c, (c, p.1) ∈ T.cts := List.forall_mem_cons.mpr ⟨⟨_, T.cm_law⟩, List.forall_mem_cons.mpr ⟨⟨_, T.cm__law_long_text_right⟩, fun _ h => nomatch h⟩⟩
theorem sc_SpanError : FnScope ["self", "word", "message"] ["self", "word", "message"] (defScope s_SpanError) := ⟨rfl, rfl, rfl, by decide +kernel, rfl, by decide +kernel, by decide +kernel⟩
theorem okE_SpanError (T : Txt K mg) : FnOk P w K mg base CX0 1 T.fi_SpanError T.di_SpanError ["self", "word", "message"] (spSE K) := by
  refine T.fn_SpanError.ok sc_SpanError (fun vs H Q E ⟨a, C, w, m, e, _⟩ => by rw [e]; rfl) fun cdv A outer s H vs Q E hr ⟨a, C, wd, m, e, o, hw, ha, q⟩ => ⟨_, pss_cons (ps_expr (pe_veinit (by rfl) T.mV T.vV (pa_cons (pv 0) (pa_cons (pv 2) pa_nil)))) (pss_one (ps_ost (pv 0) (pv 1))), ?_⟩
  subst e
  exact ⟨.ref a, rfl, m, rfl, a, C, [m], rfl, by simp, o, ha, .str wd, rfl, .ref a, rfl, a, C, rfl, o, hw, .inl ⟨ha, fun dx hd hn => q dx hd hn⟩⟩
theorem sc_BadText : FnScope ["self", "at"] ["self", "at"] (defScope s_BadText) := ⟨rfl, rfl, rfl, by decide +kernel, rfl, by decide +kernel, by decide +kernel⟩
theorem okE_BadText (T : Txt K mg) : FnOk P w K mg base CX0 2 T.fi_BadText T.di_BadText ["self", "at"] (spE1 T.a_BadText "BadText" "at" okInt) := by
  refine T.fn_BadText.ok sc_BadText (fun vs H Q E ⟨a, x, e, _⟩ => by rw [e]; rfl) fun cdv A outer s H vs Q E hr ⟨a, x, e, ha, ⟨i, ei, hi⟩, q⟩ => ⟨_, pss_cons (ps_expr (pe_cfn (pe_glob (v := .ref T.a_SpanError) rfl T.g_SpanError rfl) T.rd_SpanError T.ci_SpanError T.ki_SpanError (okE_SpanError T) hr T.nb_SpanError (E := E0) pass0 (pa_cons (pv 0) (pa_cons pe_str (pa_cons (pe_joined (.cons pe_str (.cons (pe_fmt (pv 1)) .nil))) pa_nil))))) (pss_one (ps_ost (pv 0) (pv 1))), ?_⟩
  subst e ei
  have hl := int_text_len_1921 hi
  exact ⟨rfl, .ref a, rfl, _, rfl, line_of (by decide +kernel), .int i, rfl, .inr ⟨i, rfl, hi, _, rfl, msg2 (by decide +kernel) hl, a, T.a_BadText, _, _, rfl, T.oc_BadText, T.xc_BadText.no "word" (by simp [xNames]), ha, fun dx hd hn => ⟨.int i, rfl, .ref a, rfl, a, T.a_BadText, rfl, T.oc_BadText, T.xc_BadText.no "at" (by simp [xNames]), .inr ⟨dx, _, upd_same, (upd_ne hn).trans upd_same, by simp, q dx hd hn⟩⟩⟩⟩
theorem sc_BadCommand : FnScope ["self", "at"] ["self", "at"] (defScope s_BadCommand) := ⟨rfl, rfl, rfl, by decide +kernel, rfl, by decide +kernel, by decide +kernel⟩
theorem okE_BadCommand (T : Txt K mg) : FnOk P w K mg base CX0 2 T.fi_BadCommand T.di_BadCommand ["self", "at"] (spE1 T.a_BadCommand "BadCommand" "at" okInt) := by
  refine T.fn_BadCommand.ok sc_BadCommand (fun vs H Q E ⟨a, x, e, _⟩ => by rw [e]; rfl) fun cdv A outer s H vs Q E hr ⟨a, x, e, ha, ⟨i, ei, hi⟩, q⟩ => ⟨_, pss_cons (ps_expr (pe_cfn (pe_glob (v := .ref T.a_SpanError) rfl T.g_SpanError rfl) T.rd_SpanError T.ci_SpanError T.ki_SpanError (okE_SpanError T) hr T.nb_SpanError (E := E0) pass0 (pa_cons (pv 0) (pa_cons pe_str (pa_cons (pe_joined (.cons pe_str (.cons (pe_fmt (pv 1)) (.cons pe_str .nil)))) pa_nil))))) (pss_one (ps_ost (pv 0) (pv 1))), ?_⟩
  subst e ei
  have hl := int_text_len_1921 hi
  exact ⟨rfl, .ref a, rfl, _, rfl, line_of (by decide +kernel), .int i, rfl, .inr ⟨i, rfl, hi, _, rfl, msg2 (by decide +kernel) hl, _, rfl, msg3 (by decide +kernel) hl (by decide +kernel), a, T.a_BadCommand, _, _, rfl, T.oc_BadCommand, T.xc_BadCommand.no "word" (by simp [xNames]), ha, fun dx hd hn => ⟨.int i, rfl, .ref a, rfl, a, T.a_BadCommand, rfl, T.oc_BadCommand, T.xc_BadCommand.no "at" (by simp [xNames]), .inr ⟨dx, _, upd_same, (upd_ne hn).trans upd_same, by simp, q dx hd hn⟩⟩⟩⟩
theorem Txt.hx (T : Txt K mg) : ∀ c ∈ (["BadText", "BadCommand"] : List Str), ∀ C, T.cl c = some C → XcC K C ∧ PySem.W.exmOne K (.ref C) (.ref T.a_SpanError) = some true := fun c hc C e => by
  rcases List.mem_cons.mp hc with z | hc
  · subst z; cases e.symm.trans (T.cl_BadText); exact ⟨T.xc_BadText, T.em_BadText⟩
  rcases List.mem_cons.mp hc with z | hc
  · subst z; cases e.symm.trans (T.cl_BadCommand); exact ⟨T.xc_BadCommand, T.em_BadCommand⟩
  cases hc
theorem sc__law_field : FnScope ["_law_e"] ["_law_e"] (defScope s__law_field) := ⟨rfl, rfl, rfl, by decide +kernel, rfl, by decide +kernel, by decide +kernel⟩
theorem xn (n : Str) (h : n ∈ xNames := by simp [xNames]) : n ∈ xNames := h
theorem ok__law_field {P : Program} {w : World} {K : PySem.W.Frag} {mg : Str → Option Value} {base : Heap} {cl : Str → Option Addr} {f : Addr} {fd : FuncData} (F : Fun K "_law_field" "_law_field" s__law_field f fd) : FnP P w K mg base 1 f fd ["_law_e"] (spF ⟨K, cl⟩) := by
  refine fnP_of F sc__law_field (fun p vs H Q E ⟨C, dd, e, us, ρ, M, w, d, ev, _⟩ => by rw [ev]; rfl) fun cdv A outer s H vs Q E p hr ⟨C, dd, e, us, ρ, M, wd, d, ev, hz, hf, hX, x0, hw, hd, hQ⟩ => ?_
  subst ev
  have hp : p ∈ (L2H.cxH CX0 P w K mg base ["_law_e"] "_law_field" (defScope s__law_field) f cdv A outer s H E p).pn := List.mem_cons_self
  have at_ : ∀ (n : Str) (hn : n ∈ xNames) {pos ap : Pos}, PE (L2H.cxH CX0 P w K mg base ["_law_e"] "_law_field" (defScope s__law_field) f cdv A outer s H E p) (.Attribute (.Name "_law_e" ap) n pos) (tXf p.1 (.ref C) (some dd) C n (tVar 0)) := fun n hn {pos ap} => pe_xfP hp hX.xf (hX.no n hn) hz hf (pv 0)
  refine ⟨_, pss_cons (ps_if (pt_cmpR op_in_seq (at_ "word" (xn _)) (pe_tup (pa_cons pe_str (pa_cons pe_str pa_nil))) rfl) (pss_one (ps_ret (at_ "number" (xn _)))) pss_nil)
    (pss_cons (ps_if (pt_cmpR op_in_seq (at_ "word" (xn _)) (pe_tup (pa_cons pe_str (pa_cons pe_str (pa_cons pe_str (pa_cons pe_str pa_nil))))) rfl) (pss_one (ps_ret (at_ "at" (xn _)))) pss_nil)
    (pss_cons (ps_if (pt_cmpR op_in_seq (at_ "word" (xn _)) (pe_tup (pa_cons pe_str (pa_cons pe_str pa_nil))) rfl) (pss_one (ps_ret (at_ "name" (xn _)))) pss_nil)
    (pss_cons (ps_if (pt_cmpR op_in_seq (at_ "word" (xn _)) (pe_tup (pa_cons pe_str (pa_cons pe_str pa_nil))) rfl) (pss_one (ps_ret (at_ "cell" (xn _)))) pss_nil)
    (pss_cons (ps_if (pt_cmpR op_in_seq (at_ "word" (xn _)) (pe_tup (pa_cons pe_str (pa_cons pe_str pa_nil))) rfl) (pss_one (ps_ret (at_ "most" (xn _)))) pss_nil)
    (pss_one (ps_ret (pe_ifExp (pt_cmpR (op := .Eq) op_eq (at_ "word" (xn _)) pe_str (nomark _)) (pe_tup (pa_cons (at_ "label" (xn _)) (pa_cons (at_ "other" (xn _)) pa_nil))) pe_non))))))), ?_⟩
  obtain ⟨vw, hvw, rw_⟩ := x0.at hw
  cases rw_
  have one : ∀ {H' : Hp} {n : Str} {d' : D}, ExS ⟨K, cl⟩ H' ρ M e dd us → Ext ⟨K, cl⟩ H ρ H' ρ → e.at n = some d' → d' = d → tXf p.1 (.ref C) (some dd) C n (tVar 0) (L2.start ["_law_e"] [.ref p.1]) H' Q := fun {H' n d'} x' ex hn ed => by
    subst ed
    obtain ⟨v, hv, r⟩ := x'.at hn
    exact xf_q rfl x'.xd hv (hQ ρ v H' ex x'.rs r)
  unfold fieldD at hd
  refine in_q ["BadRow", "BadCount"] rfl x0.xd hvw (by decide) fun q1 n1 => ?_
  have x1 := x0.new (o := .tup ((["BadRow", "BadCount"] : List Str).map V.str)) n1
  have e1 := Ext.new (o := .tup ((["BadRow", "BadCount"] : List Str).map V.str)) x0.rs n1
  by_cases c1 : wd = "BadRow" ∨ wd = "BadCount"
  · rw [if_pos c1] at hd
    rw [if_pos (by simpa using c1)]
    exact one x1 e1 hd rfl
  rw [if_neg c1] at hd
  rw [if_neg (by simpa using c1)]
  refine in_q ["BadPieces", "BadCommand", "BadDeed", "BadText"] rfl x1.xd hvw (by decide) fun q2 n2 => ?_
  have x2 := x1.new (o := .tup ((["BadPieces", "BadCommand", "BadDeed", "BadText"] : List Str).map V.str)) n2
  have e2 := e1.trans (Ext.new (o := .tup ((["BadPieces", "BadCommand", "BadDeed", "BadText"] : List Str).map V.str)) x1.rs n2)
  by_cases c2 : wd = "BadPieces" ∨ wd = "BadCommand" ∨ wd = "BadDeed" ∨ wd = "BadText"
  · rw [if_pos c2] at hd
    rw [if_pos (by simpa using c2)]
    exact one x2 e2 hd rfl
  rw [if_neg c2] at hd
  rw [if_neg (by simpa using c2)]
  refine in_q ["BadName", "Taken"] rfl x2.xd hvw (by decide) fun q3 n3 => ?_
  have x3 := x2.new (o := .tup ((["BadName", "Taken"] : List Str).map V.str)) n3
  have e3 := e2.trans (Ext.new (o := .tup ((["BadName", "Taken"] : List Str).map V.str)) x2.rs n3)
  by_cases c3 : wd = "BadName" ∨ wd = "Taken"
  · rw [if_pos c3] at hd
    rw [if_pos (by simpa using c3)]
    exact one x3 e3 hd rfl
  rw [if_neg c3] at hd
  rw [if_neg (by simpa using c3)]
  refine in_q ["Gone", "Ring"] rfl x3.xd hvw (by decide) fun q4 n4 => ?_
  have x4 := x3.new (o := .tup ((["Gone", "Ring"] : List Str).map V.str)) n4
  have e4 := e3.trans (Ext.new (o := .tup ((["Gone", "Ring"] : List Str).map V.str)) x3.rs n4)
  by_cases c4 : wd = "Gone" ∨ wd = "Ring"
  · rw [if_pos c4] at hd
    rw [if_pos (by simpa using c4)]
    exact one x4 e4 hd rfl
  rw [if_neg c4] at hd
  rw [if_neg (by simpa using c4)]
  refine in_q ["TooManyPieces", "Full"] rfl x4.xd hvw (by decide) fun q5 n5 => ?_
  have x5 := x4.new (o := .tup ((["TooManyPieces", "Full"] : List Str).map V.str)) n5
  have e5 := e4.trans (Ext.new (o := .tup ((["TooManyPieces", "Full"] : List Str).map V.str)) x4.rs n5)
  by_cases c5 : wd = "TooManyPieces" ∨ wd = "Full"
  · rw [if_pos c5] at hd
    rw [if_pos (by simpa using c5)]
    exact one x5 e5 hd rfl
  rw [if_neg c5] at hd
  rw [if_neg (by simpa using c5)]
  unfold tNext
  simp only
  unfold tRet tIf tTest tOp
  refine xf_q rfl x5.xd hvw ?_
  refine ⟨rfl, _, rfl, ?_⟩
  by_cases c6 : wd = "Clash"
  · rw [if_pos c6] at hd
    rw [if_pos (by simpa using c6)]
    split at hd
    · rename_i a b ha hb
      cases hd
      obtain ⟨va, hva, ra⟩ := x5.at ha
      obtain ⟨vb, hvb, rb⟩ := x5.at hb
      unfold tTup tCons
      refine xf_q rfl x5.xd hva ?_
      refine xf_q rfl x5.xd hvb ?_
      refine ⟨line_of (by simp), fun q hq => ?_⟩
      have en := Ext.new (o := .tup [va, vb]) x5.rs hq
      exact hQ ρ _ _ (e5.trans en) (x5.rs.new hq) (.tup (TpA.of upd_same) (.two (ra.mono en) (rb.mono en)))
    · cases hd
  · rw [if_neg c6] at hd
    rw [if_neg (by simpa using c6)]
    cases hd
    exact hQ ρ .non _ e5 x5.rs .non
theorem sc__law_told : FnScope ["_law_ask", "_law_e"] ["_law_ask"] (defScope s__law_told) := ⟨rfl, rfl, rfl, by decide +kernel, rfl, by decide +kernel, by decide +kernel⟩
theorem gives_told {X : Cx} {cl : Str → Option Addr} {g SE fF : Addr} {fd : FuncData} {cdg : Value} {q : Str} (hr : Room 3 X.A) (gF : X.mg "_law_field" = some (.ref fF)) (F : Fun X.K "_law_field" "_law_field" s__law_field fF fd) (kF : PySem.W.keepIn X.K (.ref fF) = true) (nF : Binds X.K fd ["_law_e"] []) (gS : X.mg "SpanError" = some (.ref SE)) :
    LamX.GivesTo X ["_law_ask", "_law_e"] "_law_told" (defScope s__law_told) g cdg (defBody s__law_told) "_law_ask" q (TTold2 (gx X cl) SE) := by
  intro f c' s H Q tl act hc h
  refine ⟨_, pss_one (ps_try_first (X := (cxOf C8.CX0 X.prog X.w X.K X.mg X.base ["_law_ask", "_law_e"] "_law_told" (defScope s__law_told) g cdg X.A X.stack s H C8.E0).nox) (c := .ref SE) (i := 1)
    (tb := fun W D σ H => ∃ Ech : XK, (∀ cls d σ' H', Ech cls d H' → W cls d σ' H') ∧ σ[0]? = some (some (.ref f)) ∧ H c' = some (LamX.CodeO c' q) ∧ tl Ech H fun v H1 => ([V.str "told", v].length ≤ sizeLine ∧ ∀ p, H1 p = none → D.rt (.ref p) (upd H1 p (.tup [.str "told", v]))))
    (ts := fun a cls d D σ H => ∃ C dd, cls = .ref C ∧ d = some dd ∧ XcC X.K C ∧ ∀ oe : Obj, Zc (.ref C) (some dd) oe → (∃ vs, oe.data = .fields vs) → tRet (tTup (tCons (tXf a (.ref C) (some dd) C "word" (tVar 1)) (tCons (fun σ H Q => tCons (tVar 1) tNil σ H fun vs H1 => spF (gx X cl) (a, oe) vs H1 Q E0) tNil))) D σ H)
    rfl rfl (show ([Str.ofString "_law_ask", Str.ofString "_law_e"] : List Str).Nodup by decide +kernel) rfl rfl ⟨rfl, by decide, .inl gS⟩ (fun W pn xe tk => ?_) (fun a oe cls d pn hz hf => ?_)), ?_⟩
  · refine ⟨fun pins s' σ H' D I h' => ?_⟩
    obtain ⟨Ech, hW, h1, h2, h3⟩ := h'
    exact (pss_one (ps_ret (pe_tup (pa_cons pe_str (pa_cons (act W pn xe Ech _ _ tk hW) pa_nil))))).run pins s' σ H' D I ⟨h1, h2, h3⟩
  · refine ⟨fun pins s' σ H' D I h' => ?_⟩
    obtain ⟨C, dd, rfl, rfl, hX, h'⟩ := h'
    have hp : (a, oe) ∈ (Cx.suite (cxOf C8.CX0 X.prog X.w X.K X.mg X.base ["_law_ask", "_law_e"] "_law_told" (defScope s__law_told) g cdg X.A X.stack s H C8.E0).nox a ((a, oe) :: pn)).pn := List.mem_cons_self
    have r2 := hr.deeper (envOfC "_law_told" (defScope s__law_told) s.heap.objs.size g cdg)
    exact (pss_one (ps_ret (pe_tup (pa_cons (pe_xfP hp hX.xf (hX.no "word" (xn _)) hz hf (pv 1)) (pa_cons (pe_callP (k := 1) (x := "_law_field") hp (ok__law_field (cl := cl) F) ⟨(r2.mono (j := 1) (by omega)).dp, (r2.mono (j := 1) (by omega)).un⟩ rfl gF kF nF (pa_cons (pv 1) pa_nil)) pa_nil))))).run pins s' σ H' D I (h' oe hz hf)
  · refine ⟨EchT (gx X cl) SE Q, fun cls d σ' H' ⟨C, dd, e, us, ρ, M, wd, d', ec, ed, hX, hm, hS, hw, hd, hQ⟩ => ?_, rfl, hc, ?_⟩
    · subst ec ed
      refine ⟨hm, fun hσ a na => ⟨C, dd, rfl, rfl, hX, fun oe hz hf => ?_⟩⟩
      obtain ⟨v, hv, rv⟩ := hS.at hw
      cases rv
      have h1 : (σ'.set 1 (some (.ref a)))[1]? = some (some (V.ref a)) := List.getElem?_set_self hσ
      unfold tRet tTup tCons
      refine xf_qi h1 hS.xd hv ⟨.ref a, h1, C, dd, e, us, ρ, M, wd, d', rfl, hz, hf, hX, hS, hw, hd, fun ρ' v' H1 x S' r => ⟨line_of (by simp), fun p hp => ?_⟩⟩
      have en := Ext.new (o := .tup [.str wd, v']) S' hp
      exact hQ ρ' (.ref p) _ (x.trans en) (S'.new hp) (.tup (TpA.of upd_same) (.two (.str _) (r.mono en)))
    · exact h
theorem sc__law_bag : FnScope ["_law_script_here", "_law_mix", "_law_figure"] ["_law_script_here"] (defScope s__law_bag) := ⟨rfl, rfl, rfl, by decide +kernel, rfl, by decide +kernel, by decide +kernel⟩
def B__law_bag : DS := (dSeq (dSet 1 (dC (.int 3804)))
      (dSeq (dForS (tgName 2) (dIter2 (dSl (dVar 0) dNoPart (dPart (dC (.int 63))))) (dSet 1 (dBin gMod (dBin gAdd (dBin gAdd (dBin gMul (dVar 1) (dC (.int 39373))) (dBin gMod (dVar 2) (dC (.int 2147483563)))) (dC (.int 29))) (dC (.int 2147483563)))))
      (dRet (dLstC (dConsA (dCallB gList (dConsA (dSl (dVar 0) dNoPart (dPart (dC (.int 63)))) dNilA)) (dConsA (dC (.int 0)) (dConsA (dC (.int 0)) (dConsA (dVar 1) (dConsA (dC (.int 0)) dNilA)))))))))
def F__law_bag : DF := (runF 3 1 B__law_bag)
theorem ok__law_bag (T : Txt K mg) (tb : ∀ p ∈ T.cts, LamX.TabB base mg p.1 p.2) : FnOk P w K mg base CX0 1 T.a__law_bag T.d__law_bag ["_law_script_here"] (spD ⟨K, T.cl⟩ F__law_bag) :=
  fnok T.f__law_bag sc__law_bag fun cdv A outer s H E hr =>
    (ss_cons (ss_let 1 sc__law_bag.nd se_int)
      (ss_cons (ss_forS PassesOwn.never rfl (si2_iter (se_slice (se_v 0) so_none (so_some se_int))) (sg_v 2 sc__law_bag.nd) (ss_one (ss_let 1 sc__law_bag.nd (se_mod (se_add (se_add (se_mul (se_v 1) se_int) (se_mod (se_v 2) se_int)) se_int) se_int))))
      (ss_one (ss_ret (se_lstC (sa_cons (se_callTy call_list_of cs_list rfl T.b_list (by decide +kernel) (sa_cons (se_slice (se_v 0) so_none (so_some se_int)) sa_nil)) (sa_cons se_int (sa_cons se_int (sa_cons (se_v 1) (sa_cons se_int sa_nil))))))))))
theorem sc__law_pull : FnScope ["_law_bag_here", "_law_size", "_law_mix", "_law_figure", "_law_found"] ["_law_bag_here", "_law_size"] (defScope s__law_pull) := ⟨rfl, rfl, rfl, by decide +kernel, rfl, by decide +kernel, by decide +kernel⟩
def B__law_pull : DS := (dSeq (dSetIx (dVar 0) (dC (.int 4)) (dBin gAdd (dBin gIx (dVar 0) (dC (.int 4))) (dC (.int 1))))
      (dSeq (dIf (dAnd (dB (dBin (gEq false) (dBin gIx (dVar 0) (dC (.int 2))) (dC (.int 0)))) (dB (dBin gLt (dBin gIx (dVar 0) (dC (.int 1))) (dCallB gLen (dConsA (dBin gIx (dVar 0) (dC (.int 0))) dNilA))))) (dSeq (dSet 3 (dBin gIx (dBin gIx (dVar 0) (dC (.int 0))) (dBin gIx (dVar 0) (dC (.int 1)))))
      (dSeq (dSetIx (dVar 0) (dC (.int 1)) (dBin gAdd (dBin gIx (dVar 0) (dC (.int 1))) (dC (.int 1))))
      (dIf (dB (dBin gGe (dVar 3) (dBin gPow (dC (.int 10)) (dC (.int 18))))) (dSetIx (dVar 0) (dC (.int 2)) (dVar 3)) (dSeq (dSet 2 (dBin gAdd (dBin gMul (dBin gIx (dVar 0) (dC (.int 3))) (dC (.int 48271))) (dBin gMul (dBin gMod (dVar 3) (dC (.int 2147483563))) (dC (.int 69621)))))
      (dSetIx (dVar 0) (dC (.int 3)) (dBin gMod (dBin gAdd (dVar 2) (dC (.int 11))) (dC (.int 2147483563)))))))) dSkip)
      (dSeq (dIf (dB (dBin gGt (dBin gIx (dVar 0) (dC (.int 2))) (dC (.int 0)))) (dSeq (dSet 4 (dBin gMod (dBin gIx (dVar 0) (dC (.int 2))) (dVar 1)))
      (dSeq (dSetIx (dVar 0) (dC (.int 2)) (dBin gDivW (dBin gIx (dVar 0) (dC (.int 2))) (dVar 1)))
      (dRet (dVar 4)))) dSkip)
      (dSeq (dSet 2 (dBin gAdd (dBin gMul (dBin gMul (dBin gIx (dVar 0) (dC (.int 3))) (dBin gIx (dVar 0) (dC (.int 3)))) (dC (.int 5))) (dBin gMul (dBin gIx (dVar 0) (dC (.int 3))) (dC (.int 39373)))))
      (dSeq (dSetIx (dVar 0) (dC (.int 3)) (dBin gMod (dBin gAdd (dVar 2) (dBin gMul (dC (.int 1013904223)) (dBin gIx (dVar 0) (dC (.int 4))))) (dC (.int 2147483563))))
      (dRet (dBin gMod (dBin gDivW (dBin gIx (dVar 0) (dC (.int 3))) (dC (.int 37))) (dVar 1))))))))
def F__law_pull : DF := (runF 5 2 B__law_pull)
theorem ok__law_pull (T : Txt K mg) (tb : ∀ p ∈ T.cts, LamX.TabB base mg p.1 p.2) : FnOk P w K mg base CX0 1 T.a__law_pull T.d__law_pull ["_law_bag_here", "_law_size"] (spD ⟨K, T.cl⟩ F__law_pull) :=
  fnok T.f__law_pull sc__law_pull fun cdv A outer s H E hr =>
    (ss_cons (ss_setIx (se_v 0) se_int (se_add (se_at (se_v 0) se_int) se_int) (pg_sub (se_v 0) se_int set_list))
      (ss_cons (ss_if (SW.st (sw_and (st_eq hr (se_at (se_v 0) se_int) se_int) (sw_and1 (st_lt (se_at (se_v 0) se_int) (se_callB call_len_seq cs_len rfl T.b_len (by decide +kernel) (sa_cons (se_at (se_v 0) se_int) sa_nil)))))) (ss_cons (ss_let 3 sc__law_pull.nd (se_at (se_at (se_v 0) se_int) (se_at (se_v 0) se_int)))
      (ss_cons (ss_setIx (se_v 0) se_int (se_add (se_at (se_v 0) se_int) se_int) (pg_sub (se_v 0) se_int set_list))
      (ss_one (ss_if (st_ge (se_v 3) (se_pow se_int se_int)) (ss_one (ss_setIx (se_v 0) se_int (se_v 3) (pg_sub (se_v 0) se_int set_list))) (ss_cons (ss_let 2 sc__law_pull.nd (se_add (se_mul (se_at (se_v 0) se_int) se_int) (se_mul (se_mod (se_v 3) se_int) se_int)))
      (ss_one (ss_setIx (se_v 0) se_int (se_mod (se_add (se_v 2) se_int) se_int) (pg_sub (se_v 0) se_int set_list)))))))) ss_nil)
      (ss_cons (ss_if (st_gt (se_at (se_v 0) se_int) se_int) (ss_cons (ss_let 4 sc__law_pull.nd (se_mod (se_at (se_v 0) se_int) (se_v 1)))
      (ss_cons (ss_setIx (se_v 0) se_int (se_divW (se_at (se_v 0) se_int) (se_v 1)) (pg_sub (se_v 0) se_int set_list))
      (ss_one (ss_ret (se_v 4))))) ss_nil)
      (ss_cons (ss_let 2 sc__law_pull.nd (se_add (se_mul (se_mul (se_at (se_v 0) se_int) (se_at (se_v 0) se_int)) se_int) (se_mul (se_at (se_v 0) se_int) se_int)))
      (ss_cons (ss_setIx (se_v 0) se_int (se_mod (se_add (se_v 2) (se_mul se_int (se_at (se_v 0) se_int))) se_int) (pg_sub (se_v 0) se_int set_list))
      (ss_one (ss_ret (se_mod (se_divW (se_at (se_v 0) se_int) se_int) (se_v 1)))))))))
theorem sc__law_of : FnScope ["_law_bag_here", "_law_some"] ["_law_bag_here", "_law_some"] (defScope s__law_of) := ⟨rfl, rfl, rfl, by decide +kernel, rfl, by decide +kernel, by decide +kernel⟩
def B__law_of : DS := (dRet (dBin gIx (dVar 1) (dCall F__law_pull (dConsA (dVar 0) (dConsA (dCallB gLen (dConsA (dVar 1) dNilA)) dNilA)))))
def F__law_of : DF := (runF 2 2 B__law_of)
theorem ok__law_of (T : Txt K mg) (tb : ∀ p ∈ T.cts, LamX.TabB base mg p.1 p.2) : FnOk P w K mg base CX0 2 T.a__law_of T.d__law_of ["_law_bag_here", "_law_some"] (spD ⟨K, T.cl⟩ F__law_of) :=
  fnok T.f__law_of sc__law_of fun cdv A outer s H E hr =>
    (ss_one (ss_ret (se_at (se_v 1) (se_call (ok__law_pull T tb) (hr.mono (by decide)) rfl T.g__law_pull T.p__law_pull T.n__law_pull (sa_cons (se_v 0) (sa_cons (se_callB call_len_seq cs_len rfl T.b_len (by decide +kernel) (sa_cons (se_v 1) sa_nil)) sa_nil))))))
theorem sc__law_command : FnScope ["_law_bag_here", "_law_far", "_law_at"] ["_law_bag_here", "_law_far"] (defScope s__law_command) := ⟨rfl, rfl, rfl, by decide +kernel, rfl, by decide +kernel, by decide +kernel⟩
def B__law_command : DS := (dSeq (dSet 2 (dCall F__law_pull (dConsA (dVar 0) (dConsA (dCall F__law_of (dConsA (dVar 0) (dConsA (dLst (dConsA (dC (.int 4)) (dConsA (dC (.int 9)) (dConsA (dVar 1) dNilA)))) dNilA))) dNilA))))
      (dSeq (dIf (dB (dBin (gEq false) (dCall F__law_pull (dConsA (dVar 0) (dConsA (dC (.int 2)) dNilA))) (dC (.int 0)))) (dRet (dTup (dConsA (dC (.str "insert")) (dConsA (dVar 2) (dConsA (dCall F__law_of (dConsA (dVar 0) (dConsA (dLst (dConsA (dC (.int 1)) (dConsA (dC (.int 1)) (dConsA (dC (.int 2)) (dConsA (dC (.int 3)) dNilA))))) dNilA))) dNilA))))) dSkip)
      (dRet (dTup (dConsA (dC (.str "delete")) (dConsA (dVar 2) (dConsA (dBin gAdd (dVar 2) (dCall F__law_of (dConsA (dVar 0) (dConsA (dLst (dConsA (dC (.int 0)) (dConsA (dC (.int 0)) (dConsA (dC (.int 1)) (dConsA (dC (.int 3)) dNilA))))) dNilA)))) dNilA)))))))
def F__law_command : DF := (runF 3 2 B__law_command)
theorem ok__law_command (T : Txt K mg) (tb : ∀ p ∈ T.cts, LamX.TabB base mg p.1 p.2) : FnOk P w K mg base CX0 3 T.a__law_command T.d__law_command ["_law_bag_here", "_law_far"] (spD ⟨K, T.cl⟩ F__law_command) :=
  fnok T.f__law_command sc__law_command fun cdv A outer s H E hr =>
    (ss_cons (ss_let 2 sc__law_command.nd (se_call (ok__law_pull T tb) (hr.mono (by decide)) rfl T.g__law_pull T.p__law_pull T.n__law_pull (sa_cons (se_v 0) (sa_cons (se_call (ok__law_of T tb) (hr.mono (by decide)) rfl T.g__law_of T.p__law_of T.n__law_of (sa_cons (se_v 0) (sa_cons (se_lst (sa_cons se_int (sa_cons se_int (sa_cons (se_v 1) sa_nil)))) sa_nil))) sa_nil))))
      (ss_cons (ss_if (st_eq hr (se_call (ok__law_pull T tb) (hr.mono (by decide)) rfl T.g__law_pull T.p__law_pull T.n__law_pull (sa_cons (se_v 0) (sa_cons se_int sa_nil))) se_int) (ss_one (ss_ret (se_tup (sa_cons se_str (sa_cons (se_v 2) (sa_cons (se_call (ok__law_of T tb) (hr.mono (by decide)) rfl T.g__law_of T.p__law_of T.n__law_of (sa_cons (se_v 0) (sa_cons (se_lst (sa_cons se_int (sa_cons se_int (sa_cons se_int (sa_cons se_int sa_nil))))) sa_nil))) sa_nil)))))) ss_nil)
      (ss_one (ss_ret (se_tup (sa_cons se_str (sa_cons (se_v 2) (sa_cons (se_add (se_v 2) (se_call (ok__law_of T tb) (hr.mono (by decide)) rfl T.g__law_of T.p__law_of T.n__law_of (sa_cons (se_v 0) (sa_cons (se_lst (sa_cons se_int (sa_cons se_int (sa_cons se_int (sa_cons se_int sa_nil))))) sa_nil)))) sa_nil))))))))
theorem sc__law_script : FnScope ["_law_bag_here", "_law_most", "_law_k"] ["_law_bag_here", "_law_most"] (defScope s__law_script) := ⟨rfl, rfl, rfl, by decide +kernel, rfl, by decide +kernel, by decide +kernel⟩
def B__law_script : DS := (dRet (dLcC [2] (tgName 2) (dRng1 (dConsA (dCall F__law_pull (dConsA (dVar 0) (dConsA (dBin gAdd (dVar 1) (dC (.int 1))) dNilA))) dNilA)) dYes (dCall F__law_command (dConsA (dVar 0) (dConsA (dC (.int 12)) dNilA)))))
def F__law_script : DF := (runF 3 2 B__law_script)
theorem ok__law_script (T : Txt K mg) (tb : ∀ p ∈ T.cts, LamX.TabB base mg p.1 p.2) : FnOk P w K mg base CX0 4 T.a__law_script T.d__law_script ["_law_bag_here", "_law_most"] (spD ⟨K, T.cl⟩ F__law_script) :=
  fnok T.f__law_script sc__law_script fun cdv A outer s H E hr =>
    (ss_one (ss_ret (se_lcC (own := [("_law_k", 2)]) rfl sc__law_script.nd (si_range1 rfl T.b_range (sa_cons (se_call (ok__law_pull T tb) (hr.mono (by decide)) rfl T.g__law_pull T.p__law_pull T.n__law_pull (sa_cons (se_v 0) (sa_cons (se_add (se_v 1) se_int) sa_nil))) sa_nil)) (blkOk_by (N := ["_law_bag_here", "_law_most", "_law_k"]) (sc := defScope s__law_script) (by decide +kernel)) (fun _ _ _ _ _ => pg_name (i := 2) sc__law_script.nd rfl (Or.inl rfl)) (tgok_name (by decide)) (fun _ _ _ _ _ => pts_yes) (fun _ _ _ _ _ => (se_call (ok__law_command T tb) (hr.mono (by decide)) rfl T.g__law_command T.p__law_command T.n__law_command (sa_cons (se_v 0) (sa_cons se_int sa_nil)))))))
theorem sc_is_number : FnScope ["value"] ["value"] (defScope s_is_number) := ⟨rfl, rfl, rfl, by decide +kernel, rfl, by decide +kernel, by decide +kernel⟩
def B_is_number : DS := (dRet (dAndV (dUn (gIsi "int") (dVar 0)) (dNotV (dUn (gIsi "bool") (dVar 0)))))
def F_is_number : DF := (runF 1 1 B_is_number)
theorem ok_is_number (T : Txt K mg) (tb : ∀ p ∈ T.cts, LamX.TabB base mg p.1 p.2) : FnOk P w K mg base CX0 1 T.a_is_number T.d_is_number ["value"] (spD ⟨K, T.cl⟩ F_is_number) :=
  fnok T.f_is_number sc_is_number fun cdv A outer s H E hr =>
    (ss_one (ss_ret (se_and (se_isi (T := "int") rfl T.b_isinstance rfl T.b_int (by decide +kernel) (se_v 0)) (se_one (se_not (se_isi (T := "bool") rfl T.b_isinstance rfl T.b_bool (by decide +kernel) (se_v 0)))))))
theorem sc_are_numbers : FnScope ["values", "many", "value"] ["values", "many"] (defScope s_are_numbers) := ⟨rfl, rfl, rfl, by decide +kernel, rfl, by decide +kernel, by decide +kernel⟩
def B_are_numbers : DS := (dRet (dAndV (dBin (gEq false) (dCallB gLen (dConsA (dVar 0) dNilA)) (dVar 1)) (dCallB gAll (dConsA (dLc [2] (tgName 2) (dIter (dVar 0)) dYes (dCall F_is_number (dConsA (dVar 2) dNilA))) dNilA))))
def F_are_numbers : DF := (runF 3 2 B_are_numbers)
theorem ok_are_numbers (T : Txt K mg) (tb : ∀ p ∈ T.cts, LamX.TabB base mg p.1 p.2) : FnOk P w K mg base CX0 2 T.a_are_numbers T.d_are_numbers ["values", "many"] (spD ⟨K, T.cl⟩ F_are_numbers) :=
  fnok T.f_are_numbers sc_are_numbers fun cdv A outer s H E hr =>
    (ss_one (ss_ret (se_and (se_eq hr (se_callB call_len_seq cs_len rfl T.b_len (by decide +kernel) (sa_cons (se_v 0) sa_nil)) (se_v 1)) (se_one (se_callB (cr_all rfl) cs_all rfl T.b_all (by decide +kernel) (sa_cons (se_lc (own := [("value", 2)]) rfl sc_are_numbers.nd (si_iter (se_v 0)) (blkOk_by (N := ["values", "many", "value"]) (sc := defScope s_are_numbers) (by decide +kernel)) (fun _ _ _ _ _ => pg_name (i := 2) sc_are_numbers.nd rfl (Or.inl rfl)) (tgok_name (by decide)) (fun _ _ _ _ _ => pts_yes) (fun _ _ _ _ _ => (se_call (ok_is_number T tb) (hr.mono (by decide)) rfl T.g_is_number T.p_is_number T.n_is_number (sa_cons (se_v 2) sa_nil)))) sa_nil))))))
theorem sc_is_command : FnScope ["item", "word", "number", "other"] ["item"] (defScope s_is_command) := ⟨rfl, rfl, rfl, by decide +kernel, rfl, by decide +kernel, by decide +kernel⟩
def B_is_command : DS := (dSeq (dIf (dOr (dNot (dTru (dUn (gIsi "tuple") (dVar 0)))) (dNot (dTru (dCall F_are_numbers (dConsA (dSl (dVar 0) (dPart (dC (.int 1))) dNoPart) (dConsA (dC (.int 2)) dNilA)))))) (dRet (dC (.bl false))) dSkip)
      (dSeq (dAsg (tgTup [1, 2, 3]) (dVar 0))
      (dSeq (dIf (dB (dBin (gEq false) (dVar 1) (dC (.str "insert")))) (dRet (dAndV (dBin gGe (dVar 2) (dC (.int 0))) (dBin gGe (dVar 3) (dC (.int 1))))) dSkip)
      (dRet (dAndV (dBin (gEq false) (dVar 1) (dC (.str "delete"))) (dChain gLe gLe (dC (.int 0)) (dVar 2) (dVar 3)))))))
def F_is_command : DF := (runF 4 1 B_is_command)
theorem ok_is_command (T : Txt K mg) (tb : ∀ p ∈ T.cts, LamX.TabB base mg p.1 p.2) : FnOk P w K mg base CX0 3 T.a_is_command T.d_is_command ["item"] (spD ⟨K, T.cl⟩ F_is_command) :=
  fnok T.f_is_command sc_is_command fun cdv A outer s H E hr =>
    (ss_cons (ss_if (SW.st (sw_or (st_not (st_val (se_isi (T := "tuple") rfl T.b_isinstance rfl T.b_tuple (by decide +kernel) (se_v 0)))) (sw_or1 (st_not (st_val (se_call (ok_are_numbers T tb) (hr.mono (by decide)) rfl T.g_are_numbers T.p_are_numbers T.n_are_numbers (sa_cons (se_slice (se_v 0) (so_some se_int) so_none) (sa_cons se_int sa_nil)))))))) (ss_one (ss_ret se_bl)) ss_nil)
      (ss_cons (ss_asg (se_v 0) (sg_tup (is := [1, 2, 3]) rfl (pgs_cons (pg_name (i := 1) sc_is_command.nd rfl (by first | exact Or.inl rfl | exact Or.inr rfl)) (pgs_cons (pg_name (i := 2) sc_is_command.nd rfl (by first | exact Or.inl rfl | exact Or.inr rfl)) (pgs_cons (pg_name (i := 3) sc_is_command.nd rfl (by first | exact Or.inl rfl | exact Or.inr rfl)) pgs_nil))) rfl))
      (ss_cons (ss_if (st_eq hr (se_v 1) se_str) (ss_one (ss_ret (se_and (se_ge (se_v 2) se_int) (se_one (se_ge (se_v 3) se_int))))) ss_nil)
      (ss_one (ss_ret (se_and (se_eq hr (se_v 1) se_str) (se_one (se_chain op_le ops_intB op_le ops_intB se_int (se_v 2) (se_v 3)))))))))
theorem sc_check_script : FnScope ["script", "at", "item"] ["script"] (defScope s_check_script) := ⟨rfl, rfl, rfl, by decide +kernel, rfl, by decide +kernel, by decide +kernel⟩
def B_check_script : DS := (dForS (tgTup [1, 2]) (dEnum2 (dVar 0)) (dIf (dNot (dTru (dCall F_is_command (dConsA (dVar 2) dNilA)))) dBad dSkip))
def F_check_script : DF := (runF 3 1 B_check_script)
theorem ok_check_script (T : Txt K mg) (tb : ∀ p ∈ T.cts, LamX.TabB base mg p.1 p.2) : FnOk P w K mg base CX0 4 T.a_check_script T.d_check_script ["script"] (spD ⟨K, T.cl⟩ F_check_script) :=
  fnok T.f_check_script sc_check_script fun cdv A outer s H E hr =>
    (ss_one (ss_forS PassesOwn.never rfl (si2_enum rfl T.b_enumerate (se_v 0)) (sg_tup (is := [1, 2]) rfl (pgs_cons (pg_name (i := 1) sc_check_script.nd rfl (by first | exact Or.inl rfl | exact Or.inr rfl)) (pgs_cons (pg_name (i := 2) sc_check_script.nd rfl (by first | exact Or.inl rfl | exact Or.inr rfl)) pgs_nil)) rfl) (ss_one (ss_if (st_not (st_val (se_call (ok_is_command T tb) (hr.mono (by decide)) rfl T.g_is_command T.p_is_command T.n_is_command (sa_cons (se_v 2) sa_nil)))) (ss_one ss_never) ss_nil))))
theorem sc_script_text : FnScope ["script", "word", "number", "other"] ["script"] (defScope s_script_text) := ⟨rfl, rfl, rfl, by decide +kernel, rfl, by decide +kernel, by decide +kernel⟩
def B_script_text : DS := (dSeq (dDrop (dCall F_check_script (dConsA (dVar 0) dNilA)))
      (dRet (dJoin (dC (.str "")) (dLc2 [1, 2, 3] (tgTup [1, 2, 3]) (dIter2 (dVar 0)) dYes (dJs [(dFmt (dVar 1)), (dC (.str " ")), (dFmt (dVar 2)), (dC (.str " ")), (dFmt (dVar 3)), (dC (.str "\n"))] Str.empty)))))
def F_script_text : DF := (runF 4 1 B_script_text)
theorem ok_script_text (T : Txt K mg) (tb : ∀ p ∈ T.cts, LamX.TabB base mg p.1 p.2) : FnOk P w K mg base CX0 5 T.a_script_text T.d_script_text ["script"] (spD ⟨K, T.cl⟩ F_script_text) :=
  fnok T.f_script_text sc_script_text fun cdv A outer s H E hr =>
    (ss_cons (ss_expr (se_call (ok_check_script T tb) (hr.mono (by decide)) rfl T.g_check_script T.p_check_script T.n_check_script (sa_cons (se_v 0) sa_nil)))
      (ss_one (ss_ret (se_join se_str (se_lc2 (own := [("word", 1), ("number", 2), ("other", 3)]) rfl sc_script_text.nd (si2_iter (se_v 0)) (blkOk_by (N := ["script", "word", "number", "other"]) (sc := defScope s_script_text) (by decide +kernel)) (fun _ _ _ _ _ => pg_tup rfl (pgs_cons (pg_name (i := 1) sc_script_text.nd rfl (Or.inl rfl)) (pgs_cons (pg_name (i := 2) sc_script_text.nd rfl (Or.inl rfl)) (pgs_cons (pg_name (i := 3) sc_script_text.nd rfl (Or.inl rfl)) pgs_nil)))) (tgok_tup (is := [1, 2, 3]) (by decide) rfl) (fun _ _ _ _ _ => pts_yes) (fun _ _ _ _ _ => (se_joined (.cons (se_fmt (se_v 1)) (.cons se_str (.cons (se_fmt (se_v 2)) (.cons se_str (.cons (se_fmt (se_v 3)) (.cons se_str .nil)))))))))))))
theorem sc_read_number : FnScope ["text"] ["text"] (defScope s_read_number) := ⟨rfl, rfl, rfl, by decide +kernel, rfl, by decide +kernel, by decide +kernel⟩
def B_read_number : DS := (dSeq (dIf (dOr (dNot (dTru (dM0 (fun a => .bl (Txt.isdigit a)) (dVar 0)))) (dB (dBin gGt (dCallB gLenS (dConsA (dVar 0) dNilA)) (dC (.int 18))))) (dRet (dC .non)) dSkip)
      (dSeq (dIf (dAnd (dB (dBin (gEq false) (dBin gIxS (dVar 0) (dC (.int 0))) (dC (.str "0")))) (dB (dBin (gEq true) (dVar 0) (dC (.str "0"))))) (dRet (dC .non)) dSkip)
      (dRet (dCallB gIntT (dConsA (dVar 0) dNilA)))))
def F_read_number : DF := (runF 1 1 B_read_number)
theorem ok_read_number (T : Txt K mg) (tb : ∀ p ∈ T.cts, LamX.TabB base mg p.1 p.2) : FnOk P w K mg base CX0 1 T.a_read_number T.d_read_number ["text"] (spD ⟨K, T.cl⟩ F_read_number) :=
  fnok T.f_read_number sc_read_number fun cdv A outer s H E hr =>
    (ss_cons (ss_if (SW.st (sw_or (st_not (st_val (se_isdigit (se_v 0)))) (sw_or1 (st_gt (se_callB call_len_str cs_lenS rfl T.b_len (by decide +kernel) (sa_cons (se_v 0) sa_nil)) (se_const (pe_glob (v := .int 18) rfl T.c_MOST_DIGITS ⟨_, rfl⟩) (fun _ _ => .int 18)))))) (ss_one (ss_ret se_non)) ss_nil)
      (ss_cons (ss_if (SW.st (sw_and (st_eq hr (se_atS (se_v 0) se_int) se_str) (sw_and1 (st_ne hr (se_v 0) se_str)))) (ss_one (ss_ret se_non)) ss_nil)
      (ss_one (ss_ret (se_callTy call_int_str cs_intT rfl T.b_int (by decide +kernel) (sa_cons (se_v 0) sa_nil))))))
theorem sc_read_command : FnScope ["line", "words", "command"] ["line"] (defScope s_read_command) := ⟨rfl, rfl, rfl, by decide +kernel, rfl, by decide +kernel, by decide +kernel⟩
def B_read_command : DS := (dSeq (dSet 1 (dM1 gSplit (dVar 0) (dC (.str " "))))
      (dSeq (dIf (dB (dBin (gEq true) (dCallB gLen (dConsA (dVar 1) dNilA)) (dC (.int 3)))) (dRet (dC .non)) dSkip)
      (dSeq (dSet 2 (dTup (dConsA (dBin gIx (dVar 1) (dC (.int 0))) (dConsA (dCall F_read_number (dConsA (dBin gIx (dVar 1) (dC (.int 1))) dNilA)) (dConsA (dCall F_read_number (dConsA (dBin gIx (dVar 1) (dC (.int 2))) dNilA)) dNilA)))))
      (dRet (dIfE (dTru (dCall F_is_command (dConsA (dVar 2) dNilA))) (dVar 2) (dC .non))))))
def F_read_command : DF := (runF 3 1 B_read_command)
theorem ok_read_command (T : Txt K mg) (tb : ∀ p ∈ T.cts, LamX.TabB base mg p.1 p.2) : FnOk P w K mg base CX0 4 T.a_read_command T.d_read_command ["line"] (spD ⟨K, T.cl⟩ F_read_command) :=
  fnok T.f_read_command sc_read_command fun cdv A outer s H E hr =>
    (ss_cons (ss_let 1 sc_read_command.nd (se_split (se_v 0) se_str))
      (ss_cons (ss_if (st_ne hr (se_callB call_len_seq cs_len rfl T.b_len (by decide +kernel) (sa_cons (se_v 1) sa_nil)) se_int) (ss_one (ss_ret se_non)) ss_nil)
      (ss_cons (ss_let 2 sc_read_command.nd (se_tup (sa_cons (se_at (se_v 1) se_int) (sa_cons (se_call (ok_read_number T tb) (hr.mono (by decide)) rfl T.g_read_number T.p_read_number T.n_read_number (sa_cons (se_at (se_v 1) se_int) sa_nil)) (sa_cons (se_call (ok_read_number T tb) (hr.mono (by decide)) rfl T.g_read_number T.p_read_number T.n_read_number (sa_cons (se_at (se_v 1) se_int) sa_nil)) sa_nil)))))
      (ss_one (ss_ret (se_if (st_val (se_call (ok_is_command T tb) (hr.mono (by decide)) rfl T.g_is_command T.p_is_command T.n_is_command (sa_cons (se_v 2) sa_nil))) (se_v 2) se_non))))))
theorem sc_parse_script : FnScope ["text", "lines", "rest", "script", "line"] ["text"] (defScope s_parse_script) := ⟨rfl, rfl, rfl, by decide +kernel, rfl, by decide +kernel, by decide +kernel⟩
def B_parse_script : DS := (dThaw2 (dSet 1 (dSplitC (dVar 0) (dC (.str "\n")))) (dSet 2 (dLm gPop (dVar 1) dNilA))
      (dSeq (dSet 3 (dLc [4] (tgName 4) (dIter (dVar 1)) dYes (dCall F_read_command (dConsA (dVar 4) dNilA))))
      (dSeq (dIf (dB (dBin (gIn false) (dC .non) (dVar 3))) dBad dSkip)
      (dSeq (dIf (dB (dBin (gEq true) (dVar 2) (dC (.str "")))) dBad dSkip)
      (dRet (dVar 3))))))
def F_parse_script : DF := (runF 5 1 B_parse_script)
theorem ok_parse_script (T : Txt K mg) (tb : ∀ p ∈ T.cts, LamX.TabB base mg p.1 p.2) : FnOk P w K mg base CX0 5 T.a_parse_script T.d_parse_script ["text"] (spD ⟨K, T.cl⟩ F_parse_script) :=
  fnok T.f_parse_script sc_parse_script fun cdv A outer s H E hr =>
    (ss_thaw (ss_let 1 sc_parse_script.nd (se_splitC (se_v 0) se_str)) (ss_let 2 sc_parse_script.nd (se_pop (se_v 1)))
      (ss_cons (ss_setLc (i := 3) (own := [("line", 4)]) rfl sc_parse_script.nd rfl rfl (sw_true rfl rfl rfl (by decide +kernel)) (si_iter (se_v 1)) (blkOk_by (N := ["text", "lines", "rest", "script", "line"]) (sc := defScope s_parse_script) (by decide +kernel)) (fun _ _ _ _ _ => pg_name (i := 4) sc_parse_script.nd rfl (Or.inl rfl)) (tgok_name (by decide)) (fun _ _ _ _ _ => pts_yes) (fun _ _ _ _ _ => (se_call (ok_read_command T tb) (hr.mono (by decide)) rfl T.g_read_command T.p_read_command T.n_read_command (sa_cons (se_v 4) sa_nil))))
      (ss_cons (ss_if (st_in hr se_non (se_v 3)) (ss_one ss_never) ss_nil)
      (ss_cons (ss_if (st_ne hr (se_v 2) se_str) (ss_one ss_never) ss_nil)
      (ss_one (ss_ret (se_v 3)))))))
theorem sc__law_like : FnScope ["_law_found", "_law_due", "_law_k"] ["_law_found", "_law_due"] (defScope s__law_like) := ⟨rfl, rfl, rfl, by decide +kernel, rfl, by decide +kernel, by decide +kernel⟩
def B__law_like (Fr : DF) : DS := (dSeq (dIf (dTru (dUn (gIsi2 "tuple" "list") (dVar 1))) (dSeq (dIf (dOr (dB (dBin (gEq true) (dUn (gIsi "tuple") (dVar 0)) (dUn (gIsi "tuple") (dVar 1)))) (dB (dBin (gEq true) (dUn (gIsi "list") (dVar 0)) (dUn (gIsi "list") (dVar 1))))) (dRet (dC (.bl false))) dSkip)
      (dRet (dAndV (dBin (gEq false) (dCallB gLen (dConsA (dVar 0) dNilA)) (dCallB gLen (dConsA (dVar 1) dNilA))) (dCallB gAll (dConsA (dLc [2] (tgName 2) (dRng1 (dConsA (dCallB gLen (dConsA (dVar 1) dNilA)) dNilA)) dYes (dCall Fr (dConsA (dBin gIx (dVar 0) (dVar 2)) (dConsA (dBin gIx (dVar 1) (dVar 2)) dNilA)))) dNilA))))) dSkip)
      (dSeq (dIf (dOr (dB (dBin (gIs false) (dVar 1) (dC .non))) (dB (dBin (gIs false) (dVar 0) (dC .non)))) (dRet (dAndV (dBin (gIs false) (dVar 1) (dC .non)) (dBin (gIs false) (dVar 0) (dC .non)))) dSkip)
      (dRet (dAndV (dBin (gEq false) (dUn (gIsi "bool") (dVar 0)) (dUn (gIsi "bool") (dVar 1))) (dBin (gEq false) (dVar 0) (dVar 1))))))
def F__law_like : Nat → DF
  | 0 => fun _ _ => .bad
  | k + 1 => runF 3 2 (B__law_like (F__law_like k))
theorem ok__law_like (T : Txt K mg) (tb : ∀ p ∈ T.cts, LamX.TabB base mg p.1 p.2) : ∀ k : Nat, FnOk P w K mg base CX0 (k + 1) T.a__law_like T.d__law_like ["_law_found", "_law_due"] (spD ⟨K, T.cl⟩ (F__law_like k))
  | 0 => ⟨fun _ _ _ _ ⟨_, _, _, _, _, h⟩ => h.elim, fun _ _ _ _ _ _ _ _ _ _ _ _ _ ⟨_, _, _, _, _, h⟩ => h.elim⟩
  | k + 1 => fnok (k := k + 1) T.f__law_like sc__law_like fun cdv A outer s H E hr =>
    (ss_cons (ss_if (st_val (se_isi2 (T := "tuple") (U := "list") rfl T.b_isinstance rfl T.b_tuple (by decide +kernel) rfl T.b_list (by decide +kernel) (se_v 1))) (ss_cons (ss_if (SW.st (sw_or (st_ne hr (se_isi (T := "tuple") rfl T.b_isinstance rfl T.b_tuple (by decide +kernel) (se_v 0)) (se_isi (T := "tuple") rfl T.b_isinstance rfl T.b_tuple (by decide +kernel) (se_v 1))) (sw_or1 (st_ne hr (se_isi (T := "list") rfl T.b_isinstance rfl T.b_list (by decide +kernel) (se_v 0)) (se_isi (T := "list") rfl T.b_isinstance rfl T.b_list (by decide +kernel) (se_v 1)))))) (ss_one (ss_ret se_bl)) ss_nil)
      (ss_one (ss_ret (se_and (se_eq hr (se_callB call_len_seq cs_len rfl T.b_len (by decide +kernel) (sa_cons (se_v 0) sa_nil)) (se_callB call_len_seq cs_len rfl T.b_len (by decide +kernel) (sa_cons (se_v 1) sa_nil))) (se_one (se_callB (cr_all rfl) cs_all rfl T.b_all (by decide +kernel) (sa_cons (se_lc (own := [("_law_k", 2)]) rfl sc__law_like.nd (si_range1 rfl T.b_range (sa_cons (se_callB call_len_seq cs_len rfl T.b_len (by decide +kernel) (sa_cons (se_v 1) sa_nil)) sa_nil)) (blkOk_by (N := ["_law_found", "_law_due", "_law_k"]) (sc := defScope s__law_like) (by decide +kernel)) (fun _ _ _ _ _ => pg_name (i := 2) sc__law_like.nd rfl (Or.inl rfl)) (tgok_name (by decide)) (fun _ _ _ _ _ => pts_yes) (fun _ _ _ _ _ => (se_call (ok__law_like T tb k) (hr.mono (by omega)) rfl T.g__law_like T.p__law_like T.n__law_like (sa_cons (se_at (se_v 0) (se_v 2)) (sa_cons (se_at (se_v 1) (se_v 2)) sa_nil))))) sa_nil))))))) ss_nil)
      (ss_cons (ss_if (SW.st (sw_or (st_is (se_v 1) se_non) (sw_or1 (st_is (se_v 0) se_non)))) (ss_one (ss_ret (se_and (se_is (se_v 1) se_non) (se_one (se_is (se_v 0) se_non))))) ss_nil)
      (ss_one (ss_ret (se_and (se_eq hr (se_isi (T := "bool") rfl T.b_isinstance rfl T.b_bool (by decide +kernel) (se_v 0)) (se_isi (T := "bool") rfl T.b_isinstance rfl T.b_bool (by decide +kernel) (se_v 1))) (se_one (se_eq hr (se_v 0) (se_v 1))))))))
theorem sc__law_bent_text : FnScope ["_law_bag_here", "_law_text", "_law_signs", "_law_at"] ["_law_bag_here", "_law_text", "_law_signs"] (defScope s__law_bent_text) := ⟨rfl, rfl, rfl, by decide +kernel, rfl, by decide +kernel, by decide +kernel⟩
def B__law_bent_text : DS := (dSeq (dSet 3 (dCall F__law_pull (dConsA (dVar 0) (dConsA (dBin gAdd (dCallB gLenS (dConsA (dVar 1) dNilA)) (dC (.int 1))) dNilA))))
      (dSeq (dIf (dB (dBin (gEq false) (dCall F__law_pull (dConsA (dVar 0) (dConsA (dC (.int 8)) dNilA))) (dC (.int 0)))) (dRet (dSlS (dVar 1) dNoPart (dPart (dVar 3)))) dSkip)
      (dRet (dBin gAdd (dBin gAdd (dSlS (dVar 1) dNoPart (dPart (dVar 3))) (dCall F__law_of (dConsA (dVar 0) (dConsA (dVar 2) dNilA)))) (dSlS (dVar 1) (dPart (dBin gAdd (dVar 3) (dCall F__law_pull (dConsA (dVar 0) (dConsA (dC (.int 2)) dNilA))))) dNoPart)))))
def F__law_bent_text : DF := (runF 4 3 B__law_bent_text)
theorem ok__law_bent_text (T : Txt K mg) (tb : ∀ p ∈ T.cts, LamX.TabB base mg p.1 p.2) : FnOk P w K mg base CX0 3 T.a__law_bent_text T.d__law_bent_text ["_law_bag_here", "_law_text", "_law_signs"] (spD ⟨K, T.cl⟩ F__law_bent_text) :=
  fnok T.f__law_bent_text sc__law_bent_text fun cdv A outer s H E hr =>
    (ss_cons (ss_let 3 sc__law_bent_text.nd (se_call (ok__law_pull T tb) (hr.mono (by decide)) rfl T.g__law_pull T.p__law_pull T.n__law_pull (sa_cons (se_v 0) (sa_cons (se_add (se_callB call_len_str cs_lenS rfl T.b_len (by decide +kernel) (sa_cons (se_v 1) sa_nil)) se_int) sa_nil))))
      (ss_cons (ss_if (st_eq hr (se_call (ok__law_pull T tb) (hr.mono (by decide)) rfl T.g__law_pull T.p__law_pull T.n__law_pull (sa_cons (se_v 0) (sa_cons se_int sa_nil))) se_int) (ss_one (ss_ret (se_sliceS (se_v 1) so_none (so_some (se_v 3))))) ss_nil)
      (ss_one (ss_ret (se_add (se_add (se_sliceS (se_v 1) so_none (so_some (se_v 3))) (se_call (ok__law_of T tb) (hr.mono (by decide)) rfl T.g__law_of T.p__law_of T.n__law_of (sa_cons (se_v 0) (sa_cons (se_v 2) sa_nil)))) (se_sliceS (se_v 1) (so_some (se_add (se_v 3) (se_call (ok__law_pull T tb) (hr.mono (by decide)) rfl T.g__law_pull T.p__law_pull T.n__law_pull (sa_cons (se_v 0) (sa_cons se_int sa_nil))))) so_none))))))
def Bx_parse_script : DS := (dThaw2 (dSet 1 (dSplitC (dVar 0) (dC (.str "\n")))) (dSet 2 (dLm gPop (dVar 1) dNilA))
      (dSeq (dSet 3 (dLc [4] (tgName 4) (dIter (dVar 1)) dYes (dCall F_read_command (dConsA (dVar 4) dNilA))))
      (dSeq (dIf (dB (dBin (gIn false) (dC .non) (dVar 3))) (dRaise1 "BadText" "BadText" "at" okIntD (dLm gIdx (dVar 3) (dConsA (dC .non) dNilA))) dSkip)
      (dSeq (dIf (dB (dBin (gEq true) (dVar 2) (dC (.str "")))) (dRaise1 "BadText" "BadText" "at" okIntD (dCallB gLen (dConsA (dVar 1) dNilA))) dSkip)
      (dRet (dVar 3))))))
def Fx_parse_script : DF := runF 5 1 Bx_parse_script
theorem okx_parse_script (T : Txt K mg) (tb : ∀ p ∈ T.cts, LamX.TabB base mg p.1 p.2) : FnOk P w K mg base (L2.CX P w) 6 T.a_parse_script T.d_parse_script ["text"] (spX ⟨K, T.cl⟩ Fx_parse_script) :=
  fnX (k := 5) T.f_parse_script sc_parse_script fun cdv A outer s H E hr tk =>
    (ss_thaw (ss_let 1 sc_parse_script.nd (se_splitC (se_v 0) se_str)) (ss_let 2 sc_parse_script.nd (se_pop (se_v 1)))
      (ss_cons (ss_setLc (i := 3) (own := [("line", 4)]) rfl sc_parse_script.nd rfl rfl (sw_true rfl rfl rfl (by decide +kernel)) (si_iter (se_v 1)) (blkOk_by (N := ["text", "lines", "rest", "script", "line"]) (sc := defScope s_parse_script) (by decide +kernel)) (fun _ _ _ _ _ => pg_name (i := 4) sc_parse_script.nd rfl (Or.inl rfl)) (tgok_name (by decide)) (fun _ _ _ _ _ => pts_yes) (fun _ _ _ _ _ => (se_call (ok_read_command T tb) (hr.mono (by decide)) rfl T.g_read_command T.p_read_command T.n_read_command (sa_cons (se_v 4) sa_nil))))
      (ss_cons (ss_if (st_in hr se_non (se_v 3)) (ss_one (ss_raise1 (okD := okIntD) (fun S r h => okInt_of S r h) rfl tk (T.cl_BadText) T.oc_BadText T.in_BadText T.ti_BadText (okE_BadText T) (hr.mono (by decide)) T.nb_BadText rfl T.g_BadText (se_index hr (se_v 3) se_non))) ss_nil)
      (ss_cons (ss_if (st_ne hr (se_v 2) se_str) (ss_one (ss_raise1 (okD := okIntD) (fun S r h => okInt_of S r h) rfl tk (T.cl_BadText) T.oc_BadText T.in_BadText T.ti_BadText (okE_BadText T) (hr.mono (by decide)) T.nb_BadText rfl T.g_BadText (se_callB call_len_seq cs_len rfl T.b_len (by decide +kernel) (sa_cons (se_v 1) sa_nil)))) ss_nil)
      (ss_one (ss_ret (se_v 3)))))))
theorem sc__law_plain_number : FnScope ["_law_word", "_law_char"] ["_law_word"] (defScope s__law_plain_number) := ⟨rfl, rfl, rfl, by decide +kernel, rfl, by decide +kernel, by decide +kernel⟩
def B__law_plain_number : DS := (dSeq (dIf (dOr (dB (dBin (gEq false) (dVar 0) (dC (.str "")))) (dOr (dB (dBin gGt (dCallB gLenS (dConsA (dVar 0) dNilA)) (dC (.int 18)))) (dNot (dTru (dCallB gAll (dConsA (dLc [1] (tgName 1) (dIterS (dVar 0)) dYes (dBin gInS (dVar 1) (dC (.str "0123456789")))) dNilA)))))) (dRet (dC .non)) dSkip)
      (dRet (dIfE (dAnd (dB (dBin (gEq false) (dBin gIxS (dVar 0) (dC (.int 0))) (dC (.str "0")))) (dB (dBin gGt (dCallB gLenS (dConsA (dVar 0) dNilA)) (dC (.int 1))))) (dC .non) (dCallB gIntT (dConsA (dVar 0) dNilA)))))
def F__law_plain_number : DF := (runF 2 1 B__law_plain_number)
theorem ok__law_plain_number (T : Txt K mg) (tb : ∀ p ∈ T.cts, LamX.TabB base mg p.1 p.2) : FnOk P w K mg base CX0 1 T.a__law_plain_number T.d__law_plain_number ["_law_word"] (spD ⟨K, T.cl⟩ F__law_plain_number) :=
  fnok T.f__law_plain_number sc__law_plain_number fun cdv A outer s H E hr =>
    (ss_cons (ss_if (SW.st (sw_or (st_eq hr (se_v 0) se_str) (sw_or (st_gt (se_callB call_len_str cs_lenS rfl T.b_len (by decide +kernel) (sa_cons (se_v 0) sa_nil)) se_int) (sw_or1 (st_not (st_val (se_callB (cr_all rfl) cs_all rfl T.b_all (by decide +kernel) (sa_cons (se_lc (own := [("_law_char", 1)]) rfl sc__law_plain_number.nd (si_iterS (se_v 0)) (blkOk_by (N := ["_law_word", "_law_char"]) (sc := defScope s__law_plain_number) (by decide +kernel)) (fun _ _ _ _ _ => pg_name (i := 1) sc__law_plain_number.nd rfl (Or.inl rfl)) (tgok_name (by decide)) (fun _ _ _ _ _ => pts_yes) (fun _ _ _ _ _ => (se_inS (se_v 1) se_str))) sa_nil)))))))) (ss_one (ss_ret se_non)) ss_nil)
      (ss_one (ss_ret (se_if (SW.st (sw_and (st_eq hr (se_atS (se_v 0) se_int) se_str) (sw_and1 (st_gt (se_callB call_len_str cs_lenS rfl T.b_len (by decide +kernel) (sa_cons (se_v 0) sa_nil)) se_int)))) se_non (se_callTy call_int_str cs_intT rfl T.b_int (by decide +kernel) (sa_cons (se_v 0) sa_nil))))))
theorem sc__law_due_command : FnScope ["_law_script_here", "_law_k", "_law_command_here"] ["_law_script_here"] (defScope s__law_due_command) := ⟨rfl, rfl, rfl, by decide +kernel, rfl, by decide +kernel, by decide +kernel⟩
def B__law_due_command : DS := (dSeq (dFor (tgName 1) (dRng1 (dConsA (dCallB gLen (dConsA (dVar 0) dNilA)) dNilA)) (dSeq (dSet 2 (dBin gIx (dVar 0) (dVar 1)))
      (dSeq (dIf (dOr (dB (dBin (gEq true) (dCallB gLen (dConsA (dVar 2) dNilA)) (dC (.int 3)))) (dB (dBin (gIn true) (dBin gIx (dVar 2) (dC (.int 0))) (dTup (dConsA (dC (.str "insert")) (dConsA (dC (.str "delete")) dNilA)))))) (dRet (dVar 1)) dSkip)
      (dSeq (dIf (dAnd (dB (dBin (gEq false) (dBin gIx (dVar 2) (dC (.int 0))) (dC (.str "insert")))) (dOr (dB (dBin gLt (dBin gIx (dVar 2) (dC (.int 1))) (dC (.int 0)))) (dB (dBin gLt (dBin gIx (dVar 2) (dC (.int 2))) (dC (.int 1)))))) (dRet (dVar 1)) dSkip)
      (dIf (dAnd (dB (dBin (gEq false) (dBin gIx (dVar 2) (dC (.int 0))) (dC (.str "delete")))) (dNot (dB (dChain gLe gLe (dC (.int 0)) (dBin gIx (dVar 2) (dC (.int 1))) (dBin gIx (dVar 2) (dC (.int 2))))))) (dRet (dVar 1)) dSkip)))))
      (dRet (dC .non)))
def F__law_due_command : DF := (runF 3 1 B__law_due_command)
theorem ok__law_due_command (T : Txt K mg) (tb : ∀ p ∈ T.cts, LamX.TabB base mg p.1 p.2) : FnOk P w K mg base CX0 1 T.a__law_due_command T.d__law_due_command ["_law_script_here"] (spD ⟨K, T.cl⟩ F__law_due_command) :=
  fnok T.f__law_due_command sc__law_due_command fun cdv A outer s H E hr =>
    (ss_cons (ss_for PassesOwn.never rfl (si_range1 rfl T.b_range (sa_cons (se_callB call_len_seq cs_len rfl T.b_len (by decide +kernel) (sa_cons (se_v 0) sa_nil)) sa_nil)) (sg_v 1 sc__law_due_command.nd) (ss_cons (ss_let 2 sc__law_due_command.nd (se_at (se_v 0) (se_v 1)))
      (ss_cons (ss_if (SW.st (sw_or (st_ne hr (se_callB call_len_seq cs_len rfl T.b_len (by decide +kernel) (sa_cons (se_v 2) sa_nil)) se_int) (sw_or1 (st_notin hr (se_at (se_v 2) se_int) (se_tup (sa_cons se_str (sa_cons se_str sa_nil))))))) (ss_one (ss_ret (se_v 1))) ss_nil)
      (ss_cons (ss_if (SW.st (sw_and (st_eq hr (se_at (se_v 2) se_int) se_str) (sw_and1 (SW.st (sw_or (st_lt (se_at (se_v 2) se_int) se_int) (sw_or1 (st_lt (se_at (se_v 2) se_int) se_int))))))) (ss_one (ss_ret (se_v 1))) ss_nil)
      (ss_one (ss_if (SW.st (sw_and (st_eq hr (se_at (se_v 2) se_int) se_str) (sw_and1 (st_not (st_chain op_le ops_intB op_le ops_intB se_int (se_at (se_v 2) se_int) (se_at (se_v 2) se_int)))))) (ss_one (ss_ret (se_v 1))) ss_nil))))))
      (ss_one (ss_ret se_non)))
theorem sc__law_lines_due : FnScope ["_law_text", "_law_lines", "_law_found", "_law_k", "_law_words", "_law_numbers", "_law_command_here", "_law_word"] ["_law_text"] (defScope s__law_lines_due) := ⟨rfl, rfl, rfl, by decide +kernel, rfl, by decide +kernel, by decide +kernel⟩
def B__law_lines_due : DS := (dSeq (dSet 1 (dM1 gSplit (dVar 0) (dC (.str "\n"))))
      (dSeq (dSet 2 (dLstC dNilA))
      (dSeq (dFor (tgName 3) (dRng1 (dConsA (dBin Ip.gSub (dCallB gLen (dConsA (dVar 1) dNilA)) (dC (.int 1))) dNilA)) (dSeq (dSet 4 (dM1 gSplit (dBin gIx (dVar 1) (dVar 3)) (dC (.str " "))))
      (dSeq (dSet 5 (dLc [7] (tgName 7) (dIter (dSl (dVar 4) (dPart (dC (.int 1))) dNoPart)) dYes (dCall F__law_plain_number (dConsA (dVar 7) dNilA))))
      (dSeq (dIf (dOr (dB (dBin (gEq true) (dCallB gLen (dConsA (dVar 4) dNilA)) (dC (.int 3)))) (dB (dBin (gIn false) (dC .non) (dVar 5)))) (dRet (dTup (dConsA (dC (.str "BadText")) (dConsA (dVar 3) dNilA)))) dSkip)
      (dSeq (dSet 6 (dTup (dConsA (dBin gIx (dVar 4) (dC (.int 0))) (dConsA (dBin gIx (dVar 5) (dC (.int 0))) (dConsA (dBin gIx (dVar 5) (dC (.int 1))) dNilA)))))
      (dSeq (dIf (dB (dBin (gIs true) (dCall F__law_due_command (dConsA (dLst (dConsA (dVar 6) dNilA)) dNilA)) (dC .non))) (dRet (dTup (dConsA (dC (.str "BadText")) (dConsA (dVar 3) dNilA)))) dSkip)
      (dDrop (dLm gApp (dVar 2) (dConsA (dVar 6) dNilA)))))))))
      (dRet (dIfE (dB (dBin (gEq false) (dBin gIx (dVar 1) (dUn gNeg (dC (.int 1)))) (dC (.str "")))) (dTup (dConsA (dC (.str "told")) (dConsA (dVar 2) dNilA))) (dTup (dConsA (dC (.str "BadText")) (dConsA (dBin Ip.gSub (dCallB gLen (dConsA (dVar 1) dNilA)) (dC (.int 1))) dNilA))))))))
def F__law_lines_due : DF := frzT (runF 8 1 B__law_lines_due)
theorem ok__law_lines_due (T : Txt K mg) (tb : ∀ p ∈ T.cts, LamX.TabB base mg p.1 p.2) : FnOk P w K mg base CX0 2 T.a__law_lines_due T.d__law_lines_due ["_law_text"] (spD ⟨K, T.cl⟩ F__law_lines_due) :=
  fn_frzT (fnok T.f__law_lines_due sc__law_lines_due fun cdv A outer s H E hr =>
    (ss_cons (ss_let 1 sc__law_lines_due.nd (se_split (se_v 0) se_str))
      (ss_cons (ss_let 2 sc__law_lines_due.nd (se_lstC sa_nil))
      (ss_cons (ss_for PassesOwn.never rfl (si_range1 rfl T.b_range (sa_cons (se_sub (se_callB call_len_seq cs_len rfl T.b_len (by decide +kernel) (sa_cons (se_v 1) sa_nil)) se_int) sa_nil)) (sg_v 3 sc__law_lines_due.nd) (ss_cons (ss_let 4 sc__law_lines_due.nd (se_split (se_at (se_v 1) (se_v 3)) se_str))
      (ss_cons (ss_setLc (i := 5) (own := [("_law_word", 7)]) rfl sc__law_lines_due.nd rfl rfl (sw_true rfl rfl rfl (by decide +kernel)) (si_iter (se_slice (se_v 4) (so_some se_int) so_none)) (blkOk_by (N := ["_law_text", "_law_lines", "_law_found", "_law_k", "_law_words", "_law_numbers", "_law_command_here", "_law_word"]) (sc := defScope s__law_lines_due) (by decide +kernel)) (fun _ _ _ _ _ => pg_name (i := 7) sc__law_lines_due.nd rfl (Or.inl rfl)) (tgok_name (by decide)) (fun _ _ _ _ _ => pts_yes) (fun _ _ _ _ _ => (se_call (ok__law_plain_number T tb) (hr.mono (by decide)) rfl T.g__law_plain_number T.p__law_plain_number T.n__law_plain_number (sa_cons (se_v 7) sa_nil))))
      (ss_cons (ss_if (SW.st (sw_or (st_ne hr (se_callB call_len_seq cs_len rfl T.b_len (by decide +kernel) (sa_cons (se_v 4) sa_nil)) se_int) (sw_or1 (st_in hr se_non (se_v 5))))) (ss_one (ss_ret (se_tup (sa_cons se_str (sa_cons (se_v 3) sa_nil))))) ss_nil)
      (ss_cons (ss_let 6 sc__law_lines_due.nd (se_tup (sa_cons (se_at (se_v 4) se_int) (sa_cons (se_at (se_v 5) se_int) (sa_cons (se_at (se_v 5) se_int) sa_nil)))))
      (ss_cons (ss_if (st_isnot (se_call (ok__law_due_command T tb) (hr.mono (by decide)) rfl T.g__law_due_command T.p__law_due_command T.n__law_due_command (sa_cons (se_lst (sa_cons (se_v 6) sa_nil)) sa_nil)) se_non) (ss_one (ss_ret (se_tup (sa_cons se_str (sa_cons (se_v 3) sa_nil))))) ss_nil)
      (ss_one (ss_expr (se_append (se_v 2) (se_v 6))))))))))
      (ss_one (ss_ret (se_if (st_eq hr (se_at (se_v 1) (se_neg se_int)) se_str) (se_tup (sa_cons se_str (sa_cons (se_v 2) sa_nil))) (se_tup (sa_cons se_str (sa_cons (se_sub (se_callB call_len_seq cs_len rfl T.b_len (by decide +kernel) (sa_cons (se_v 1) sa_nil)) se_int) sa_nil))))))))))
theorem sc__law_odd_command : FnScope ["_law_bag_here", "_law_odd"] ["_law_bag_here"] (defScope s__law_odd_command) := ⟨rfl, rfl, rfl, by decide +kernel, rfl, by decide +kernel, by decide +kernel⟩
def B__law_odd_command : DS := (dSeq (dSet 1 (dLstC (dConsA (dTup (dConsA (dC (.str "insert")) (dConsA (dUn gNeg (dC (.int 1))) (dConsA (dC (.int 1)) dNilA)))) (dConsA (dTup (dConsA (dC (.str "insert")) (dConsA (dC (.int 2)) (dConsA (dC (.int 0)) dNilA)))) (dConsA (dTup (dConsA (dC (.str "insert")) (dConsA (dC (.int 2)) (dConsA (dUn gNeg (dC (.int 3))) dNilA)))) (dConsA (dTup (dConsA (dC (.str "delete")) (dConsA (dC (.int 3)) (dConsA (dC (.int 2)) dNilA)))) (dConsA (dTup (dConsA (dC (.str "delete")) (dConsA (dUn gNeg (dC (.int 1))) (dConsA (dC (.int 2)) dNilA)))) (dConsA (dTup (dConsA (dC (.str "move")) (dConsA (dC (.int 1)) (dConsA (dC (.int 2)) dNilA)))) dNilA))))))))
      (dSeq (dSet 1 (dBin gCatC (dVar 1) (dLst (dConsA (dTup (dConsA (dC (.str "insert")) (dConsA (dC (.int 1)) dNilA))) (dConsA (dTup dNilA) (dConsA (dTup (dConsA (dC (.str "Insert")) (dConsA (dC (.int 1)) (dConsA (dC (.int 1)) dNilA)))) (dConsA (dTup (dConsA (dC (.str "delete")) (dConsA (dC (.int 0)) (dConsA (dC (.int 0)) (dConsA (dC (.int 0)) dNilA))))) (dConsA (dTup (dConsA (dC (.str "delete")) dNilA)) (dConsA (dTup (dConsA (dC (.str "")) (dConsA (dC (.int 1)) (dConsA (dC (.int 1)) dNilA)))) dNilA)))))))))
      (dSeq (dDrop (dLm gApp (dVar 1) (dConsA (dTup (dConsA (dC (.str "insert")) (dConsA (dC (.int 0)) (dConsA (dUn gNeg (dBin gPow (dC (.int 10)) (dC (.int 20)))) dNilA)))) dNilA)))
      (dRet (dCall F__law_of (dConsA (dVar 0) (dConsA (dVar 1) dNilA)))))))
def F__law_odd_command : DF := frz (runF 2 1 B__law_odd_command)
theorem ok__law_odd_command (T : Txt K mg) (tb : ∀ p ∈ T.cts, LamX.TabB base mg p.1 p.2) : FnOk P w K mg base CX0 3 T.a__law_odd_command T.d__law_odd_command ["_law_bag_here"] (spD ⟨K, T.cl⟩ F__law_odd_command) :=
  fn_frz (fnok T.f__law_odd_command sc__law_odd_command fun cdv A outer s H E hr =>
    (ss_cons (ss_let 1 sc__law_odd_command.nd (se_lstC (sa_cons (se_tup (sa_cons se_str (sa_cons (se_neg se_int) (sa_cons se_int sa_nil)))) (sa_cons (se_tup (sa_cons se_str (sa_cons se_int (sa_cons se_int sa_nil)))) (sa_cons (se_tup (sa_cons se_str (sa_cons se_int (sa_cons (se_neg se_int) sa_nil)))) (sa_cons (se_tup (sa_cons se_str (sa_cons se_int (sa_cons se_int sa_nil)))) (sa_cons (se_tup (sa_cons se_str (sa_cons (se_neg se_int) (sa_cons se_int sa_nil)))) (sa_cons (se_tup (sa_cons se_str (sa_cons se_int (sa_cons se_int sa_nil)))) sa_nil))))))))
      (ss_cons (ss_let 1 sc__law_odd_command.nd (se_addC (se_v 1) (se_lst (sa_cons (se_tup (sa_cons se_str (sa_cons se_int sa_nil))) (sa_cons (se_tup sa_nil) (sa_cons (se_tup (sa_cons se_str (sa_cons se_int (sa_cons se_int sa_nil)))) (sa_cons (se_tup (sa_cons se_str (sa_cons se_int (sa_cons se_int (sa_cons se_int sa_nil))))) (sa_cons (se_tup (sa_cons se_str sa_nil)) (sa_cons (se_tup (sa_cons se_str (sa_cons se_int (sa_cons se_int sa_nil)))) sa_nil)))))))))
      (ss_cons (ss_expr (se_append (se_v 1) (se_tup (sa_cons se_str (sa_cons se_int (sa_cons (se_neg (se_pow se_int se_int)) sa_nil))))))
      (ss_one (ss_ret (se_call (ok__law_of T tb) (hr.mono (by decide)) rfl T.g__law_of T.p__law_of T.n__law_of (sa_cons (se_v 0) (sa_cons (se_v 1) sa_nil)))))))))
def Bx_check_script : DS := (dForS (tgTup [1, 2]) (dEnum2 (dVar 0)) (dIf (dNot (dTru (dCall F_is_command (dConsA (dVar 2) dNilA)))) (dRaise1 "BadCommand" "BadCommand" "at" okIntD (dVar 1)) dSkip))
def Fx_check_script : DF := runF 3 1 Bx_check_script
theorem okx_check_script (T : Txt K mg) (tb : ∀ p ∈ T.cts, LamX.TabB base mg p.1 p.2) : FnOk P w K mg base (L2.CX P w) 5 T.a_check_script T.d_check_script ["script"] (spX ⟨K, T.cl⟩ Fx_check_script) :=
  fnX (k := 4) T.f_check_script sc_check_script fun cdv A outer s H E hr tk =>
    (ss_one (ss_forS (passes_of rfl) rfl (si2_enum rfl T.b_enumerate (se_v 0)) (sg_tup (is := [1, 2]) rfl (pgs_cons (pg_name (i := 1) sc_check_script.nd rfl (by first | exact Or.inl rfl | exact Or.inr rfl)) (pgs_cons (pg_name (i := 2) sc_check_script.nd rfl (by first | exact Or.inl rfl | exact Or.inr rfl)) pgs_nil)) rfl) (ss_one (ss_if (st_not (st_val (se_call (ok_is_command T tb) (hr.mono (by decide)) rfl T.g_is_command T.p_is_command T.n_is_command (sa_cons (se_v 2) sa_nil)))) (ss_one (ss_raise1 (okD := okIntD) (fun S r h => okInt_of S r h) rfl tk (T.cl_BadCommand) T.oc_BadCommand T.in_BadCommand T.ti_BadCommand (okE_BadCommand T) (hr.mono (by decide)) T.nb_BadCommand rfl T.g_BadCommand (se_v 1))) ss_nil))))
def Bx_script_text : DS := (dSeq (dDrop (dCallX Fx_check_script (dConsA (dVar 0) dNilA)))
      (dRet (dJoin (dC (.str "")) (dLc2 [1, 2, 3] (tgTup [1, 2, 3]) (dIter2 (dVar 0)) dYes (dJs [(dFmt (dVar 1)), (dC (.str " ")), (dFmt (dVar 2)), (dC (.str " ")), (dFmt (dVar 3)), (dC (.str "\n"))] Str.empty)))))
def Fx_script_text : DF := runF 4 1 Bx_script_text
theorem okx_script_text (T : Txt K mg) (tb : ∀ p ∈ T.cts, LamX.TabB base mg p.1 p.2) : FnOk P w K mg base (L2.CX P w) 6 T.a_script_text T.d_script_text ["script"] (spX ⟨K, T.cl⟩ Fx_script_text) :=
  fnX (k := 5) T.f_script_text sc_script_text fun cdv A outer s H E hr tk =>
    (ss_cons (ss_expr (se_callX tk (okx_check_script T tb) (hr.mono (by decide)) rfl T.g_check_script T.p_check_script T.n_check_script (sa_cons (se_v 0) sa_nil)))
      (ss_one (ss_ret (se_join se_str (se_lc2 (own := [("word", 1), ("number", 2), ("other", 3)]) rfl sc_script_text.nd (si2_iter (se_v 0)) (blkOk_by (N := ["script", "word", "number", "other"]) (sc := defScope s_script_text) (by decide +kernel)) (fun _ _ _ _ _ => pg_tup rfl (pgs_cons (pg_name (i := 1) sc_script_text.nd rfl (Or.inl rfl)) (pgs_cons (pg_name (i := 2) sc_script_text.nd rfl (Or.inl rfl)) (pgs_cons (pg_name (i := 3) sc_script_text.nd rfl (Or.inl rfl)) pgs_nil)))) (tgok_tup (is := [1, 2, 3]) (by decide) rfl) (fun _ _ _ _ _ => pts_yes) (fun _ _ _ _ _ => (se_joined (.cons (se_fmt (se_v 1)) (.cons se_str (.cons (se_fmt (se_v 2)) (.cons se_str (.cons (se_fmt (se_v 3)) (.cons se_str .nil)))))))))))))
theorem sc__law_long_text_right : FnScope ["_law_bag_here", "_law_many", "_law_text"] ["_law_bag_here"] (defScope s__law_long_text_right) := ⟨rfl, rfl, rfl, by decide +kernel, rfl, by decide +kernel, by decide +kernel⟩
def B__law_long_text_right : DS := (dSeq (dSet 1 (dBin gAdd (dC (.int 201)) (dCall F__law_pull (dConsA (dVar 0) (dConsA (dC (.int 200)) dNilA)))))
      (dSeq (dSet 2 (dBin gMulS (dC (.str "insert 3 1\n")) (dVar 1)))
      (dSeq (dIf (dNot (dTru (dCall (F__law_like 4) (dConsA (dCall F_parse_script (dConsA (dVar 2) dNilA)) (dConsA (dBin gMul (dLst (dConsA (dTup (dConsA (dC (.str "insert")) (dConsA (dC (.int 3)) (dConsA (dC (.int 1)) dNilA)))) dNilA)) (dVar 1)) dNilA))))) (dRet (dC (.bl false))) dSkip)
      (dRet (dBin (gEq false) (dTold ["BadText", "BadCommand"] (dCallX Fx_parse_script (dConsA (dBin gAdd (dVar 2) (dC (.str "x\n"))) dNilA))) (dTup (dConsA (dC (.str "BadText")) (dConsA (dVar 1) dNilA))))))))
def F__law_long_text_right : DF := (runF 3 1 B__law_long_text_right)
theorem ok__law_long_text_right (T : Txt K mg) (tb : ∀ p ∈ T.cts, LamX.TabB base mg p.1 p.2) : FnOk P w K mg base CX0 9 T.a__law_long_text_right T.d__law_long_text_right ["_law_bag_here"] (spD ⟨K, T.cl⟩ F__law_long_text_right) :=
  fnokC (k := 8) T.fc__law_long_text_right sc__law_long_text_right fun A outer s H E hr =>
    (ss_cons (ss_let 1 sc__law_long_text_right.nd (se_add se_int (se_call (ok__law_pull T tb) (hr.mono (by decide)) rfl T.g__law_pull T.p__law_pull T.n__law_pull (sa_cons (se_v 0) (sa_cons se_int sa_nil)))))
      (ss_cons (ss_let 2 sc__law_long_text_right.nd (se_mulS se_str (se_v 1)))
      (ss_cons (ss_if (st_not (st_val (se_call (ok__law_like T tb 4) (hr.mono (by decide)) rfl T.g__law_like T.p__law_like T.n__law_like (sa_cons (se_call (ok_parse_script T tb) (hr.mono (by decide)) rfl T.g_parse_script T.p_parse_script T.n_parse_script (sa_cons (se_v 2) sa_nil)) (sa_cons (se_mul (se_lst (sa_cons (se_tup (sa_cons se_str (sa_cons se_int (sa_cons se_int sa_nil)))) sa_nil)) (se_v 1)) sa_nil))))) (ss_one (ss_ret se_bl)) ss_nil)
      (ss_one (ss_ret (se_eq hr (se_told (k := 6) (errs := ["BadText", "BadCommand"]) T.g__law_told T.p__law_told T.fc__law_told T.n__law_told sc__law_told (Or.inl rfl) (gives_told (hr.mono (by decide)) T.g__law_field T.f__law_field T.p__law_field T.n__law_field T.g_SpanError) T.hx (tb (T.c__law_long_text_right, T.t__law_long_text_right) T.cm__law_long_text_right) rfl T.lam T.lam2 T.lam3__law_long_text_right T.lam4__law_long_text_right (hr.mono (by decide)) rfl (LamX.lamS_by (sc := defScope s__law_long_text_right) (by decide +kernel)) rfl (fun _ _ _ _ _ => rfl) (fun A outer s H E f c' hr tk => (se_callX tk (okx_parse_script T tb) (hr.mono (by decide)) rfl T.g_parse_script T.p_parse_script T.n_parse_script (sa_cons (se_add (se_v 2) se_str) sa_nil)))) (se_tup (sa_cons se_str (sa_cons (se_v 1) sa_nil)))))))))
theorem sc_law : FnScope ["_law_script_here", "_law_bag_here", "_law_turn", "_law_words", "_law_commands", "_law_text", "_law_again", "_law_step", "_law_bad", "_law_far", "_law_word", "_law_one", "_law_other"] ["_law_script_here"] (defScope s_law) := ⟨rfl, rfl, rfl, by decide +kernel, rfl, by decide +kernel, by decide +kernel⟩
def B_law : DS := (dSeq (dSet 1 (dCall F__law_bag (dConsA (dVar 0) dNilA)))
      (dSeq (dFor (tgName 2) (dRng1 (dConsA (dC (.int 5)) dNilA)) (dSeq (dSet 4 (dCall F__law_script (dConsA (dVar 1) (dConsA (dC (.int 8)) dNilA))))
      (dSeq (dIf (dB (dBin (gEq false) (dCall F__law_pull (dConsA (dVar 1) (dConsA (dC (.int 2)) dNilA))) (dC (.int 0)))) (dSeq (dSet 9 (dCall F__law_pull (dConsA (dVar 1) (dConsA (dBin gPow (dC (.int 10)) (dC (.int 17))) dNilA))))
      (dDrop (dLm gApp (dVar 4) (dConsA (dTup (dConsA (dC (.str "delete")) (dConsA (dVar 9) (dConsA (dBin gAdd (dVar 9) (dCall F__law_pull (dConsA (dVar 1) (dConsA (dBin gPow (dC (.int 10)) (dC (.int 17))) dNilA)))) dNilA)))) dNilA)))) dSkip)
      (dSeq (dSet 5 (dC (.str "")))
      (dSeq (dForS (tgTup [10, 11, 12]) (dIter2 (dVar 4)) (dSet 5 (dBin gAdd (dBin gAdd (dBin gAdd (dBin gAdd (dBin gAdd (dBin gAdd (dVar 5) (dVar 10)) (dC (.str " "))) (dCallB gStrI (dConsA (dVar 11) dNilA))) (dC (.str " "))) (dCallB gStrI (dConsA (dVar 12) dNilA))) (dC (.str "\n")))))
      (dSeq (dFor (tgName 6) (dRng1 (dConsA (dC (.int 2)) dNilA)) (dSeq (dSet 3 (dLstC (dConsA (dCall F_script_text (dConsA (dVar 4) dNilA)) (dConsA (dCall F_script_text (dConsA (dCallB gTuple (dConsA (dVar 4) dNilA)) dNilA)) (dConsA (dCall F_parse_script (dConsA (dVar 5) dNilA)) dNilA)))))
      (dIf (dNot (dTru (dCall (F__law_like 4) (dConsA (dVar 3) (dConsA (dLst (dConsA (dVar 5) (dConsA (dVar 5) (dConsA (dVar 4) dNilA)))) dNilA))))) (dRet (dC (.bl false))) dSkip)))
      (dSeq (dFor (tgName 7) (dRng1 (dConsA (dBin gAdd (dC (.int 1)) (dCall F__law_pull (dConsA (dVar 1) (dConsA (dC (.int 2)) dNilA)))) dNilA)) (dSet 5 (dCall F__law_bent_text (dConsA (dVar 1) (dConsA (dVar 5) (dConsA (dLst (dConsA (dC (.str "")) (dConsA (dC (.str " ")) (dConsA (dC (.str "\n")) (dConsA (dC (.str "0")) (dConsA (dC (.str "1")) (dConsA (dC (.str "-")) (dConsA (dC (.str "i")) (dConsA (dC (.str "insert 1 2\n")) (dConsA (dC (.str "delete 2 1\n")) (dConsA (dC (.str "+")) dNilA))))))))))) dNilA))))))
      (dSeq (dIf (dNot (dTru (dCall (F__law_like 4) (dConsA (dTold ["BadText", "BadCommand"] (dCallX Fx_parse_script (dConsA (dVar 5) dNilA))) (dConsA (dCall F__law_lines_due (dConsA (dVar 5) dNilA)) dNilA))))) (dRet (dC (.bl false))) dSkip)
      (dSeq (dSet 8 (dCallB gListC (dConsA (dVar 4) dNilA)))
      (dSeq (dDrop (dLm gIns (dVar 8) (dConsA (dCall F__law_pull (dConsA (dVar 1) (dConsA (dBin gAdd (dCallB gLen (dConsA (dVar 8) dNilA)) (dC (.int 1))) dNilA))) (dConsA (dCall F__law_odd_command (dConsA (dVar 1) dNilA)) dNilA))))
      (dIf (dB (dBin (gEq true) (dTold ["BadText", "BadCommand"] (dCallX Fx_script_text (dConsA (dVar 8) dNilA))) (dTup (dConsA (dC (.str "BadCommand")) (dConsA (dCall F__law_due_command (dConsA (dVar 8) dNilA)) dNilA))))) (dRet (dC (.bl false))) dSkip)))))))))))
      (dSeq (dIf (dNot (dTru (dCall F__law_long_text_right (dConsA (dVar 1) dNilA)))) (dRet (dC (.bl false))) dSkip)
      (dSeq (dSet 3 (dLstC (dConsA (dTold ["BadText", "BadCommand"] (dCallX Fx_parse_script (dConsA (dC (.str "insert 1 2")) dNilA))) dNilA)))
      (dSeq (dDrop (dLm gApp (dVar 3) (dConsA (dTold ["BadText", "BadCommand"] (dCallX Fx_parse_script (dConsA (dC (.str "insert 1 2\n\n")) dNilA))) dNilA)))
      (dRet (dAndV (dBin (gEq false) (dVar 3) (dLst (dConsA (dTup (dConsA (dC (.str "BadText")) (dConsA (dC (.int 0)) dNilA))) (dConsA (dTup (dConsA (dC (.str "BadText")) (dConsA (dC (.int 1)) dNilA))) dNilA)))) (dAndV (dBin (gEq false) (dCall F_parse_script (dConsA (dC (.str "")) dNilA)) (dLst dNilA)) (dBin (gEq false) (dCall F_script_text (dConsA (dLst dNilA) dNilA)) (dC (.str "")))))))))))
def F_law : DF := (runF 13 1 B_law)
theorem ok_law (T : Txt K mg) (tb : ∀ p ∈ T.cts, LamX.TabB base mg p.1 p.2) : FnOk P w K mg base CX0 10 T.a_law T.d_law ["_law_script_here"] (spD ⟨K, T.cl⟩ F_law) :=
  fnokC (k := 9) T.fc_law sc_law fun A outer s H E hr =>
    (ss_cons (ss_let 1 sc_law.nd (se_call (ok__law_bag T tb) (hr.mono (by decide)) rfl T.g__law_bag T.p__law_bag T.n__law_bag (sa_cons (se_v 0) sa_nil)))
      (ss_cons (ss_for PassesOwn.never rfl (si_range1 rfl T.b_range (sa_cons se_int sa_nil)) (sg_v 2 sc_law.nd) (ss_cons (ss_let 4 sc_law.nd (se_call (ok__law_script T tb) (hr.mono (by decide)) rfl T.g__law_script T.p__law_script T.n__law_script (sa_cons (se_v 1) (sa_cons se_int sa_nil))))
      (ss_cons (ss_if (st_eq hr (se_call (ok__law_pull T tb) (hr.mono (by decide)) rfl T.g__law_pull T.p__law_pull T.n__law_pull (sa_cons (se_v 1) (sa_cons se_int sa_nil))) se_int) (ss_cons (ss_let 9 sc_law.nd (se_call (ok__law_pull T tb) (hr.mono (by decide)) rfl T.g__law_pull T.p__law_pull T.n__law_pull (sa_cons (se_v 1) (sa_cons (se_pow se_int se_int) sa_nil))))
      (ss_one (ss_expr (se_append (se_v 4) (se_tup (sa_cons se_str (sa_cons (se_v 9) (sa_cons (se_add (se_v 9) (se_call (ok__law_pull T tb) (hr.mono (by decide)) rfl T.g__law_pull T.p__law_pull T.n__law_pull (sa_cons (se_v 1) (sa_cons (se_pow se_int se_int) sa_nil)))) sa_nil)))))))) ss_nil)
      (ss_cons (ss_let 5 sc_law.nd se_str)
      (ss_cons (ss_forS PassesOwn.never rfl (si2_iter (se_v 4)) (sg_tup (is := [10, 11, 12]) rfl (pgs_cons (pg_name (i := 10) sc_law.nd rfl (by first | exact Or.inl rfl | exact Or.inr rfl)) (pgs_cons (pg_name (i := 11) sc_law.nd rfl (by first | exact Or.inl rfl | exact Or.inr rfl)) (pgs_cons (pg_name (i := 12) sc_law.nd rfl (by first | exact Or.inl rfl | exact Or.inr rfl)) pgs_nil))) rfl) (ss_one (ss_let 5 sc_law.nd (se_add (se_add (se_add (se_add (se_add (se_add (se_v 5) (se_v 10)) se_str) (se_callTy call_str_int cs_str rfl T.b_str (by decide +kernel) (sa_cons (se_v 11) sa_nil))) se_str) (se_callTy call_str_int cs_str rfl T.b_str (by decide +kernel) (sa_cons (se_v 12) sa_nil))) se_str))))
      (ss_cons (ss_for PassesOwn.never rfl (si_range1 rfl T.b_range (sa_cons se_int sa_nil)) (sg_v 6 sc_law.nd) (ss_cons (ss_let 3 sc_law.nd (se_lstC (sa_cons (se_call (ok_script_text T tb) (hr.mono (by decide)) rfl T.g_script_text T.p_script_text T.n_script_text (sa_cons (se_v 4) sa_nil)) (sa_cons (se_call (ok_script_text T tb) (hr.mono (by decide)) rfl T.g_script_text T.p_script_text T.n_script_text (sa_cons (se_callTy call_tuple_of cs_tuple rfl T.b_tuple (by decide +kernel) (sa_cons (se_v 4) sa_nil)) sa_nil)) (sa_cons (se_call (ok_parse_script T tb) (hr.mono (by decide)) rfl T.g_parse_script T.p_parse_script T.n_parse_script (sa_cons (se_v 5) sa_nil)) sa_nil)))))
      (ss_one (ss_if (st_not (st_val (se_call (ok__law_like T tb 4) (hr.mono (by decide)) rfl T.g__law_like T.p__law_like T.n__law_like (sa_cons (se_v 3) (sa_cons (se_lst (sa_cons (se_v 5) (sa_cons (se_v 5) (sa_cons (se_v 4) sa_nil)))) sa_nil))))) (ss_one (ss_ret se_bl)) ss_nil))))
      (ss_cons (ss_for PassesOwn.never rfl (si_range1 rfl T.b_range (sa_cons (se_add se_int (se_call (ok__law_pull T tb) (hr.mono (by decide)) rfl T.g__law_pull T.p__law_pull T.n__law_pull (sa_cons (se_v 1) (sa_cons se_int sa_nil)))) sa_nil)) (sg_v 7 sc_law.nd) (ss_one (ss_let 5 sc_law.nd (se_call (ok__law_bent_text T tb) (hr.mono (by decide)) rfl T.g__law_bent_text T.p__law_bent_text T.n__law_bent_text (sa_cons (se_v 1) (sa_cons (se_v 5) (sa_cons (se_lst (sa_cons se_str (sa_cons se_str (sa_cons se_str (sa_cons se_str (sa_cons se_str (sa_cons se_str (sa_cons se_str (sa_cons se_str (sa_cons se_str (sa_cons se_str sa_nil))))))))))) sa_nil)))))))
      (ss_cons (ss_if (st_not (st_val (se_call (ok__law_like T tb 4) (hr.mono (by decide)) rfl T.g__law_like T.p__law_like T.n__law_like (sa_cons (se_told (k := 7) (errs := ["BadText", "BadCommand"]) T.g__law_told T.p__law_told T.fc__law_told T.n__law_told sc__law_told (Or.inl rfl) (gives_told (hr.mono (by decide)) T.g__law_field T.f__law_field T.p__law_field T.n__law_field T.g_SpanError) T.hx (tb (T.c_law, T.t_law) T.cm_law) rfl T.lam T.lam2 T.lam3 T.lam4 (hr.mono (by decide)) rfl (LamX.lamS_by (sc := defScope s_law) (by decide +kernel)) rfl (fun _ _ _ _ _ => rfl) (fun A outer s H E f c' hr tk => (se_callX tk (okx_parse_script T tb) (hr.mono (by decide)) rfl T.g_parse_script T.p_parse_script T.n_parse_script (sa_cons (se_v 5) sa_nil)))) (sa_cons (se_call (ok__law_lines_due T tb) (hr.mono (by decide)) rfl T.g__law_lines_due T.p__law_lines_due T.n__law_lines_due (sa_cons (se_v 5) sa_nil)) sa_nil))))) (ss_one (ss_ret se_bl)) ss_nil)
      (ss_cons (ss_let 8 sc_law.nd (se_callTy call_list_of cs_listC rfl T.b_list (by decide +kernel) (sa_cons (se_v 4) sa_nil)))
      (ss_cons (ss_expr (se_insert (se_v 8) (se_call (ok__law_pull T tb) (hr.mono (by decide)) rfl T.g__law_pull T.p__law_pull T.n__law_pull (sa_cons (se_v 1) (sa_cons (se_add (se_callB call_len_seq cs_len rfl T.b_len (by decide +kernel) (sa_cons (se_v 8) sa_nil)) se_int) sa_nil))) (se_call (ok__law_odd_command T tb) (hr.mono (by decide)) rfl T.g__law_odd_command T.p__law_odd_command T.n__law_odd_command (sa_cons (se_v 1) sa_nil))))
      (ss_one (ss_if (st_ne hr (se_told (k := 7) (errs := ["BadText", "BadCommand"]) T.g__law_told T.p__law_told T.fc__law_told T.n__law_told sc__law_told (Or.inl rfl) (gives_told (hr.mono (by decide)) T.g__law_field T.f__law_field T.p__law_field T.n__law_field T.g_SpanError) T.hx (tb (T.c_law, T.t_law) T.cm_law) rfl T.lam T.lam2 T.lam3 T.lam4 (hr.mono (by decide)) rfl (LamX.lamS_by (sc := defScope s_law) (by decide +kernel)) rfl (fun _ _ _ _ _ => rfl) (fun A outer s H E f c' hr tk => (se_callX tk (okx_script_text T tb) (hr.mono (by decide)) rfl T.g_script_text T.p_script_text T.n_script_text (sa_cons (se_v 8) sa_nil)))) (se_tup (sa_cons se_str (sa_cons (se_call (ok__law_due_command T tb) (hr.mono (by decide)) rfl T.g__law_due_command T.p__law_due_command T.n__law_due_command (sa_cons (se_v 8) sa_nil)) sa_nil)))) (ss_one (ss_ret se_bl)) ss_nil))))))))))))
      (ss_cons (ss_if (st_not (st_val (se_call (ok__law_long_text_right T tb) (hr.mono (by decide)) rfl T.g__law_long_text_right T.p__law_long_text_right T.n__law_long_text_right (sa_cons (se_v 1) sa_nil)))) (ss_one (ss_ret se_bl)) ss_nil)
      (ss_cons (ss_let 3 sc_law.nd (se_lstC (sa_cons (se_told (k := 7) (errs := ["BadText", "BadCommand"]) T.g__law_told T.p__law_told T.fc__law_told T.n__law_told sc__law_told (Or.inl rfl) (gives_told (hr.mono (by decide)) T.g__law_field T.f__law_field T.p__law_field T.n__law_field T.g_SpanError) T.hx (tb (T.c_law, T.t_law) T.cm_law) rfl T.lam T.lam2 T.lam3 T.lam4 (hr.mono (by decide)) rfl (LamX.lamS_by (sc := defScope s_law) (by decide +kernel)) rfl (fun _ _ _ _ _ => rfl) (fun A outer s H E f c' hr tk => (se_callX tk (okx_parse_script T tb) (hr.mono (by decide)) rfl T.g_parse_script T.p_parse_script T.n_parse_script (sa_cons se_str sa_nil)))) sa_nil)))
      (ss_cons (ss_expr (se_append (se_v 3) (se_told (k := 7) (errs := ["BadText", "BadCommand"]) T.g__law_told T.p__law_told T.fc__law_told T.n__law_told sc__law_told (Or.inl rfl) (gives_told (hr.mono (by decide)) T.g__law_field T.f__law_field T.p__law_field T.n__law_field T.g_SpanError) T.hx (tb (T.c_law, T.t_law) T.cm_law) rfl T.lam T.lam2 T.lam3 T.lam4 (hr.mono (by decide)) rfl (LamX.lamS_by (sc := defScope s_law) (by decide +kernel)) rfl (fun _ _ _ _ _ => rfl) (fun A outer s H E f c' hr tk => (se_callX tk (okx_parse_script T tb) (hr.mono (by decide)) rfl T.g_parse_script T.p_parse_script T.n_parse_script (sa_cons se_str sa_nil))))))
      (ss_one (ss_ret (se_and (se_eq hr (se_v 3) (se_lst (sa_cons (se_tup (sa_cons se_str (sa_cons se_int sa_nil))) (sa_cons (se_tup (sa_cons se_str (sa_cons se_int sa_nil))) sa_nil)))) (se_and (se_eq hr (se_call (ok_parse_script T tb) (hr.mono (by decide)) rfl T.g_parse_script T.p_parse_script T.n_parse_script (sa_cons se_str sa_nil)) (se_lst sa_nil)) (se_one (se_eq hr (se_call (ok_script_text T tb) (hr.mono (by decide)) rfl T.g_script_text T.p_script_text T.n_script_text (sa_cons (se_lst sa_nil) sa_nil)) se_str)))))))))))
end
end T
end
section
set_option Elab.async false
set_option linter.all false
set_option maxRecDepth 100000
set_option maxHeartbeats 4000000
namespace T
open PySem PyProof.Rows L2 Ip
def spLaw (K : PySem.W.Frag) : Sp := fun vs H Q _ => ∃ (a : Addr) (ns : List Int), vs = [.ref a] ∧ SqL K H a (ns.map V.int) ∧ ns.length ≤ 63 ∧ ∀ H', Q (.bl true) H'
def Main : Prop := ∀ ns : List Int, ns.length ≤ 63 → ∃ M, F_law [.scr ns] [] = .ok (.bl true) M
theorem spLaw_of {K : PySem.W.Frag} {cl : Str → Option Addr} (hM : Main) {vs : List V} {H : Hp} {Q : VK} {E : XK} (tb : TabR ⟨K, cl⟩ H) (h : spLaw K vs H Q E) : spD ⟨K, cl⟩ F_law vs H Q E := by
  obtain ⟨a, ns, rfl, hs, hl, q⟩ := h
  obtain ⟨M, e⟩ := hM ns hl
  refine ⟨⟨[], []⟩, [], [.scr ns], ⟨rfl, .nil, fun _ z => (nomatch z), fun _ z => (nomatch z), fun n c z => (by simp at z), tb⟩, .one (.scr ?_), ?_⟩
  · rcases hs with z | z
    · exact .inl ⟨z, fun w => by rcases w with w | w <;> cases w⟩
    · exact .inr fun _ => .inr z
  · rw [e]
    intro ρ' v H' _ _ r
    cases r
    exact q H'
theorem Txt.tab {K : PySem.W.Frag} {mg : Str → Option Value} (T : Txt K mg) {H : Hp} (hH : ∀ p ∈ T.cts, H p.2 = some (.tbl #[])) : TabR ⟨K, T.cl⟩ H := fun q P hq hc => by
  obtain ⟨c, hc⟩ := T.lct _ (T.lam q P hq hc)
  exact LamX.TabS.nil (hH _ hc)
theorem all_mk {l : PySem.W.OpenLaw} {w : World} {K : PySem.W.Frag} {h : Heap} {mg : Str → Option Value} {fa f__law_bag f__law_pull f__law_of f__law_command f__law_script f_is_number f_are_numbers f_is_command f_check_script f_script_text f_read_number f_read_command f_parse_script f__law_like f__law_bent_text f__law_plain_number f__law_due_command f__law_lines_due f__law_odd_command f__law_long_text_right f_law A_SpanError I_SpanError A_BadText I_BadText A_BadCommand I_BadCommand f__law_field f__law_told C_law P_law C__law_long_text_right P__law_long_text_right : Addr} (hM : Main) (X : K.In h) (G : h.Ns mainGlobals mg) (hfa : mg "law" = some (.ref fa))
    {od__law_bag an__law_bag od__law_pull an__law_pull od__law_of an__law_of od__law_command an__law_command od__law_script an__law_script od_is_number an_is_number od_are_numbers an_are_numbers od_is_command an_is_command od_check_script an_check_script od_script_text an_script_text od_read_number an_read_number od_read_command an_read_command od_parse_script an_parse_script od__law_like an__law_like od__law_bent_text an__law_bent_text od__law_plain_number an__law_plain_number od__law_due_command an__law_due_command od__law_lines_due an__law_lines_due od__law_odd_command an__law_odd_command od__law_long_text_right an__law_long_text_right od_law an_law od_SpanError an_SpanError od_BadText an_BadText od_BadCommand an_BadCommand od__law_field an__law_field od__law_told an__law_told : Option Addr} {sl__law_bag sl__law_pull sl__law_of sl__law_command sl__law_script sl_is_number sl_are_numbers sl_is_command sl_check_script sl_script_text sl_read_number sl_read_command sl_parse_script sl__law_like sl__law_bent_text sl__law_plain_number sl__law_due_command sl__law_lines_due sl__law_odd_command sl__law_long_text_right sl_law sl_SpanError sl_BadText sl_BadCommand sl__law_field sl__law_told : Array (Option Value)} {oc__law_bag kV__law_bag dc__law_bag pm__law_bag cd__law_bag ct__law_bag oc__law_pull kV__law_pull dc__law_pull pm__law_pull cd__law_pull ct__law_pull oc__law_of kV__law_of dc__law_of pm__law_of cd__law_of ct__law_of oc__law_command kV__law_command dc__law_command pm__law_command cd__law_command ct__law_command oc__law_script kV__law_script dc__law_script pm__law_script cd__law_script ct__law_script oc_is_number kV_is_number dc_is_number pm_is_number cd_is_number ct_is_number oc_are_numbers kV_are_numbers dc_are_numbers pm_are_numbers cd_are_numbers ct_are_numbers oc_is_command kV_is_command dc_is_command pm_is_command cd_is_command ct_is_command oc_check_script kV_check_script dc_check_script pm_check_script cd_check_script ct_check_script oc_script_text kV_script_text dc_script_text pm_script_text cd_script_text ct_script_text oc_read_number kV_read_number dc_read_number pm_read_number cd_read_number ct_read_number oc_read_command kV_read_command dc_read_command pm_read_command cd_read_command ct_read_command oc_parse_script kV_parse_script dc_parse_script pm_parse_script cd_parse_script ct_parse_script oc__law_like kV__law_like dc__law_like pm__law_like cd__law_like ct__law_like oc__law_bent_text kV__law_bent_text dc__law_bent_text pm__law_bent_text cd__law_bent_text ct__law_bent_text oc__law_plain_number kV__law_plain_number dc__law_plain_number pm__law_plain_number cd__law_plain_number ct__law_plain_number oc__law_due_command kV__law_due_command dc__law_due_command pm__law_due_command cd__law_due_command ct__law_due_command oc__law_lines_due kV__law_lines_due dc__law_lines_due pm__law_lines_due cd__law_lines_due ct__law_lines_due oc__law_odd_command kV__law_odd_command dc__law_odd_command pm__law_odd_command cd__law_odd_command ct__law_odd_command oc__law_long_text_right kV__law_long_text_right dc__law_long_text_right pm__law_long_text_right ct__law_long_text_right oc_law kV_law dc_law pm_law ct_law oc_SpanError kV_SpanError dc_SpanError pm_SpanError cd_SpanError ct_SpanError oc_BadText kV_BadText dc_BadText pm_BadText cd_BadText ct_BadText oc_BadCommand kV_BadCommand dc_BadCommand pm_BadCommand cd_BadCommand ct_BadCommand oc__law_field kV__law_field dc__law_field pm__law_field cd__law_field ct__law_field oc__law_told kV__law_told dc__law_told pm__law_told cd__law_told ct__law_told : Value} {tk_MOST_DIGITS : Tok} {kd_SpanError : ClassData} {nm_BadText q_BadText : Str} {N_BadText : Addr} {bs_BadText bm_BadText : List Value} {sn_BadText : List Str} {su_BadText : List Value} {ab_BadText : Bool} {co_BadText : Option Bool} {dd_BadText : Option Addr} {k0_BadText k1_BadText k2_BadText k3_BadText k5_BadText : Option Value} {nm_BadCommand q_BadCommand : Str} {N_BadCommand : Addr} {bs_BadCommand bm_BadCommand : List Value} {sn_BadCommand : List Str} {su_BadCommand : List Value} {ab_BadCommand : Bool} {co_BadCommand : Option Bool} {dd_BadCommand : Option Addr} {k0_BadCommand k1_BadCommand k2_BadCommand k3_BadCommand k5_BadCommand : Option Value} {e_law : Value} {dd_law : Option Addr} {vs_law : Array Value} {sm_law : Array (Option Value)} {e__law_long_text_right : Value} {dd__law_long_text_right : Option Addr} {vs__law_long_text_right : Array Value} {sm__law_long_text_right : Array (Option Value)}
    (z_all : PySem.W.nsIn K mainGlobals "all" = some none)
    (z_bool : PySem.W.nsIn K mainGlobals "bool" = some none)
    (z_enumerate : PySem.W.nsIn K mainGlobals "enumerate" = some none)
    (z_int : PySem.W.nsIn K mainGlobals "int" = some none)
    (z_isinstance : PySem.W.nsIn K mainGlobals "isinstance" = some none)
    (z_len : PySem.W.nsIn K mainGlobals "len" = some none)
    (z_list : PySem.W.nsIn K mainGlobals "list" = some none)
    (z_range : PySem.W.nsIn K mainGlobals "range" = some none)
    (z_str : PySem.W.nsIn K mainGlobals "str" = some none)
    (z_tuple : PySem.W.nsIn K mainGlobals "tuple" = some none)
    (gp_MOST_DIGITS : PySem.W.nsIn K mainGlobals "MOST_DIGITS" = some (some (.int 18 tk_MOST_DIGITS)))
    (a__law_bag : PySem.W.nsIn K mainGlobals "_law_bag" = some (some (.ref f__law_bag)))
    (l__law_bag : K.lookup f__law_bag = some ⟨oc__law_bag, od__law_bag, .func (PySem.W.fnOf "_law_bag" "_law_bag" (defArgs s__law_bag) (defBody s__law_bag) (defScope s__law_bag) .none kV__law_bag dc__law_bag pm__law_bag an__law_bag cd__law_bag ct__law_bag), sl__law_bag⟩)
    (c__law_bag : PySem.W.codeIn K cd__law_bag "_law_bag" = true)
    (k__law_bag : PySem.W.keepIn K (.ref f__law_bag) = true)
    (a__law_pull : PySem.W.nsIn K mainGlobals "_law_pull" = some (some (.ref f__law_pull)))
    (l__law_pull : K.lookup f__law_pull = some ⟨oc__law_pull, od__law_pull, .func (PySem.W.fnOf "_law_pull" "_law_pull" (defArgs s__law_pull) (defBody s__law_pull) (defScope s__law_pull) .none kV__law_pull dc__law_pull pm__law_pull an__law_pull cd__law_pull ct__law_pull), sl__law_pull⟩)
    (c__law_pull : PySem.W.codeIn K cd__law_pull "_law_pull" = true)
    (k__law_pull : PySem.W.keepIn K (.ref f__law_pull) = true)
    (a__law_of : PySem.W.nsIn K mainGlobals "_law_of" = some (some (.ref f__law_of)))
    (l__law_of : K.lookup f__law_of = some ⟨oc__law_of, od__law_of, .func (PySem.W.fnOf "_law_of" "_law_of" (defArgs s__law_of) (defBody s__law_of) (defScope s__law_of) .none kV__law_of dc__law_of pm__law_of an__law_of cd__law_of ct__law_of), sl__law_of⟩)
    (c__law_of : PySem.W.codeIn K cd__law_of "_law_of" = true)
    (k__law_of : PySem.W.keepIn K (.ref f__law_of) = true)
    (a__law_command : PySem.W.nsIn K mainGlobals "_law_command" = some (some (.ref f__law_command)))
    (l__law_command : K.lookup f__law_command = some ⟨oc__law_command, od__law_command, .func (PySem.W.fnOf "_law_command" "_law_command" (defArgs s__law_command) (defBody s__law_command) (defScope s__law_command) .none kV__law_command dc__law_command pm__law_command an__law_command cd__law_command ct__law_command), sl__law_command⟩)
    (c__law_command : PySem.W.codeIn K cd__law_command "_law_command" = true)
    (k__law_command : PySem.W.keepIn K (.ref f__law_command) = true)
    (a__law_script : PySem.W.nsIn K mainGlobals "_law_script" = some (some (.ref f__law_script)))
    (l__law_script : K.lookup f__law_script = some ⟨oc__law_script, od__law_script, .func (PySem.W.fnOf "_law_script" "_law_script" (defArgs s__law_script) (defBody s__law_script) (defScope s__law_script) .none kV__law_script dc__law_script pm__law_script an__law_script cd__law_script ct__law_script), sl__law_script⟩)
    (c__law_script : PySem.W.codeIn K cd__law_script "_law_script" = true)
    (k__law_script : PySem.W.keepIn K (.ref f__law_script) = true)
    (a_is_number : PySem.W.nsIn K mainGlobals "is_number" = some (some (.ref f_is_number)))
    (l_is_number : K.lookup f_is_number = some ⟨oc_is_number, od_is_number, .func (PySem.W.fnOf "is_number" "is_number" (defArgs s_is_number) (defBody s_is_number) (defScope s_is_number) .none kV_is_number dc_is_number pm_is_number an_is_number cd_is_number ct_is_number), sl_is_number⟩)
    (c_is_number : PySem.W.codeIn K cd_is_number "is_number" = true)
    (k_is_number : PySem.W.keepIn K (.ref f_is_number) = true)
    (a_are_numbers : PySem.W.nsIn K mainGlobals "are_numbers" = some (some (.ref f_are_numbers)))
    (l_are_numbers : K.lookup f_are_numbers = some ⟨oc_are_numbers, od_are_numbers, .func (PySem.W.fnOf "are_numbers" "are_numbers" (defArgs s_are_numbers) (defBody s_are_numbers) (defScope s_are_numbers) .none kV_are_numbers dc_are_numbers pm_are_numbers an_are_numbers cd_are_numbers ct_are_numbers), sl_are_numbers⟩)
    (c_are_numbers : PySem.W.codeIn K cd_are_numbers "are_numbers" = true)
    (k_are_numbers : PySem.W.keepIn K (.ref f_are_numbers) = true)
    (a_is_command : PySem.W.nsIn K mainGlobals "is_command" = some (some (.ref f_is_command)))
    (l_is_command : K.lookup f_is_command = some ⟨oc_is_command, od_is_command, .func (PySem.W.fnOf "is_command" "is_command" (defArgs s_is_command) (defBody s_is_command) (defScope s_is_command) .none kV_is_command dc_is_command pm_is_command an_is_command cd_is_command ct_is_command), sl_is_command⟩)
    (c_is_command : PySem.W.codeIn K cd_is_command "is_command" = true)
    (k_is_command : PySem.W.keepIn K (.ref f_is_command) = true)
    (a_check_script : PySem.W.nsIn K mainGlobals "check_script" = some (some (.ref f_check_script)))
    (l_check_script : K.lookup f_check_script = some ⟨oc_check_script, od_check_script, .func (PySem.W.fnOf "check_script" "check_script" (defArgs s_check_script) (defBody s_check_script) (defScope s_check_script) .none kV_check_script dc_check_script pm_check_script an_check_script cd_check_script ct_check_script), sl_check_script⟩)
    (c_check_script : PySem.W.codeIn K cd_check_script "check_script" = true)
    (k_check_script : PySem.W.keepIn K (.ref f_check_script) = true)
    (a_script_text : PySem.W.nsIn K mainGlobals "script_text" = some (some (.ref f_script_text)))
    (l_script_text : K.lookup f_script_text = some ⟨oc_script_text, od_script_text, .func (PySem.W.fnOf "script_text" "script_text" (defArgs s_script_text) (defBody s_script_text) (defScope s_script_text) .none kV_script_text dc_script_text pm_script_text an_script_text cd_script_text ct_script_text), sl_script_text⟩)
    (c_script_text : PySem.W.codeIn K cd_script_text "script_text" = true)
    (k_script_text : PySem.W.keepIn K (.ref f_script_text) = true)
    (a_read_number : PySem.W.nsIn K mainGlobals "read_number" = some (some (.ref f_read_number)))
    (l_read_number : K.lookup f_read_number = some ⟨oc_read_number, od_read_number, .func (PySem.W.fnOf "read_number" "read_number" (defArgs s_read_number) (defBody s_read_number) (defScope s_read_number) .none kV_read_number dc_read_number pm_read_number an_read_number cd_read_number ct_read_number), sl_read_number⟩)
    (c_read_number : PySem.W.codeIn K cd_read_number "read_number" = true)
    (k_read_number : PySem.W.keepIn K (.ref f_read_number) = true)
    (a_read_command : PySem.W.nsIn K mainGlobals "read_command" = some (some (.ref f_read_command)))
    (l_read_command : K.lookup f_read_command = some ⟨oc_read_command, od_read_command, .func (PySem.W.fnOf "read_command" "read_command" (defArgs s_read_command) (defBody s_read_command) (defScope s_read_command) .none kV_read_command dc_read_command pm_read_command an_read_command cd_read_command ct_read_command), sl_read_command⟩)
    (c_read_command : PySem.W.codeIn K cd_read_command "read_command" = true)
    (k_read_command : PySem.W.keepIn K (.ref f_read_command) = true)
    (a_parse_script : PySem.W.nsIn K mainGlobals "parse_script" = some (some (.ref f_parse_script)))
    (l_parse_script : K.lookup f_parse_script = some ⟨oc_parse_script, od_parse_script, .func (PySem.W.fnOf "parse_script" "parse_script" (defArgs s_parse_script) (defBody s_parse_script) (defScope s_parse_script) .none kV_parse_script dc_parse_script pm_parse_script an_parse_script cd_parse_script ct_parse_script), sl_parse_script⟩)
    (c_parse_script : PySem.W.codeIn K cd_parse_script "parse_script" = true)
    (k_parse_script : PySem.W.keepIn K (.ref f_parse_script) = true)
    (a__law_like : PySem.W.nsIn K mainGlobals "_law_like" = some (some (.ref f__law_like)))
    (l__law_like : K.lookup f__law_like = some ⟨oc__law_like, od__law_like, .func (PySem.W.fnOf "_law_like" "_law_like" (defArgs s__law_like) (defBody s__law_like) (defScope s__law_like) .none kV__law_like dc__law_like pm__law_like an__law_like cd__law_like ct__law_like), sl__law_like⟩)
    (c__law_like : PySem.W.codeIn K cd__law_like "_law_like" = true)
    (k__law_like : PySem.W.keepIn K (.ref f__law_like) = true)
    (a__law_bent_text : PySem.W.nsIn K mainGlobals "_law_bent_text" = some (some (.ref f__law_bent_text)))
    (l__law_bent_text : K.lookup f__law_bent_text = some ⟨oc__law_bent_text, od__law_bent_text, .func (PySem.W.fnOf "_law_bent_text" "_law_bent_text" (defArgs s__law_bent_text) (defBody s__law_bent_text) (defScope s__law_bent_text) .none kV__law_bent_text dc__law_bent_text pm__law_bent_text an__law_bent_text cd__law_bent_text ct__law_bent_text), sl__law_bent_text⟩)
    (c__law_bent_text : PySem.W.codeIn K cd__law_bent_text "_law_bent_text" = true)
    (k__law_bent_text : PySem.W.keepIn K (.ref f__law_bent_text) = true)
    (a__law_plain_number : PySem.W.nsIn K mainGlobals "_law_plain_number" = some (some (.ref f__law_plain_number)))
    (l__law_plain_number : K.lookup f__law_plain_number = some ⟨oc__law_plain_number, od__law_plain_number, .func (PySem.W.fnOf "_law_plain_number" "_law_plain_number" (defArgs s__law_plain_number) (defBody s__law_plain_number) (defScope s__law_plain_number) .none kV__law_plain_number dc__law_plain_number pm__law_plain_number an__law_plain_number cd__law_plain_number ct__law_plain_number), sl__law_plain_number⟩)
    (c__law_plain_number : PySem.W.codeIn K cd__law_plain_number "_law_plain_number" = true)
    (k__law_plain_number : PySem.W.keepIn K (.ref f__law_plain_number) = true)
    (a__law_due_command : PySem.W.nsIn K mainGlobals "_law_due_command" = some (some (.ref f__law_due_command)))
    (l__law_due_command : K.lookup f__law_due_command = some ⟨oc__law_due_command, od__law_due_command, .func (PySem.W.fnOf "_law_due_command" "_law_due_command" (defArgs s__law_due_command) (defBody s__law_due_command) (defScope s__law_due_command) .none kV__law_due_command dc__law_due_command pm__law_due_command an__law_due_command cd__law_due_command ct__law_due_command), sl__law_due_command⟩)
    (c__law_due_command : PySem.W.codeIn K cd__law_due_command "_law_due_command" = true)
    (k__law_due_command : PySem.W.keepIn K (.ref f__law_due_command) = true)
    (a__law_lines_due : PySem.W.nsIn K mainGlobals "_law_lines_due" = some (some (.ref f__law_lines_due)))
    (l__law_lines_due : K.lookup f__law_lines_due = some ⟨oc__law_lines_due, od__law_lines_due, .func (PySem.W.fnOf "_law_lines_due" "_law_lines_due" (defArgs s__law_lines_due) (defBody s__law_lines_due) (defScope s__law_lines_due) .none kV__law_lines_due dc__law_lines_due pm__law_lines_due an__law_lines_due cd__law_lines_due ct__law_lines_due), sl__law_lines_due⟩)
    (c__law_lines_due : PySem.W.codeIn K cd__law_lines_due "_law_lines_due" = true)
    (k__law_lines_due : PySem.W.keepIn K (.ref f__law_lines_due) = true)
    (a__law_odd_command : PySem.W.nsIn K mainGlobals "_law_odd_command" = some (some (.ref f__law_odd_command)))
    (l__law_odd_command : K.lookup f__law_odd_command = some ⟨oc__law_odd_command, od__law_odd_command, .func (PySem.W.fnOf "_law_odd_command" "_law_odd_command" (defArgs s__law_odd_command) (defBody s__law_odd_command) (defScope s__law_odd_command) .none kV__law_odd_command dc__law_odd_command pm__law_odd_command an__law_odd_command cd__law_odd_command ct__law_odd_command), sl__law_odd_command⟩)
    (c__law_odd_command : PySem.W.codeIn K cd__law_odd_command "_law_odd_command" = true)
    (k__law_odd_command : PySem.W.keepIn K (.ref f__law_odd_command) = true)
    (a__law_long_text_right : PySem.W.nsIn K mainGlobals "_law_long_text_right" = some (some (.ref f__law_long_text_right)))
    (l__law_long_text_right : K.lookup f__law_long_text_right = some ⟨oc__law_long_text_right, od__law_long_text_right, .func (PySem.W.fnOf "_law_long_text_right" "_law_long_text_right" (defArgs s__law_long_text_right) (defBody s__law_long_text_right) (defScope s__law_long_text_right) .none kV__law_long_text_right dc__law_long_text_right pm__law_long_text_right an__law_long_text_right (.ref C__law_long_text_right) ct__law_long_text_right), sl__law_long_text_right⟩)
    (c__law_long_text_right : PySem.W.codeIn K (.ref C__law_long_text_right) "_law_long_text_right" = true)
    (k__law_long_text_right : PySem.W.keepIn K (.ref f__law_long_text_right) = true)
    (a_law : PySem.W.nsIn K mainGlobals "law" = some (some (.ref f_law)))
    (l_law : K.lookup f_law = some ⟨oc_law, od_law, .func (PySem.W.fnOf "law" "law" (defArgs s_law) (defBody s_law) (defScope s_law) .none kV_law dc_law pm_law an_law (.ref C_law) ct_law), sl_law⟩)
    (c_law : PySem.W.codeIn K (.ref C_law) "law" = true)
    (k_law : PySem.W.keepIn K (.ref f_law) = true)
    (aC_SpanError : PySem.W.nsIn K mainGlobals "SpanError" = some (some (.ref A_SpanError)))
    (rd_SpanError : PySem.W.readsIn K A_SpanError (.type "type") = true)
    (ga_SpanError : PySem.W.specialIn K (.ref A_SpanError) "__getattribute__" = some (some (.builtin "type.__getattribute__")))
    (sb_SpanError : PySem.W.subIn K (.ref A_SpanError) (.type "BaseException") = some true)
    (kl_SpanError : PySem.W.clsIn K A_SpanError = some kd_SpanError)
    (ty_SpanError : PySem.W.typeIn K (.ref A_SpanError) = some (.type "type"))
    (ci_SpanError : PySem.W.findCls K (.ref A_SpanError) (.type "type") "__init__" = some (.val (.ref I_SpanError)))
    (l_SpanError : K.lookup I_SpanError = some ⟨oc_SpanError, od_SpanError, .func (PySem.W.fnOf "__init__" "SpanError.__init__" (defArgs s_SpanError) (defBody s_SpanError) (defScope s_SpanError) .none kV_SpanError dc_SpanError pm_SpanError an_SpanError cd_SpanError ct_SpanError), sl_SpanError⟩)
    (c_SpanError : PySem.W.codeIn K cd_SpanError "SpanError.__init__" = true)
    (k_SpanError : PySem.W.keepIn K (.ref I_SpanError) = true)
    (zV : PySem.W.nsIn K mainGlobals "ValueError" = some none)
    (vV : PySem.W.findCls K (.type "ValueError") (.type "type") "__init__" = some (.val (.builtin "ValueError.__init__")))
    (aC_BadText : PySem.W.nsIn K mainGlobals "BadText" = some (some (.ref A_BadText)))
    (xo_BadText : K.lookup A_BadText = some (excClassObj nm_BadText q_BadText A_BadText N_BadText bs_BadText bm_BadText true sn_BadText su_BadText ab_BadText co_BadText dd_BadText k0_BadText k1_BadText k2_BadText k3_BadText k5_BadText "ValueError.__new__"))
    (rv_BadText : PySem.HandSPX.refsVE bm_BadText = true)
    (sa_BadText : PySem.W.findIn K (.ref A_BadText) "__setattr__" = some (some (.builtin "object.__setattr__")))
    (ex_BadText : PySem.W.subIn K (.ref A_BadText) (.type "BaseException") = some true)
    (tc_BadText : PySem.W.typeIn K (.ref A_BadText) = some (.type "type"))
    (kk_BadText : PySem.W.keepIn K (.ref A_BadText) = true)
    (xg_BadText : PySem.W.findIn K (.ref A_BadText) "__getattribute__" = some (some (.builtin "BaseException.__getattribute__")))
    (xh_BadText : PySem.W.findIn K (.ref A_BadText) "__getattr__" = some none)
    (xd_BadText : PySem.W.hasDictIn K A_BadText = true)
    (xn_word_BadText : PySem.W.findIn K (.ref A_BadText) "word" = some none)
    (xn_number_BadText : PySem.W.findIn K (.ref A_BadText) "number" = some none)
    (xn_at_BadText : PySem.W.findIn K (.ref A_BadText) "at" = some none)
    (xn_name_BadText : PySem.W.findIn K (.ref A_BadText) "name" = some none)
    (xn_cell_BadText : PySem.W.findIn K (.ref A_BadText) "cell" = some none)
    (xn_most_BadText : PySem.W.findIn K (.ref A_BadText) "most" = some none)
    (xn_label_BadText : PySem.W.findIn K (.ref A_BadText) "label" = some none)
    (xn_other_BadText : PySem.W.findIn K (.ref A_BadText) "other" = some none)
    (em_BadText : PySem.W.subIn K (.ref A_BadText) (.ref A_SpanError) = some true)
    (in_BadText : PySem.W.findIn K (.ref A_BadText) "__init__" = some (some (.ref I_BadText)))
    (ti_BadText : PySem.W.typeIn K (.ref I_BadText) = some (.type "function"))
    (l_BadText : K.lookup I_BadText = some ⟨oc_BadText, od_BadText, .func (PySem.W.fnOf "__init__" "BadText.__init__" (defArgs s_BadText) (defBody s_BadText) (defScope s_BadText) .none kV_BadText dc_BadText pm_BadText an_BadText cd_BadText ct_BadText), sl_BadText⟩)
    (c_BadText : PySem.W.codeIn K cd_BadText "BadText.__init__" = true)
    (k_BadText : PySem.W.keepIn K (.ref I_BadText) = true)
    (aC_BadCommand : PySem.W.nsIn K mainGlobals "BadCommand" = some (some (.ref A_BadCommand)))
    (xo_BadCommand : K.lookup A_BadCommand = some (excClassObj nm_BadCommand q_BadCommand A_BadCommand N_BadCommand bs_BadCommand bm_BadCommand true sn_BadCommand su_BadCommand ab_BadCommand co_BadCommand dd_BadCommand k0_BadCommand k1_BadCommand k2_BadCommand k3_BadCommand k5_BadCommand "ValueError.__new__"))
    (rv_BadCommand : PySem.HandSPX.refsVE bm_BadCommand = true)
    (sa_BadCommand : PySem.W.findIn K (.ref A_BadCommand) "__setattr__" = some (some (.builtin "object.__setattr__")))
    (ex_BadCommand : PySem.W.subIn K (.ref A_BadCommand) (.type "BaseException") = some true)
    (tc_BadCommand : PySem.W.typeIn K (.ref A_BadCommand) = some (.type "type"))
    (kk_BadCommand : PySem.W.keepIn K (.ref A_BadCommand) = true)
    (xg_BadCommand : PySem.W.findIn K (.ref A_BadCommand) "__getattribute__" = some (some (.builtin "BaseException.__getattribute__")))
    (xh_BadCommand : PySem.W.findIn K (.ref A_BadCommand) "__getattr__" = some none)
    (xd_BadCommand : PySem.W.hasDictIn K A_BadCommand = true)
    (xn_word_BadCommand : PySem.W.findIn K (.ref A_BadCommand) "word" = some none)
    (xn_number_BadCommand : PySem.W.findIn K (.ref A_BadCommand) "number" = some none)
    (xn_at_BadCommand : PySem.W.findIn K (.ref A_BadCommand) "at" = some none)
    (xn_name_BadCommand : PySem.W.findIn K (.ref A_BadCommand) "name" = some none)
    (xn_cell_BadCommand : PySem.W.findIn K (.ref A_BadCommand) "cell" = some none)
    (xn_most_BadCommand : PySem.W.findIn K (.ref A_BadCommand) "most" = some none)
    (xn_label_BadCommand : PySem.W.findIn K (.ref A_BadCommand) "label" = some none)
    (xn_other_BadCommand : PySem.W.findIn K (.ref A_BadCommand) "other" = some none)
    (em_BadCommand : PySem.W.subIn K (.ref A_BadCommand) (.ref A_SpanError) = some true)
    (in_BadCommand : PySem.W.findIn K (.ref A_BadCommand) "__init__" = some (some (.ref I_BadCommand)))
    (ti_BadCommand : PySem.W.typeIn K (.ref I_BadCommand) = some (.type "function"))
    (l_BadCommand : K.lookup I_BadCommand = some ⟨oc_BadCommand, od_BadCommand, .func (PySem.W.fnOf "__init__" "BadCommand.__init__" (defArgs s_BadCommand) (defBody s_BadCommand) (defScope s_BadCommand) .none kV_BadCommand dc_BadCommand pm_BadCommand an_BadCommand cd_BadCommand ct_BadCommand), sl_BadCommand⟩)
    (c_BadCommand : PySem.W.codeIn K cd_BadCommand "BadCommand.__init__" = true)
    (k_BadCommand : PySem.W.keepIn K (.ref I_BadCommand) = true)
    (a__law_field : PySem.W.nsIn K mainGlobals "_law_field" = some (some (.ref f__law_field)))
    (l__law_field : K.lookup f__law_field = some ⟨oc__law_field, od__law_field, .func (PySem.W.fnOf "_law_field" "_law_field" (defArgs s__law_field) (defBody s__law_field) (defScope s__law_field) .none kV__law_field dc__law_field pm__law_field an__law_field cd__law_field ct__law_field), sl__law_field⟩)
    (c__law_field : PySem.W.codeIn K cd__law_field "_law_field" = true)
    (k__law_field : PySem.W.keepIn K (.ref f__law_field) = true)
    (a__law_told : PySem.W.nsIn K mainGlobals "_law_told" = some (some (.ref f__law_told)))
    (l__law_told : K.lookup f__law_told = some ⟨oc__law_told, od__law_told, .func (PySem.W.fnOf "_law_told" "_law_told" (defArgs s__law_told) (defBody s__law_told) (defScope s__law_told) .none kV__law_told dc__law_told pm__law_told an__law_told cd__law_told ct__law_told), sl__law_told⟩)
    (c__law_told : PySem.W.codeIn K cd__law_told "_law_told" = true)
    (k__law_told : PySem.W.keepIn K (.ref f__law_told) = true)
    (kc_law : K.lookup C_law = some ⟨e_law, dd_law, .fields vs_law, sm_law⟩)
    (kv_law : vs_law[11]? = some (.ref P_law))
    (kn_law : K.lookup P_law = none)
    (kh_law : PySem.W.codeHdIn [(C_law, ⟨e_law, dd_law, .fields vs_law, sm_law⟩)] C_law P_law = true)
    (kc__law_long_text_right : K.lookup C__law_long_text_right = some ⟨e__law_long_text_right, dd__law_long_text_right, .fields vs__law_long_text_right, sm__law_long_text_right⟩)
    (kv__law_long_text_right : vs__law_long_text_right[11]? = some (.ref P__law_long_text_right))
    (kn__law_long_text_right : K.lookup P__law_long_text_right = none)
    (kh__law_long_text_right : PySem.W.codeHdIn [(C__law_long_text_right, ⟨e__law_long_text_right, dd__law_long_text_right, .fields vs__law_long_text_right, sm__law_long_text_right⟩)] C__law_long_text_right P__law_long_text_right = true)
    (ht_law : h.get? P_law = some ({ cls := .none, data := .fields #[] } : Obj))
    (ht__law_long_text_right : h.get? P__law_long_text_right = some ({ cls := .none, data := .fields #[] } : Obj))
    (dj_law__law_long_text_right : P_law ≠ P__law_long_text_right)
    : LamX.LawAtS l w K CX0 10 63 "_law_script_here" mg fa h := by
  have e := hfa.symm.trans (PySem.W.mg_of X G a_law)
  cases e
  let T : Txt K mg := {
    b_all := PySem.W.mg_none_of X G z_all,
    b_bool := PySem.W.mg_none_of X G z_bool,
    b_enumerate := PySem.W.mg_none_of X G z_enumerate,
    b_int := PySem.W.mg_none_of X G z_int,
    b_isinstance := PySem.W.mg_none_of X G z_isinstance,
    b_len := PySem.W.mg_none_of X G z_len,
    b_list := PySem.W.mg_none_of X G z_list,
    b_range := PySem.W.mg_none_of X G z_range,
    b_str := PySem.W.mg_none_of X G z_str,
    b_tuple := PySem.W.mg_none_of X G z_tuple,
    t_MOST_DIGITS := tk_MOST_DIGITS,
    c_MOST_DIGITS := PySem.W.mg_of X G gp_MOST_DIGITS,
    a__law_bag := f__law_bag,
    d__law_bag := _,
    g__law_bag := PySem.W.mg_of X G a__law_bag,
    p__law_bag := k__law_bag,
    f__law_bag := fun_mk (st := s__law_bag) l__law_bag c__law_bag k__law_bag,
    n__law_bag := (fun_mk (st := s__law_bag) l__law_bag c__law_bag k__law_bag).binds (ps := ["_law_script_here"]) fun _ _ _ _ _ _ us hl => match us, hl with | [_], _ => rfl,
    a__law_pull := f__law_pull,
    d__law_pull := _,
    g__law_pull := PySem.W.mg_of X G a__law_pull,
    p__law_pull := k__law_pull,
    f__law_pull := fun_mk (st := s__law_pull) l__law_pull c__law_pull k__law_pull,
    n__law_pull := (fun_mk (st := s__law_pull) l__law_pull c__law_pull k__law_pull).binds (ps := ["_law_bag_here", "_law_size"]) fun _ _ _ _ _ _ us hl => match us, hl with | [_, _], _ => rfl,
    a__law_of := f__law_of,
    d__law_of := _,
    g__law_of := PySem.W.mg_of X G a__law_of,
    p__law_of := k__law_of,
    f__law_of := fun_mk (st := s__law_of) l__law_of c__law_of k__law_of,
    n__law_of := (fun_mk (st := s__law_of) l__law_of c__law_of k__law_of).binds (ps := ["_law_bag_here", "_law_some"]) fun _ _ _ _ _ _ us hl => match us, hl with | [_, _], _ => rfl,
    a__law_command := f__law_command,
    d__law_command := _,
    g__law_command := PySem.W.mg_of X G a__law_command,
    p__law_command := k__law_command,
    f__law_command := fun_mk (st := s__law_command) l__law_command c__law_command k__law_command,
    n__law_command := (fun_mk (st := s__law_command) l__law_command c__law_command k__law_command).binds (ps := ["_law_bag_here", "_law_far"]) fun _ _ _ _ _ _ us hl => match us, hl with | [_, _], _ => rfl,
    a__law_script := f__law_script,
    d__law_script := _,
    g__law_script := PySem.W.mg_of X G a__law_script,
    p__law_script := k__law_script,
    f__law_script := fun_mk (st := s__law_script) l__law_script c__law_script k__law_script,
    n__law_script := (fun_mk (st := s__law_script) l__law_script c__law_script k__law_script).binds (ps := ["_law_bag_here", "_law_most"]) fun _ _ _ _ _ _ us hl => match us, hl with | [_, _], _ => rfl,
    a_is_number := f_is_number,
    d_is_number := _,
    g_is_number := PySem.W.mg_of X G a_is_number,
    p_is_number := k_is_number,
    f_is_number := fun_mk (st := s_is_number) l_is_number c_is_number k_is_number,
    n_is_number := (fun_mk (st := s_is_number) l_is_number c_is_number k_is_number).binds (ps := ["value"]) fun _ _ _ _ _ _ us hl => match us, hl with | [_], _ => rfl,
    a_are_numbers := f_are_numbers,
    d_are_numbers := _,
    g_are_numbers := PySem.W.mg_of X G a_are_numbers,
    p_are_numbers := k_are_numbers,
    f_are_numbers := fun_mk (st := s_are_numbers) l_are_numbers c_are_numbers k_are_numbers,
    n_are_numbers := (fun_mk (st := s_are_numbers) l_are_numbers c_are_numbers k_are_numbers).binds (ps := ["values", "many"]) fun _ _ _ _ _ _ us hl => match us, hl with | [_, _], _ => rfl,
    a_is_command := f_is_command,
    d_is_command := _,
    g_is_command := PySem.W.mg_of X G a_is_command,
    p_is_command := k_is_command,
    f_is_command := fun_mk (st := s_is_command) l_is_command c_is_command k_is_command,
    n_is_command := (fun_mk (st := s_is_command) l_is_command c_is_command k_is_command).binds (ps := ["item"]) fun _ _ _ _ _ _ us hl => match us, hl with | [_], _ => rfl,
    a_check_script := f_check_script,
    d_check_script := _,
    g_check_script := PySem.W.mg_of X G a_check_script,
    p_check_script := k_check_script,
    f_check_script := fun_mk (st := s_check_script) l_check_script c_check_script k_check_script,
    n_check_script := (fun_mk (st := s_check_script) l_check_script c_check_script k_check_script).binds (ps := ["script"]) fun _ _ _ _ _ _ us hl => match us, hl with | [_], _ => rfl,
    a_script_text := f_script_text,
    d_script_text := _,
    g_script_text := PySem.W.mg_of X G a_script_text,
    p_script_text := k_script_text,
    f_script_text := fun_mk (st := s_script_text) l_script_text c_script_text k_script_text,
    n_script_text := (fun_mk (st := s_script_text) l_script_text c_script_text k_script_text).binds (ps := ["script"]) fun _ _ _ _ _ _ us hl => match us, hl with | [_], _ => rfl,
    a_read_number := f_read_number,
    d_read_number := _,
    g_read_number := PySem.W.mg_of X G a_read_number,
    p_read_number := k_read_number,
    f_read_number := fun_mk (st := s_read_number) l_read_number c_read_number k_read_number,
    n_read_number := (fun_mk (st := s_read_number) l_read_number c_read_number k_read_number).binds (ps := ["text"]) fun _ _ _ _ _ _ us hl => match us, hl with | [_], _ => rfl,
    a_read_command := f_read_command,
    d_read_command := _,
    g_read_command := PySem.W.mg_of X G a_read_command,
    p_read_command := k_read_command,
    f_read_command := fun_mk (st := s_read_command) l_read_command c_read_command k_read_command,
    n_read_command := (fun_mk (st := s_read_command) l_read_command c_read_command k_read_command).binds (ps := ["line"]) fun _ _ _ _ _ _ us hl => match us, hl with | [_], _ => rfl,
    a_parse_script := f_parse_script,
    d_parse_script := _,
    g_parse_script := PySem.W.mg_of X G a_parse_script,
    p_parse_script := k_parse_script,
    f_parse_script := fun_mk (st := s_parse_script) l_parse_script c_parse_script k_parse_script,
    n_parse_script := (fun_mk (st := s_parse_script) l_parse_script c_parse_script k_parse_script).binds (ps := ["text"]) fun _ _ _ _ _ _ us hl => match us, hl with | [_], _ => rfl,
    a__law_like := f__law_like,
    d__law_like := _,
    g__law_like := PySem.W.mg_of X G a__law_like,
    p__law_like := k__law_like,
    f__law_like := fun_mk (st := s__law_like) l__law_like c__law_like k__law_like,
    n__law_like := (fun_mk (st := s__law_like) l__law_like c__law_like k__law_like).binds (ps := ["_law_found", "_law_due"]) fun _ _ _ _ _ _ us hl => match us, hl with | [_, _], _ => rfl,
    a__law_bent_text := f__law_bent_text,
    d__law_bent_text := _,
    g__law_bent_text := PySem.W.mg_of X G a__law_bent_text,
    p__law_bent_text := k__law_bent_text,
    f__law_bent_text := fun_mk (st := s__law_bent_text) l__law_bent_text c__law_bent_text k__law_bent_text,
    n__law_bent_text := (fun_mk (st := s__law_bent_text) l__law_bent_text c__law_bent_text k__law_bent_text).binds (ps := ["_law_bag_here", "_law_text", "_law_signs"]) fun _ _ _ _ _ _ us hl => match us, hl with | [_, _, _], _ => rfl,
    a__law_plain_number := f__law_plain_number,
    d__law_plain_number := _,
    g__law_plain_number := PySem.W.mg_of X G a__law_plain_number,
    p__law_plain_number := k__law_plain_number,
    f__law_plain_number := fun_mk (st := s__law_plain_number) l__law_plain_number c__law_plain_number k__law_plain_number,
    n__law_plain_number := (fun_mk (st := s__law_plain_number) l__law_plain_number c__law_plain_number k__law_plain_number).binds (ps := ["_law_word"]) fun _ _ _ _ _ _ us hl => match us, hl with | [_], _ => rfl,
    a__law_due_command := f__law_due_command,
    d__law_due_command := _,
    g__law_due_command := PySem.W.mg_of X G a__law_due_command,
    p__law_due_command := k__law_due_command,
    f__law_due_command := fun_mk (st := s__law_due_command) l__law_due_command c__law_due_command k__law_due_command,
    n__law_due_command := (fun_mk (st := s__law_due_command) l__law_due_command c__law_due_command k__law_due_command).binds (ps := ["_law_script_here"]) fun _ _ _ _ _ _ us hl => match us, hl with | [_], _ => rfl,
    a__law_lines_due := f__law_lines_due,
    d__law_lines_due := _,
    g__law_lines_due := PySem.W.mg_of X G a__law_lines_due,
    p__law_lines_due := k__law_lines_due,
    f__law_lines_due := fun_mk (st := s__law_lines_due) l__law_lines_due c__law_lines_due k__law_lines_due,
    n__law_lines_due := (fun_mk (st := s__law_lines_due) l__law_lines_due c__law_lines_due k__law_lines_due).binds (ps := ["_law_text"]) fun _ _ _ _ _ _ us hl => match us, hl with | [_], _ => rfl,
    a__law_odd_command := f__law_odd_command,
    d__law_odd_command := _,
    g__law_odd_command := PySem.W.mg_of X G a__law_odd_command,
    p__law_odd_command := k__law_odd_command,
    f__law_odd_command := fun_mk (st := s__law_odd_command) l__law_odd_command c__law_odd_command k__law_odd_command,
    n__law_odd_command := (fun_mk (st := s__law_odd_command) l__law_odd_command c__law_odd_command k__law_odd_command).binds (ps := ["_law_bag_here"]) fun _ _ _ _ _ _ us hl => match us, hl with | [_], _ => rfl,
    a__law_long_text_right := f__law_long_text_right,
    d__law_long_text_right := _,
    g__law_long_text_right := PySem.W.mg_of X G a__law_long_text_right,
    p__law_long_text_right := k__law_long_text_right,
    f__law_long_text_right := fun_mk (st := s__law_long_text_right) l__law_long_text_right c__law_long_text_right k__law_long_text_right,
    n__law_long_text_right := (fun_mk (st := s__law_long_text_right) l__law_long_text_right c__law_long_text_right k__law_long_text_right).binds (ps := ["_law_bag_here"]) fun _ _ _ _ _ _ us hl => match us, hl with | [_], _ => rfl,
    a_law := fa,
    d_law := _,
    g_law := PySem.W.mg_of X G a_law,
    p_law := k_law,
    f_law := fun_mk (st := s_law) l_law c_law k_law,
    n_law := (fun_mk (st := s_law) l_law c_law k_law).binds (ps := ["_law_script_here"]) fun _ _ _ _ _ _ us hl => match us, hl with | [_], _ => rfl,
    a_SpanError := A_SpanError,
    mc_SpanError := .type "type",
    g_SpanError := PySem.W.mg_of X G aC_SpanError,
    fi_SpanError := I_SpanError,
    di_SpanError := _,
    rd_SpanError := ⟨rd_SpanError, ga_SpanError⟩,
    ci_SpanError := ci_SpanError,
    ki_SpanError := k_SpanError,
    fn_SpanError := (fun_mk (st := s_SpanError) l_SpanError c_SpanError k_SpanError),
    nb_SpanError := (fun_mk (st := s_SpanError) l_SpanError c_SpanError k_SpanError).binds (ps := ["self", "word", "message"]) fun _ _ _ _ _ _ us hl => match us, hl with | [_, _, _], _ => rfl,
    mV := PySem.W.mg_none_of X G zV,
    vV := vV,
    a_BadText := A_BadText,
    fi_BadText := I_BadText,
    di_BadText := _,
    g_BadText := PySem.W.mg_of X G aC_BadText,
    oc_BadText := ⟨⟨_, _, _, _, _, _, _, _, _, _, _, _, _, _, _, xo_BadText, rv_BadText⟩, sa_BadText, ex_BadText, tc_BadText, kk_BadText⟩,
    xc_BadText := xcC_mk xg_BadText xh_BadText ex_BadText xd_BadText xn_word_BadText xn_number_BadText xn_at_BadText xn_name_BadText xn_cell_BadText xn_most_BadText xn_label_BadText xn_other_BadText,
    em_BadText := exm_mk sb_SpanError kl_SpanError ty_SpanError em_BadText,
    in_BadText := in_BadText,
    ti_BadText := ti_BadText,
    fn_BadText := (fun_mk (st := s_BadText) l_BadText c_BadText k_BadText),
    nb_BadText := (fun_mk (st := s_BadText) l_BadText c_BadText k_BadText).binds (ps := ["self", "at"]) fun _ _ _ _ _ _ us hl => match us, hl with | [_, _], _ => rfl,
    a_BadCommand := A_BadCommand,
    fi_BadCommand := I_BadCommand,
    di_BadCommand := _,
    g_BadCommand := PySem.W.mg_of X G aC_BadCommand,
    oc_BadCommand := ⟨⟨_, _, _, _, _, _, _, _, _, _, _, _, _, _, _, xo_BadCommand, rv_BadCommand⟩, sa_BadCommand, ex_BadCommand, tc_BadCommand, kk_BadCommand⟩,
    xc_BadCommand := xcC_mk xg_BadCommand xh_BadCommand ex_BadCommand xd_BadCommand xn_word_BadCommand xn_number_BadCommand xn_at_BadCommand xn_name_BadCommand xn_cell_BadCommand xn_most_BadCommand xn_label_BadCommand xn_other_BadCommand,
    em_BadCommand := exm_mk sb_SpanError kl_SpanError ty_SpanError em_BadCommand,
    in_BadCommand := in_BadCommand,
    ti_BadCommand := ti_BadCommand,
    fn_BadCommand := (fun_mk (st := s_BadCommand) l_BadCommand c_BadCommand k_BadCommand),
    nb_BadCommand := (fun_mk (st := s_BadCommand) l_BadCommand c_BadCommand k_BadCommand).binds (ps := ["self", "at"]) fun _ _ _ _ _ _ us hl => match us, hl with | [_, _], _ => rfl,
    a__law_field := f__law_field,
    d__law_field := _,
    g__law_field := PySem.W.mg_of X G a__law_field,
    p__law_field := k__law_field,
    n__law_field := (fun_mk (st := s__law_field) l__law_field c__law_field k__law_field).binds (ps := ["_law_e"]) fun _ _ _ _ _ _ us hl => match us, hl with | [_], _ => rfl,
    f__law_field := (fun_mk (st := s__law_field) l__law_field c__law_field k__law_field),
    a__law_told := f__law_told,
    d__law_told := _,
    g__law_told := PySem.W.mg_of X G a__law_told,
    p__law_told := k__law_told,
    n__law_told := (fun_mk (st := s__law_told) l__law_told c__law_told k__law_told).binds (ps := ["_law_ask"]) fun _ _ _ _ _ _ us hl => match us, hl with | [_], _ => rfl,
    cd__law_told := cd__law_told,
    fc__law_told := ⟨⟨_, _, _, _, _, _, _, _, rfl, l__law_told, c__law_told⟩⟩,
    c_law := C_law,
    t_law := P_law,
    fc_law := ⟨⟨_, _, _, _, _, _, _, _, rfl, l_law, c_law⟩⟩,
    c__law_long_text_right := C__law_long_text_right,
    t__law_long_text_right := P__law_long_text_right,
    fc__law_long_text_right := ⟨⟨_, _, _, _, _, _, _, _, rfl, l__law_long_text_right, c__law_long_text_right⟩⟩,
    dj_law__law_long_text_right := dj_law__law_long_text_right }
  refine ⟨_, [(C_law, P_law), (C__law_long_text_right, P__law_long_text_right)], spD ⟨K, T.cl⟩ F_law, List.forall_mem_cons.mpr ⟨ht_law, List.forall_mem_cons.mpr ⟨ht__law_long_text_right, fun _ h => nomatch h⟩⟩, List.forall_mem_cons.mpr ⟨kn_law, List.forall_mem_cons.mpr ⟨kn__law_long_text_right, fun _ h => nomatch h⟩⟩, List.forall_mem_cons.mpr ⟨codeHd_mk X kc_law kh_law, List.forall_mem_cons.mpr ⟨codeHd_mk X kc__law_long_text_right kh__law_long_text_right, fun _ h => nomatch h⟩⟩, fun s v => .of_eq rfl, fun H a ns hl _ hH hS => ?_, fun base _ _ tb => ok_law (P := l.prog) (w := w) (base := base) T tb⟩
  exact spLaw_of hM (T.tab hH) ⟨a, ns, rfl, hS, hl, fun _ => rfl⟩
theorem walk {l : PySem.W.OpenLaw} {q : Program} {loose : List Str} {XP : (Str → Option Value) → Heap → Prop} {YP : World → Heap → Prop} {d : DefRec} {K : Params → PySem.W.Frag} (hn : l.most = some 63) (hdf : d.params.defaults = [])
    (hY : ∀ (w : World) (h : Heap), YP w h → (K w.params).In h)
    (F : ∀ (w : World) (mg : Str → Option Value) (fa : Addr) (h : Heap), YP w h → (K w.params).In h → h.Ns mainGlobals mg → mg d.name = some (.ref fa) → LamX.LawAtS l w (K w.params) CX0 10 63 "_law_script_here" mg fa h) :
    PySem.W.WalkO q loose XP YP l.row.toRowW d [] (fun f vs => PySem.call f vs) :=
  LamX.walk_ofTs (n := 63) (k := 10) (x := "_law_script_here") (CX := fun _ => CX0) hn (by decide) hdf ⟨rfl, by decide, by decide⟩ hY F fun _ _ _ _ _ z => z
end T
end
namespace T
open PySem L2 Ip
set_option maxHeartbeats 1000000
section
set_option Elab.async false
set_option linter.all false
set_option maxRecDepth 100000
set_option maxHeartbeats 4000000
theorem app_set (M : Sto) (c c' : Cell) : (M ++ [c]).set M.length c' = M ++ [c'] := by simp
theorem app_at (M : Sto) (c : Cell) : (M ++ [c])[M.length]? = some c := by simp
theorem atn2 (a b : D) : atI [a, b] (-1) = some b := rfl
theorem atn3 (a b c : D) : atI [a, b, c] (-1) = some c := rfl
theorem atn4 (a b c d : D) : atI [a, b, c, d] (-1) = some d := rfl
theorem ar1 (a b : Int) : a + (b - a + 1 - 1) = b := by omega
theorem ar2 (a : Int) : a + 0 = a := by omega
theorem nc0 : ((0 : Nat) : Int) = 0 := rfl
theorem nc1 : ((1 : Nat) : Int) = 1 := rfl
theorem nc2 : ((2 : Nat) : Int) = 2 := rfl
theorem nc3 : ((3 : Nat) : Int) = 3 := rfl
theorem nc4 : ((4 : Nat) : Int) = 4 := rfl
theorem nc5 : ((5 : Nat) : Int) = 5 := rfl
theorem w_tt : decide (Str.ofString "top" = Str.ofString "top") = true := by decide
theorem w_to : decide (Str.ofString "top" = Str.ofString "old") = false := by decide
theorem w_tn : decide (Str.ofString "top" = Str.ofString "new") = false := by decide
theorem w_ot : decide (Str.ofString "old" = Str.ofString "top") = false := by decide
theorem w_oo : decide (Str.ofString "old" = Str.ofString "old") = true := by decide
theorem w_on : decide (Str.ofString "old" = Str.ofString "new") = false := by decide
theorem w_nt : decide (Str.ofString "new" = Str.ofString "top") = false := by decide
theorem w_no : decide (Str.ofString "new" = Str.ofString "old") = false := by decide
theorem w_nn : decide (Str.ofString "new" = Str.ofString "new") = true := by decide
theorem w_et : decide (Str.ofString "" = Str.ofString "top") = false := by decide
theorem w_eo : decide (Str.ofString "" = Str.ofString "old") = false := by decide
theorem sl_13 (a b c d : D) : Ip.cutD [a, b, c, d] (some 1) (some 3) = [b, c] := rfl
theorem sl_03 (a b c d : D) : Ip.cutD [a, b, c, d] none (some 3) = [a, b, c] := rfl
theorem sl_1_2 (a b : D) : Ip.cutD [a, b] (some 1) none = [b] := rfl
theorem sl_1_3 (a b c : D) : Ip.cutD [a, b, c] (some 1) none = [b, c] := rfl
theorem sl_1_4 (a b c d : D) : Ip.cutD [a, b, c, d] (some 1) none = [b, c, d] := rfl
theorem sl_03b (a b c : D) : Ip.cutD [a, b, c] none (some 3) = [a, b, c] := rfl
theorem sl_03c (a b : D) : Ip.cutD [a, b] none (some 3) = [a, b] := rfl
end
theorem p1 (a b c d e y : D) : putL 1 y [a, b, c, d, e] = some [a, y, c, d, e] := rfl
theorem p2 (a b c d e y : D) : putL 2 y [a, b, c, d, e] = some [a, b, y, d, e] := rfl
theorem p3 (a b c d e y : D) : putL 3 y [a, b, c, d, e] = some [a, b, c, y, e] := rfl
theorem p4 (a b c d e y : D) : putL 4 y [a, b, c, d, e] = some [a, b, c, d, y] := rfl
theorem gp (M : Sto) : gPow (.int 10) (.int 18) M = some (.int 1000000000000000000, M) := by
  simp [gPow, gIntC]
theorem gm1 (i : Int) (M : Sto) : gMul (.int i) (.int 48271) M = some (.int (i * 48271), M) := g_mul M i 48271 (Or.inr (by decide))
theorem gm2 (i : Int) (M : Sto) : gMul (.int i) (.int 69621) M = some (.int (i * 69621), M) := g_mul M i 69621 (Or.inr (by decide))
theorem gm3 (i : Int) (M : Sto) : gMul (.int i) (.int 5) M = some (.int (i * 5), M) := g_mul M i 5 (Or.inr (by decide))
theorem gm4 (i : Int) (M : Sto) : gMul (.int i) (.int 39373) M = some (.int (i * 39373), M) := g_mul M i 39373 (Or.inr (by decide))
theorem gm5 (i : Int) (M : Sto) : gMul (.int 1013904223) (.int i) M = some (.int (1013904223 * i), M) := g_mul M 1013904223 i (Or.inl (by decide))
theorem gmd (i : Int) (M : Sto) : gMod (.int i) (.int 2147483563) M = some (.int (i % 2147483563), M) := g_mod M i 2147483563 (by decide)
theorem gdv (i : Int) (M : Sto) : gDivW (.int i) (.int 37) M = some (.int (i / 37), M) := g_divW M i 37 (by decide) (by decide)
local macro_rules | `(tactic| walk_at "evm_621bba") => `(tactic| simp only [ev_runF, ev_kRun_rt, ev_kRun_nx, ev_seq, ev_kSeq_nx, ev_kSeq_rt, ev_kSeq_bk, ev_kSeq_ct, ev_skip, ev_set, ev_kSet, ev_drop, ev_kDrop, ev_ret, ev_kRet, ev_retN, ev_if, ev_kIf_t, ev_kIf_f, ev_bad, ev_asg, ev_kAsg, ev_asgO, ev_par, ev_kPar, ev_for, ev_kFor, ev_go_nil, ev_go_cons, ev_goO, ev_kGo_nx, ev_kGo_ct, ev_kGo_rt, ev_iter, ev_kIter_l, ev_kIter_t, ev_kIter_s, ev_rng1, ev_rng2, ev_enum, ev_kEnum_l, ev_kEnum_t,
  ev_var, ev_varO, celL_l, asL_ref, asL_lst, ev_c, ev_bin, ev_kBin, ev_kBin2, ev_un, ev_kUn, ev_nilA, ev_consA, ev_kCons, ev_kCons2, ev_tup, ev_lst, ev_lstC, ev_kTup, ev_kLst, ev_kLstC, ev_callB, ev_kCallB, ev_call, ev_kCall, ev_ifE, ev_kIfE_t, ev_kIfE_f, ev_andV, ev_orV, ev_notV, ev_kAndV_t, ev_kAndV_f, ev_kOrV_t, ev_kOrV_f, ev_kNotV, ev_and, ev_or, ev_not, ev_kAnd_t, ev_kAnd_f, ev_kOr_t, ev_kOr_f, ev_kNot, ev_tru, ev_b, ev_kTru_bl, ev_kTru_lst, ev_kTru_tup, ev_kTru_ref, ev_truO, ev_kB, ev_yes,
  ev_chain, ev_kCh0, ev_kCh1, ev_kCh2_t, ev_kCh2_f, ev_kCh3, ev_sl, ev_kSl1, ev_kSl2, ev_kSl3, ev_part, ev_kPart, ev_noPart, ev_fld, ev_kFld, ev_fldO, ev_lm, ev_kLm, ev_lmO, ev_kLm2, g_app, g_clear, ev_setIx, ev_kSetIx3, ev_setO, ev_kSetIx1, ev_kSetIx2,
  bind_ok, bind_bad, liftM_some, liftM_none, noex_ok, noex_bad, g_ixT, g_ixL, g_ixR, g_add_i, g_sub, g_lt, g_le, g_gt, g_ge, g_is_n, g_isnot_n, g_is_i, g_isnot_i, g_is_t, g_isnot_t, g_eq, g_ne, eq_int, eq_str, eq_bl, eq_nn, eq_ni, eq_in, eq_t2, g_lenT, g_lenL, g_lenR, g_slT, g_slL, g_slS, at0, at1, at2, at3, at4, atm1,
  ev_setFld, ev_kSetFld1, ev_make, ev_kMake, ev_kMake2, ev_meth, ev_kMeth2, ev_lenO, ev_kLenO, ev_reprO, ev_kReprO, ev_kReprO2, ev_fmt, ev_js_nil, ev_js_cons, g_listC, g_tupleR, ev_forS, ev_kForS, ev_iter2, ev_enum2, ev_kIter2_l, ev_kIter2_t, ev_kIter2_s, ev_kEnum2_l, ev_kEnum2_t, ev_lc, ev_kLc, ev_kLcEnd, ev_lc_nil, ev_lc_cons, ev_lcO, ev_kLcT_t, ev_kLcT_f, ev_kLcE, wipeE, g_isi_n, g_isi_b, g_isi_i, g_isi_s, g_isi_t, g_isi_l, isA_ii, isA_ib, isA_it, isA_il, isA_bi, isA_bb, isA_bt, isA_bll, isA_ni, isA_nb, isA_nt, isA_nl, isA_si, isA_sb, isA_st, isA_sl, isA_tt, isA_tl, isA_ti, isA_tb, isA_lt, isA_ll, isA_li, isA_lb, g_neg, g_all, bls_nil, bls_cons, List.all_cons, List.all_nil, id_eq, Bool.and_true, Bool.true_and, Nat.reduceLT,
  app_at, app_set, atn2, atn3, atn4, ar1, ar2, nc0, nc1, nc2, nc3, nc4, nc5, Int.reduceEq, Int.reduceNeg, Int.reduceLT, Int.reduceLE, w_tt, w_to, w_tn, w_ot, w_oo, w_on, w_nt, w_no, w_nn, w_et, w_eo, sl_13, sl_03, sl_1_2, sl_1_3, sl_1_4, sl_03b, sl_03c, tgName, tgTup, tgAll,
  List.length_cons, List.length_nil, List.map_cons, List.map_nil, List.cons_append, List.nil_append, List.getElem?_cons_zero, List.getElem?_cons_succ, List.set_cons_zero, List.set_cons_succ, List.replicate, Option.map_some, Option.map_none, Option.bind_some, Option.bind_none, Bool.not_true, Bool.not_false, and_self, true_and, and_true, Bool.false_eq_true, decide_true, decide_false, reduceIte, Nat.reduceAdd, Nat.reduceSub, Nat.reduceLeDiff, Nat.zero_add, List.isEmpty_cons, List.isEmpty_nil, p1, p2, p3, p4, gp, gm1, gm2, gm3, gm4, gm5, gmd, gdv, List.length_map])
theorem in64_small {m : Int} (h : 0 ≤ m) (h' : m < 2147483563) : in64 m = true := by
  unfold in64
  simp only [Bool.and_eq_true, decide_eq_true_eq]
  constructor <;> omega
def plA : DS := (dSetIx (dVar 0) (dC (.int 4)) (dBin gAdd (dBin gIx (dVar 0) (dC (.int 4))) (dC (.int 1))))
def plB : DS := (dIf (dAnd (dB (dBin (gEq false) (dBin gIx (dVar 0) (dC (.int 2))) (dC (.int 0)))) (dB (dBin gLt (dBin gIx (dVar 0) (dC (.int 1))) (dCallB gLen (dConsA (dBin gIx (dVar 0) (dC (.int 0))) dNilA))))) (dSeq (dSet 3 (dBin gIx (dBin gIx (dVar 0) (dC (.int 0))) (dBin gIx (dVar 0) (dC (.int 1)))))
      (dSeq (dSetIx (dVar 0) (dC (.int 1)) (dBin gAdd (dBin gIx (dVar 0) (dC (.int 1))) (dC (.int 1))))
      (dIf (dB (dBin gGe (dVar 3) (dBin gPow (dC (.int 10)) (dC (.int 18))))) (dSetIx (dVar 0) (dC (.int 2)) (dVar 3)) (dSeq (dSet 2 (dBin gAdd (dBin gMul (dBin gIx (dVar 0) (dC (.int 3))) (dC (.int 48271))) (dBin gMul (dBin gMod (dVar 3) (dC (.int 2147483563))) (dC (.int 69621)))))
      (dSetIx (dVar 0) (dC (.int 3)) (dBin gMod (dBin gAdd (dVar 2) (dC (.int 11))) (dC (.int 2147483563)))))))) dSkip)
/-- the draw itself, once the number to draw from is there -/
def plTail : DS := (dSeq (dIf (dB (dBin gGt (dBin gIx (dVar 0) (dC (.int 2))) (dC (.int 0)))) (dSeq (dSet 4 (dBin gMod (dBin gIx (dVar 0) (dC (.int 2))) (dVar 1)))
      (dSeq (dSetIx (dVar 0) (dC (.int 2)) (dBin gDivW (dBin gIx (dVar 0) (dC (.int 2))) (dVar 1)))
      (dRet (dVar 4)))) dSkip)
      (dSeq (dSet 2 (dBin gAdd (dBin gMul (dBin gMul (dBin gIx (dVar 0) (dC (.int 3))) (dBin gIx (dVar 0) (dC (.int 3)))) (dC (.int 5))) (dBin gMul (dBin gIx (dVar 0) (dC (.int 3))) (dC (.int 39373)))))
      (dSeq (dSetIx (dVar 0) (dC (.int 3)) (dBin gMod (dBin gAdd (dVar 2) (dBin gMul (dC (.int 1013904223)) (dBin gIx (dVar 0) (dC (.int 4))))) (dC (.int 2147483563))))
      (dRet (dBin gMod (dBin gDivW (dBin gIx (dVar 0) (dC (.int 3))) (dC (.int 37))) (dVar 1))))))
theorem tail_ok (ns : List Int) (i j m c n : Int) (a b d : Option D) (G : Sto) (hi : 0 ≤ i) (hj : 0 ≤ j) (hm : 0 ≤ m) (hm' : m < 2147483563) (hc : 0 ≤ c) (hn : 0 < n) (hn' : n < 1000000000000000000) :
    ∃ r l', plTail [some (.ref 0), some (.int n), a, b, d] (.lst (bagD ns i j m c) :: G) = .ok (.rt (.int r)) (.lst l' :: G) ∧ 0 ≤ r ∧ r < n ∧ BagOk l' := by
  unfold plTail bagD
  by_cases h : 0 < j
  · refine ⟨j % n, bagD ns i (j / n) m c, ?_, Int.emod_nonneg _ (by omega), Int.emod_lt_of_pos _ hn, ns, i, j / n, m, c, rfl, hi, Int.ediv_nonneg hj (by omega), hm, hm', hc⟩
    walk_at "evm_621bba"
    simp only [h, decide_true]
    walk_at "evm_621bba"
    rw [g_mod _ _ _ hn]
    walk_at "evm_621bba"
    rw [g_divW _ _ _ hn hn']
    walk_at "evm_621bba"
    simp only [bagD]
  · refine ⟨(m * m * 5 + m * 39373 + 1013904223 * c) % 2147483563 / 37 % n, bagD ns i j ((m * m * 5 + m * 39373 + 1013904223 * c) % 2147483563) c, ?_, Int.emod_nonneg _ (by omega), Int.emod_lt_of_pos _ hn, ns, i, j, _, c, rfl, hi, hj, Int.emod_nonneg _ (by decide), Int.emod_lt_of_pos _ (by decide), hc⟩
    walk_at "evm_621bba"
    simp only [h, decide_false]
    walk_at "evm_621bba"
    rw [g_mul _ m m (Or.inl (in64_small hm hm'))]
    walk_at "evm_621bba"
    rw [g_mod _ _ _ hn]
    walk_at "evm_621bba"
    rfl
theorem at_ints {ns : List Int} {i : Int} (h : 0 ≤ i) (h' : i < ns.length) : ∃ f, atI (ns.map D.int) i = some (.int f) := by
  obtain ⟨k, rfl⟩ : ∃ k : Nat, i = k := ⟨i.toNat, by omega⟩
  have hk : k < ns.length := by omega
  exact ⟨ns[k], atI_nat (by simp [hk])⟩
theorem pull_ok (l : List D) (G : Sto) (n : Int) (hl : BagOk l) (hn : 0 < n) (hn' : n < 1000000000000000000) :
    ∃ r l', F__law_pull [.ref 0, .int n] (.lst l :: G) = .ok (.int r) (.lst l' :: G) ∧ 0 ≤ r ∧ r < n ∧ BagOk l' := by
  obtain ⟨ns, i, j, m, c, rfl, hi, hj, hm, hm', hc⟩ := hl
  -- the counter goes up
  have body : ∀ (a b d : Option D) (i j m : Int), 0 ≤ i → 0 ≤ j → 0 ≤ m → m < 2147483563 → ∃ r l', (plTail [some (.ref 0), some (.int n), a, b, d] (.lst (bagD ns i j m (c + 1)) :: G)).bind kRun = .ok (.int r) (.lst l' :: G) ∧ 0 ≤ r ∧ r < n ∧ BagOk l' := by
    intro a b d i j m h1 h2 h3 h4
    obtain ⟨r, l', e, q⟩ := tail_ok ns i j m (c + 1) n a b d G h1 h2 h3 h4 (by omega) hn hn'
    exact ⟨r, l', by rw [e]; rfl, q⟩
  unfold F__law_pull
  rw [show B__law_pull = dSeq plA (dSeq plB plTail) from rfl]
  unfold plA plB
  by_cases h : j = 0 ∧ i < ns.length
  · obtain ⟨h1, h2⟩ := h
    obtain ⟨f, hf⟩ := at_ints hi h2
    by_cases hb : 1000000000000000000 ≤ f
    · obtain ⟨r, l', e, q⟩ := body none (some (.int f)) none (i + 1) f m (by omega) (by omega) hm hm'
      refine ⟨r, l', ?_, q⟩
      rw [← e]
      unfold bagD
      walk_at "evm_621bba"
      simp only [h1, decide_true]
      walk_at "evm_621bba"
      simp only [decide_true, List.length_map, h2]
      walk_at "evm_621bba"
      rw [hf]
      walk_at "evm_621bba"
      simp only [hb, decide_true]
      walk_at "evm_621bba"
    · obtain ⟨r, l', e, q⟩ := body (some (.int (m * 48271 + f % 2147483563 * 69621))) (some (.int f)) none (i + 1) j ((m * 48271 + f % 2147483563 * 69621 + 11) % 2147483563) (by omega) hj (Int.emod_nonneg _ (by decide)) (Int.emod_lt_of_pos _ (by decide))
      refine ⟨r, l', ?_, q⟩
      rw [← e]
      unfold bagD
      walk_at "evm_621bba"
      simp only [h1, decide_true]
      walk_at "evm_621bba"
      simp only [decide_true, List.length_map, h2]
      walk_at "evm_621bba"
      rw [hf]
      walk_at "evm_621bba"
      simp only [hb, decide_false]
      walk_at "evm_621bba"
  · obtain ⟨r, l', e, q⟩ := body none none none i j m hi hj hm hm'
    refine ⟨r, l', ?_, q⟩
    rw [← e]
    unfold bagD
    by_cases hj0 : j = 0
    · have h2 : ¬ i < ns.length := fun z => h ⟨hj0, z⟩
      walk_at "evm_621bba"
      simp only [hj0, decide_true]
      walk_at "evm_621bba"
      simp only [decide_false, List.length_map, h2]
      walk_at "evm_621bba"
    · walk_at "evm_621bba"
      simp only [hj0, decide_false]
      walk_at "evm_621bba"
local macro_rules | `(tactic| walk_at "evm_bea555") => `(tactic| simp only [ev_runF, ev_kRun_rt, ev_kRun_nx, ev_seq, ev_kSeq_nx, ev_kSeq_rt, ev_kSeq_bk, ev_kSeq_ct, ev_skip, ev_set, ev_kSet, ev_drop, ev_kDrop, ev_ret, ev_kRet, ev_retN, ev_if, ev_kIf_t, ev_kIf_f, ev_bad, ev_asg, ev_kAsg, ev_asgO, ev_par, ev_kPar, ev_for, ev_kFor, ev_go_nil, ev_go_cons, ev_goO, ev_kGo_nx, ev_kGo_ct, ev_kGo_rt, ev_iter, ev_kIter_l, ev_kIter_t, ev_kIter_s, ev_rng1, ev_rng2, ev_enum, ev_kEnum_l, ev_kEnum_t,
  ev_var, ev_varO, celL_l, asL_ref, asL_lst, ev_c, ev_bin, ev_kBin, ev_kBin2, ev_un, ev_kUn, ev_nilA, ev_consA, ev_kCons, ev_kCons2, ev_tup, ev_lst, ev_lstC, ev_kTup, ev_kLst, ev_kLstC, ev_callB, ev_kCallB, ev_call, ev_kCall, ev_ifE, ev_kIfE_t, ev_kIfE_f, ev_andV, ev_orV, ev_notV, ev_kAndV_t, ev_kAndV_f, ev_kOrV_t, ev_kOrV_f, ev_kNotV, ev_and, ev_or, ev_not, ev_kAnd_t, ev_kAnd_f, ev_kOr_t, ev_kOr_f, ev_kNot, ev_tru, ev_b, ev_kTru_bl, ev_kTru_lst, ev_kTru_tup, ev_kTru_ref, ev_truO, ev_kB, ev_yes,
  ev_chain, ev_kCh0, ev_kCh1, ev_kCh2_t, ev_kCh2_f, ev_kCh3, ev_sl, ev_kSl1, ev_kSl2, ev_kSl3, ev_part, ev_kPart, ev_noPart, ev_fld, ev_kFld, ev_fldO, ev_lm, ev_kLm, ev_lmO, ev_kLm2, g_app, g_clear, ev_setIx, ev_kSetIx3, ev_setO, ev_kSetIx1, ev_kSetIx2,
  bind_ok, bind_bad, liftM_some, liftM_none, noex_ok, noex_bad, g_ixT, g_ixL, g_ixR, g_add_i, g_sub, g_lt, g_le, g_gt, g_ge, g_is_n, g_isnot_n, g_is_i, g_isnot_i, g_is_t, g_isnot_t, g_eq, g_ne, eq_int, eq_str, eq_bl, eq_nn, eq_ni, eq_in, eq_t2, g_lenT, g_lenL, g_lenR, g_slT, g_slL, g_slS, at0, at1, at2, at3, at4, atm1,
  ev_setFld, ev_kSetFld1, ev_make, ev_kMake, ev_kMake2, ev_meth, ev_kMeth2, ev_lenO, ev_kLenO, ev_reprO, ev_kReprO, ev_kReprO2, ev_fmt, ev_js_nil, ev_js_cons, g_listC, g_tupleR, ev_forS, ev_kForS, ev_iter2, ev_enum2, ev_kIter2_l, ev_kIter2_t, ev_kIter2_s, ev_kEnum2_l, ev_kEnum2_t, ev_lc, ev_kLc, ev_kLcEnd, ev_lc_nil, ev_lc_cons, ev_lcO, ev_kLcT_t, ev_kLcT_f, ev_kLcE, wipeE, g_isi_n, g_isi_b, g_isi_i, g_isi_s, g_isi_t, g_isi_l, isA_ii, isA_ib, isA_it, isA_il, isA_bi, isA_bb, isA_bt, isA_bll, isA_ni, isA_nb, isA_nt, isA_nl, isA_si, isA_sb, isA_st, isA_sl, isA_tt, isA_tl, isA_ti, isA_tb, isA_lt, isA_ll, isA_li, isA_lb, g_neg, g_all, bls_nil, bls_cons, List.all_cons, List.all_nil, id_eq, Bool.and_true, Bool.true_and, Nat.reduceLT,
  app_at, app_set, atn2, atn3, atn4, ar1, ar2, nc0, nc1, nc2, nc3, nc4, nc5, Int.reduceEq, Int.reduceNeg, Int.reduceLT, Int.reduceLE, w_tt, w_to, w_tn, w_ot, w_oo, w_on, w_nt, w_no, w_nn, w_et, w_eo, sl_13, sl_03, sl_1_2, sl_1_3, sl_1_4, sl_03b, sl_03c, tgName, tgTup, tgAll,
  List.length_cons, List.length_nil, List.map_cons, List.map_nil, List.cons_append, List.nil_append, List.getElem?_cons_zero, List.getElem?_cons_succ, List.set_cons_zero, List.set_cons_succ, List.replicate, Option.map_some, Option.map_none, Option.bind_some, Option.bind_none, Bool.not_true, Bool.not_false, and_self, true_and, and_true, Bool.false_eq_true, decide_true, decide_false, reduceIte, Nat.reduceAdd, Nat.reduceSub, Nat.reduceLeDiff, Nat.zero_add, List.isEmpty_cons, List.isEmpty_nil, p1, p2, p3, p4, gp, gm1, gm2, gm3, gm4, gm5, gmd, gdv])
def bgBody : DS := (dSet 1 (dBin gMod (dBin gAdd (dBin gAdd (dBin gMul (dVar 1) (dC (.int 39373))) (dBin gMod (dVar 2) (dC (.int 2147483563)))) (dC (.int 29))) (dC (.int 2147483563))))
theorem cut_ints (ns : List Int) (lo hi : Option Int) : Ip.cutD (ns.map D.int) lo hi = (Ip.cutD ns lo hi).map D.int := by
  unfold Ip.cutD
  simp only [List.length_map, List.map_drop, List.map_take]
theorem cut_le {α : Type} (ns : List α) (lo hi : Option Int) : (Ip.cutD ns lo hi).length ≤ ns.length := by
  unfold Ip.cutD
  simp only [List.length_take, List.length_drop]
  omega
theorem g_listL (l : List D) (M : Sto) : gList [.lst l] M = some (.lst l, M) := rfl
theorem bag_ok (ns : List Int) (h : ns.length ≤ 63) : ∃ l, F__law_bag [.scr ns] [] = .ok (.ref 0) [.lst l] ∧ BagOk l := by
  have hl := cut_le ns none (some 63)
  generalize hk : Ip.cutD ns none (some 63) = ks at hl
  obtain ⟨e, M', h1, h2, m, a, h3, hm, hm'⟩ := forS_inv (t := tgName 2) (fb := bgBody) (src := .items (ks.map D.int)) ks.length (fun i env M' => M' = [] ∧ ∃ m a, env = [some (.scr ns), some (.int m), a] ∧ 0 ≤ m ∧ m < 2147483563)
    (fun env M' _ => by show some _ = _; simp) (fun i env M' hi ⟨e, m, a, e2, hm, hm'⟩ => by
      subst e e2
      refine ⟨.int ks[i], _, _, _, by show some _ = _; simp [hi], rfl, ?_, rfl, (m * 39373 + ks[i] % 2147483563 + 29) % 2147483563, some (.int ks[i]), rfl, Int.emod_nonneg _ (by decide), Int.emod_lt_of_pos _ (by decide)⟩
      show bgBody [some (.scr ns), some (.int m), some (.int ks[i])] [] = _
      unfold bgBody
      walk_at "evm_bea555") ks.length 0 20000000 [some (.scr ns), some (.int 3804), none] [] (by simp) (by omega) ⟨rfl, 3804, none, rfl, by decide, by decide⟩
  subst h2 h3
  refine ⟨bagD ks 0 0 m 0, ?_, ks, 0, 0, m, 0, rfl, by decide, by decide, hm, hm', by decide⟩
  unfold F__law_bag B__law_bag
  walk_at "evm_bea555"
  rw [cut_ints, hk]
  rw [show (dSet 1 _ : DS) = bgBody from rfl, h1]
  walk_at "evm_bea555"
  rw [cut_ints, hk, g_listL]
  walk_at "evm_bea555"
  rfl
section
set_option Elab.async false
set_option linter.all false
set_option maxRecDepth 100000
set_option maxHeartbeats 1000000
theorem ft__law_pull (n : Int) : FB F__law_pull [en n] (Pr.pull n) := fun b G hb hG => ⟨fun Q E ⟨h0, h1, q⟩ => by
  obtain ⟨r, l', e, r0, r1, hb'⟩ := pull_ok b G n hb h0 (by omega)
  rw [show F__law_pull (.ref 0 :: [en n]) (.lst b :: G) = .ok (.int r) (.lst l' :: G) from e]
  exact ⟨r, q r r0 r1, rfl, l', hb', rfl⟩⟩
theorem ft__law_pullB (n : Int) : FB F__law_pull [en n] (Pr.pullB n) := fun b G hb hG => ⟨fun Q E ⟨h0, h1, q⟩ => by
  obtain ⟨r, l', e, r0, r1, hb'⟩ := pull_ok b G n hb h0 h1
  rw [show F__law_pull (.ref 0 :: [en n]) (.lst b :: G) = .ok (.int r) (.lst l' :: G) from e]
  exact ⟨r, q r r0 r1, rfl, l', hb', rfl⟩⟩
end
section
set_option Elab.async false
set_option linter.all false
set_option maxRecDepth 100000
set_option maxHeartbeats 4000000
theorem of_ok (l L : List D) (G : Sto) (hl : BagOk l) (hL : L ≠ []) (hs : L.length < 1073741824) :
    ∃ d l', F__law_of [.ref 0, .lst L] (.lst l :: G) = .ok d (.lst l' :: G) ∧ d ∈ L ∧ BagOk l' := by
  have h0 : 0 < L.length := List.length_pos_iff.mpr hL
  obtain ⟨r, l', e, r0, r1, hb⟩ := pull_ok l G (L.length : Nat) hl (by omega) (by omega)
  obtain ⟨k, rfl⟩ : ∃ k : Nat, r = k := ⟨r.toNat, by omega⟩
  have hr : k < L.length := by omega
  refine ⟨L[k], l', ?_, List.getElem_mem _, hb⟩
  have ea : atI L (k : Int) = some L[k] := atI_nat (by simp [hr])
  unfold F__law_of B__law_of
  walk_at "evm_621bba"
  rw [e]
  walk_at "evm_621bba"
  rw [ea]
  walk_at "evm_621bba"
end
section
set_option Elab.async false
set_option linter.all false
set_option maxRecDepth 100000
set_option maxHeartbeats 1000000
theorem ft__law_of {α : Type} [Enc α] (l : List α) : FB F__law_of [en l] (Pr.of l) := fun b G hb hG => ⟨fun Q E ⟨h0, h1, q⟩ => by
  obtain ⟨d, l', e, hd, hb'⟩ := of_ok b (l.map en) G hb (by simpa using h0) (by simpa using h1)
  obtain ⟨x, hx, rfl⟩ := List.mem_map.mp hd
  rw [show F__law_of (.ref 0 :: [en l]) (.lst b :: G) = .ok (en x) (.lst l' :: G) from e]
  exact ⟨x, q x hx, rfl, l', hb', rfl⟩⟩
abbrev Cmd := T3 Str Int Int
end
section
set_option Elab.async false
set_option linter.all false
set_option maxRecDepth 100000
set_option maxHeartbeats 4000000
theorem of_okR (l L : List D) (G : Sto) (n : Nat) (hl : BagOk l) (hL : L ≠ []) (hs : L.length < 1073741824) (hn : G[n]? = some (.lst L)) :
    ∃ d l', F__law_of [.ref 0, .ref (n + 1)] (.lst l :: G) = .ok d (.lst l' :: G) ∧ d ∈ L ∧ BagOk l' := by
  have h0 : 0 < L.length := List.length_pos_iff.mpr hL
  obtain ⟨r, l', e, r0, r1, hb⟩ := pull_ok l G (L.length : Nat) hl (by omega) (by omega)
  obtain ⟨k, rfl⟩ : ∃ k : Nat, r = k := ⟨r.toNat, by omega⟩
  have hr : k < L.length := by omega
  refine ⟨L[k], l', ?_, List.getElem_mem _, hb⟩
  have ea : atI L (k : Int) = some L[k] := atI_nat (by simp [hr])
  unfold F__law_of B__law_of
  walk_at "evm_621bba"
  rw [hn]
  walk_at "evm_621bba"
  rw [e]
  walk_at "evm_621bba"
  rw [hn]
  walk_at "evm_621bba"
  rw [ea]
  walk_at "evm_621bba"
theorem of_c {α : Type} [Enc α] {G : Sto} {cs : List (Nat × Cell)} {M : Sto} {X : Sto → Prop} {n : Nat} {l : List α} (j : Nat) (hj : cs[j]? = some (n, .lst (l.map en))) (hM : St (G.length + 1) (BagP G) cs M) : Sat (noex (F__law_of [.ref 0, .ref n] M)) (Pr.of l) (relE (St (G.length + 1) (BagP G) cs)) X := by
  have hn := hM.get j hj
  have hge := (hM.cell _ (List.mem_of_getElem? hj)).1
  obtain ⟨b, K, hb, rfl, hK, hs⟩ := hM.bag
  have hge : G.length + 1 ≤ n := hge
  obtain ⟨m, rfl⟩ : ∃ m, n = m + 1 := ⟨n - 1, by omega⟩
  refine ⟨fun Q E ⟨h0, h1, q⟩ => ?_⟩
  obtain ⟨d, l', e, hd, hb'⟩ := of_okR b (l.map en) K m hb (by simpa using h0) (by simpa using h1) (by simpa using hn)
  obtain ⟨x, hx, rfl⟩ := List.mem_map.mp hd
  rw [e]
  exact ⟨x, q x hx, rfl, hs l' hb'⟩
end
section
set_option Elab.async false
set_option linter.all false
set_option maxRecDepth 100000
set_option maxHeartbeats 4000000
structure SeqV (x : D) (l : List D) (M : Sto) (ty : String) : Prop where
  ty_ : tyD x M = some ty
  len : gLen [x] M = some (.int (l.length : Nat), M)
  ix : ∀ (i : Nat) (d : D), l[i]? = some d → gIx x (.int (i : Nat)) M = some (d, M)
theorem seq_tup (l : List D) (M : Sto) : SeqV (.tup l) l M "tuple" := ⟨rfl, rfl, fun i d h => by rw [g_ixT, atI_nat h]; rfl⟩
theorem seq_lst (l : List D) (M : Sto) : SeqV (.lst l) l M "list" := ⟨rfl, rfl, fun i d h => by rw [g_ixL, atI_nat h]; rfl⟩
theorem seq_ref (n : Nat) (l : List D) (M : Sto) (hm : M[n]? = some (.lst l)) : SeqV (.ref n) l M "list" := ⟨by
    show (match M[n]? with
      | some (.lst _) => some "list"
      | _ => none) = _
    rw [hm], by rw [g_lenR, hm]; rfl, fun i d h => by rw [g_ixR, hm, celL_l]; simp only [Option.bind_some]; rw [atI_nat h]; rfl⟩
theorem isi_of {x : D} {l : List D} {M : Sto} {ty : String} (h : SeqV x l M ty) (T : String) : gIsi T x M = (isA ty T).map fun b => (.bl b, M) := by
  unfold gIsi
  rw [h.ty_]
theorem isi2_of {x : D} {l : List D} {M : Sto} {ty : String} (h : SeqV x l M ty) (T U : String) (b c : Bool) (hb : isA ty T = some b) (hc : isA ty U = some c) : gIsi2 T U x M = some (.bl (b || c), M) := by
  unfold gIsi2
  rw [h.ty_]
  simp only [hb, hc]
def lkE (k : Nat) : DE := dCall (F__law_like k) (dConsA (dBin gIx (dVar 0) (dVar 2)) (dConsA (dBin gIx (dVar 1) (dVar 2)) dNilA))
theorem like_lc (k : Nat) (x y : D) (as bs : List D) (M : Sto) (ty : String) (hx : SeqV x as M ty) (hy : SeqV y bs M ty) (hl : as.length = bs.length) (hs : bs.length ≤ 1000)
    (h : ∀ (i : Nat) (a b : D), as[i]? = some a → bs[i]? = some b → F__law_like k [a, b] M = .ok (.bl true) M) :
    lcGo (tgName 2) dYes (lkE k) (rngD 0 bs.length) [] [some x, some y, none] M = .ok ((rngD 0 bs.length).map fun _ => D.bl true) M := by
  have := lc_map [some x, some y, none] M (tgName 2) (lkE k) (fun _ => .bl true) (rngD 0 bs.length) [] (fun d hd => by
      unfold rngD at hd
      rw [List.mem_map] at hd
      obtain ⟨i, hi, rfl⟩ := hd
      have hi' : i < bs.length := List.mem_range.mp hi
      have e0 : (0 : Int) + (i : Nat) = (i : Nat) := by omega
      rw [e0]
      refine ⟨_, rfl, ?_⟩
      have h1 := hx.ix i as[i] (List.getElem?_eq_getElem (by omega))
      have h2 := hy.ix i bs[i] (List.getElem?_eq_getElem hi')
      have h3 := h i as[i] bs[i] (List.getElem?_eq_getElem (by omega)) (List.getElem?_eq_getElem hi')
      show lkE k [some x, some y, some (.int (i : Nat))] M = _
      unfold lkE
      walk_at "evm_bea555"
      rw [h1]
      walk_at "evm_bea555"
      rw [h2]
      walk_at "evm_bea555"
      rw [h3]
      walk_at "evm_bea555") (by rw [rngD, List.length_map, List.length_range, List.length_nil]; omega)
  rw [this, List.nil_append]
theorem bls_rep (n : Nat) : bls ((rngD 0 n).map fun _ => D.bl true) = some (List.replicate n true) := by
  have g : ∀ n : Nat, bls (List.replicate n (D.bl true)) = some (List.replicate n true) := fun n => by
    induction n with
    | zero => rfl
    | succ n ih => rw [List.replicate_succ, bls_cons, ih]; rfl
  rw [← g]
  congr 1
  rw [List.eq_replicate_iff]
  constructor
  · rw [List.length_map, rngD, List.length_map, List.length_range]
  · intro b hb
    rw [List.mem_map] at hb
    obtain ⟨_, _, e⟩ := hb
    exact e.symm
theorem in62_len {n : Nat} (h : n ≤ 1000000) : in62 ((n : Nat) : Int) = true := by
  unfold in62
  simp only [Bool.and_eq_true, decide_eq_true_eq]
  constructor <;> omega
theorem all_rep (n : Nat) : (List.replicate n true).all id = true := by
  rw [List.all_eq_true]
  intro b hb
  rw [List.mem_replicate] at hb
  rw [hb.2]; rfl
theorem rng1_of (fe : DE) (n : Nat) (env : En) (M : Sto) (h : fe env M = .ok (.int (n : Nat)) M) (hn : n ≤ 1000000) : dRng1 (dConsA fe dNilA) env M = .ok (rngD 0 n) M := by
  rw [ev_rng1, ev_consA, h, bind_ok, ev_kCons, ev_nilA, bind_ok, ev_kCons2, bind_ok, ev_kRng1 _ _ (in62_len hn), Int.toNat_natCast]
theorem len_of {x : D} {l : List D} {M : Sto} {ty : String} (h : SeqV x l M ty) (env : En) {v : Nat} (hv : env[v]? = some (some x)) : dCallB gLen (dConsA (dVar v) dNilA) env M = .ok (.int (l.length : Nat)) M := by
  rw [ev_callB, ev_consA, ev_var, hv, ev_varO, bind_ok, ev_kCons, ev_nilA, bind_ok, ev_kCons2, bind_ok, ev_kCallB, h.len, liftM_some]
theorem like_main (k : Nat) (x y : D) (as bs : List D) (M : Sto) (ty : String) (hx : SeqV x as M ty) (hy : SeqV y bs M ty) (hl : as.length = bs.length) (hs : bs.length ≤ 1000)
    (hlc : lcGo (tgName 2) dYes (lkE k) (rngD 0 bs.length) [] [some x, some y, none] M = .ok ((rngD 0 bs.length).map fun _ => D.bl true) M) (b c : Bool) (h1 : isA ty "tuple" = some b) (h2 : isA ty "list" = some c) (h3 : (b || c) = true) : F__law_like (k + 1) [x, y] M = .ok (.bl true) M := by
  have hin := in62_len (show bs.length ≤ 1000000 by omega)
  have ht : ((bs.length : Nat) : Int).toNat = bs.length := Int.toNat_natCast _
  have hq := all_rep bs.length
  show runF 3 2 (B__law_like (F__law_like k)) [x, y] M = _
  unfold B__law_like
  walk_at "evm_bea555"
  rw [isi2_of hy "tuple" "list" b c h1 h2, h3]
  walk_at "evm_bea555"
  rw [isi_of hx, h1]
  walk_at "evm_bea555"
  rw [isi_of hy, h1]
  walk_at "evm_bea555"
  rw [isi_of hx, h2]
  walk_at "evm_bea555"
  rw [isi_of hy, h2]
  walk_at "evm_bea555"
  rw [hx.len]
  walk_at "evm_bea555"
  rw [hy.len]
  walk_at "evm_bea555"
  rw [hl, decide_eq_true rfl, ev_kAndV_t, ev_callB, ev_consA, ev_lc, rng1_of _ bs.length _ M (len_of hy _ rfl) (by omega), bind_ok, ev_kLc]
  rw [show wipeE [some x, some y, none] [2] = [some x, some y, none] from rfl, show (dCall (F__law_like k) _ : DE) = lkE k from rfl, hlc]
  walk_at "evm_bea555"
  rw [bls_rep]
  walk_at "evm_bea555"
  rw [hq]
theorem like_seq (k : Nat) (x y : D) (as bs : List D) (M : Sto) (ty : String) (ht : ty = "tuple" ∨ ty = "list") (hx : SeqV x as M ty) (hy : SeqV y bs M ty) (hl : as.length = bs.length) (hs : bs.length ≤ 1000)
    (h : ∀ (i : Nat) (a b : D), as[i]? = some a → bs[i]? = some b → F__law_like k [a, b] M = .ok (.bl true) M) : F__law_like (k + 1) [x, y] M = .ok (.bl true) M := by
  have hlc := like_lc k x y as bs M ty hx hy hl hs h
  rcases ht with rfl | rfl
  · exact like_main k x y as bs M _ hx hy hl hs hlc true false isA_tt isA_tl rfl
  · exact like_main k x y as bs M _ hx hy hl hs hlc false true isA_lt isA_ll rfl
theorem like_int (k : Nat) (i : Int) (M : Sto) : F__law_like (k + 1) [.int i, .int i] M = .ok (.bl true) M := by
  show runF 3 2 (B__law_like (F__law_like k)) _ M = _
  unfold B__law_like
  walk_at "evm_bea555"
  rw [show gIsi2 "tuple" "list" (.int i) M = some (.bl false, M) by unfold gIsi2 tyD; simp only [isA_it, isA_il]; rfl]
  walk_at "evm_bea555"
theorem like_str (k : Nat) (s : Str) (M : Sto) : F__law_like (k + 1) [.str s, .str s] M = .ok (.bl true) M := by
  show runF 3 2 (B__law_like (F__law_like k)) _ M = _
  unfold B__law_like
  walk_at "evm_bea555"
  rw [show gIsi2 "tuple" "list" (.str s) M = some (.bl false, M) by unfold gIsi2 tyD; simp only [isA_st, isA_sl]; rfl]
  walk_at "evm_bea555"
  rw [show gIs false (.str s) .non M = some (.bl false, M) from rfl]
  walk_at "evm_bea555"
  rw [show gIs false (.str s) .non M = some (.bl false, M) from rfl]
  walk_at "evm_bea555"
theorem like_non (k : Nat) (M : Sto) : F__law_like (k + 1) [.non, .non] M = .ok (.bl true) M := by
  show runF 3 2 (B__law_like (F__law_like k)) _ M = _
  unfold B__law_like
  walk_at "evm_bea555"
  rw [show gIsi2 "tuple" "list" .non M = some (.bl false, M) by unfold gIsi2 tyD; simp only [isA_nt, isA_nl]; rfl]
  walk_at "evm_bea555"
end
section
set_option Elab.async false
set_option linter.all false
set_option maxRecDepth 100000
set_option maxHeartbeats 1000000
theorem like_bl' (k : Nat) (b : Bool) (M : Sto) : F__law_like (k + 1) [.bl b, .bl b] M = .ok (.bl true) M := by
  show runF 3 2 (B__law_like (F__law_like k)) _ M = _
  unfold B__law_like
  cases b
  · walk_at "evm_bea555"
    rfl
  · walk_at "evm_bea555"
    rfl
theorem lkDs_get : ∀ {k : Nat} {l : List D} {i : Nat} {d : D}, lkDs k l = true → l[i]? = some d → lkD k d = true
  | _, [], _, _, _, h => by simp at h
  | k, x :: l, 0, d, h, e => by
    simp only [lkDs, Bool.and_eq_true] at h
    have : x = d := by simpa using e
    rw [← this]; exact h.1
  | k, x :: l, i + 1, d, h, e => by
    simp only [lkDs, Bool.and_eq_true] at h
    exact lkDs_get h.2 (by simpa using e)
theorem like_D : ∀ (k : Nat) (d : D) (M : Sto), lkD k d = true → F__law_like k [d, d] M = .ok (.bl true) M
  | 0, d, M, h => by simp [lkD] at h
  | k + 1, d, M, h => by
    cases d with
    | non => exact like_non k M
    | bl b => exact like_bl' k b M
    | int i => exact like_int k i M
    | str s => exact like_str k s M
    | tup l =>
      simp only [lkD, Bool.and_eq_true, decide_eq_true_eq] at h
      exact like_seq k _ _ l l M "tuple" (.inl rfl) (seq_tup l M) (seq_tup l M) rfl h.1 fun i a b ha hb => by
        rw [ha] at hb; cases hb
        exact like_D k a M (lkDs_get h.2 ha)
    | lst l =>
      simp only [lkD, Bool.and_eq_true, decide_eq_true_eq] at h
      exact like_seq k _ _ l l M "list" (.inr rfl) (seq_lst l M) (seq_lst l M) rfl h.1 fun i a b ha hb => by
        rw [ha] at hb; cases hb
        exact like_D k a M (lkDs_get h.2 ha)
    | _ => simp [lkD] at h
theorem ft__law_like {α β : Type} [Enc α] [Enc β] (k : Nat) (a : α) (b : β) : FP (F__law_like k) [en a, en b] (lk k a b) := fun M _ => ⟨fun Q E ⟨e, h, q⟩ => by
  rw [← e, like_D k (en a) M h]
  exact ⟨true, q, rfl, rfl⟩⟩
end
section
set_option Elab.async false
set_option linter.all false
set_option maxRecDepth 100000
set_option maxHeartbeats 1000000
def lkL {α β γ : Type} [Enc α] [Enc β] [Enc γ] (k : Nat) (a : List α) (b : List β) (c : List γ) : Pr Bool := fun Q _ => a.map en = b.map en ++ [en c] ∧ lkD k (en a) = true ∧ Q true
theorem likeL {α β γ : Type} [Enc α] [Enc β] [Enc γ] {X : Sto → Prop} {N : Nat} {P : Sto → Prop} {cs : List (Nat × Cell)} {M : Sto} {n m : Nat} (k i j : Nat) (a : List α) (b : List β) (c : List γ) (hi : cs[i]? = some (n, .lst (a.map en))) (hj : cs[j]? = some (m, .lst (c.map en))) (hM : St N P cs M) :
    Sat (noex (F__law_like k [.ref n, .lst (b.map en ++ [.ref m])] M)) (lkL k a b c) (relE (St N P cs)) X := ⟨fun Q E ⟨e, h, q⟩ => by
  have h1 := hM.get i hi
  have h2 := hM.get j hj
  cases k with
  | zero => simp [lkD] at h
  | succ k =>
    have h' : lkD (k + 1) (.lst (a.map en)) = true := h
    simp only [lkD, Bool.and_eq_true, decide_eq_true_eq] at h'
    have hl : (a.map en).length = (b.map en ++ [D.ref m]).length := by rw [e]; simp
    have e2 : F__law_like (k + 1) [.ref n, .lst (b.map en ++ [.ref m])] M = .ok (.bl true) M := like_seq k _ _ (a.map en) (b.map en ++ [.ref m]) M "list" (.inr rfl) (seq_ref n _ M h1) (seq_lst _ M) hl (by rw [← hl]; exact h'.1) fun x y z hy hz => by
      have hk := lkDs_get h'.2 hy
      rw [e] at hy
      by_cases hx : x < (b.map (en (α := β))).length
      · rw [List.getElem?_append_left hx] at hy hz
        rw [hy] at hz; cases hz
        exact like_D k y M hk
      · rw [List.getElem?_append_right (by omega)] at hy hz
        cases hd : x - (b.map (en (α := β))).length with
        | succ u => rw [hd] at hy; cases hy
        | zero =>
          rw [hd] at hy hz
          cases hy; cases hz
          cases k with
          | zero => simp [lkD] at hk
          | succ k =>
            have hk' : lkD (k + 1) (.lst (c.map en)) = true := hk
            simp only [lkD, Bool.and_eq_true, decide_eq_true_eq] at hk'
            exact like_seq k _ _ (c.map en) (c.map en) M "list" (.inr rfl) (seq_lst _ M) (seq_ref m _ M h2) rfl hk'.1 fun x y z hy hz => by
              rw [hy] at hz; cases hz
              exact like_D k y M (lkDs_get hk'.2 hy)
    rw [e2]
    exact ⟨true, q, rfl, hM⟩⟩
end
section
set_option Elab.async false
set_option linter.all false
set_option maxRecDepth 100000
set_option maxHeartbeats 1000000
def t__law_command (p_far : Int) : Pr (T3 Str Int Int) :=
  (((Pr.of ([(4 : Int), (9 : Int), p_far] : (List Int))).bind fun (a5 : Int) => (Pr.pull a5)).bind fun (at_8 : Int) =>
  (((Pr.pull (2 : Int)).bind fun (a13 : Int) => (Pr.ok (decide (a13 = (0 : Int))))).bind fun c => if c then ((Pr.of ([(1 : Int), (1 : Int), (2 : Int), (3 : Int)] : (List Int))).bind fun (a21 : Int) => (Pr.ok ((T3.mk ("insert" : Str) at_8 a21) : (T3 Str Int Int)))) else
  (((Pr.of ([(0 : Int), (0 : Int), (1 : Int), (3 : Int)] : (List Int))).bind fun (b32 : Int) => (Pr.ok (at_8 + b32))).bind fun (a35 : Int) => (Pr.ok ((T3.mk ("delete" : Str) at_8 a35) : (T3 Str Int Int))))))
theorem ft__law_command (p_far : Int) : FB F__law_command [(en (α := Int) p_far)] (t__law_command p_far) := run_b (env0 := [some (.ref 0), some (en (α := Int) p_far), none]) rfl rfl (fun G M hM => by
  unfold B__law_command t__law_command
  exact (seq_setx (env1 := fun (at_8 : Int) => [some (.ref 0), some (en (α := Int) p_far), some (en (α := Int) at_8)]) (fun _ => rfl) (fun M1 h2 => (arg_p (pv (d := .ref 0) rfl) h2 (arg_e (fun M3 h4 => (arg_p (pv (d := .ref 0) rfl) h4 (arg_p (lst_v (av_cons (x := (en (α := Int) (4 : Int))) pv_c (av_cons (x := (en (α := Int) (9 : Int))) pv_c (av_cons (x := (en (α := Int) p_far)) (pv (d := (en (α := Int) p_far)) rfl) av_nil)))) h4 (arg_nil (callB (ft__law_of ([(4 : Int), (9 : Int), p_far] : (List Int))) h4))))) h2 (fun (a5 : Int) M6 h7 => (arg_nil (callB (ft__law_pull a5) h7)))))) hM (fun (at_8 : Int) M9 h10 =>
  (seq_ifx (b_x (bin_ep (γ := Bool) (fun M11 h12 => (arg_p (pv (d := .ref 0) rfl) h12 (arg_p pv_c h12 (arg_nil (callB (ft__law_pull (2 : Int)) h12))))) pv_c (fun a13 => (gs_ok (c := (decide (a13 = (0 : Int)))) fun M _ => geqI _ _ M)))) h10 (fun M15 h16 => (seq_retx' (fun M19 h20 => (arg_p pv_c h20 (arg_p (pv (d := (en (α := Int) at_8)) rfl) h20 (arg_e (fun M17 h18 => (arg_p (pv (d := .ref 0) rfl) h18 (arg_p (lst_v (av_cons (x := (en (α := Int) (1 : Int))) pv_c (av_cons (x := (en (α := Int) (1 : Int))) pv_c (av_cons (x := (en (α := Int) (2 : Int))) pv_c (av_cons (x := (en (α := Int) (3 : Int))) pv_c av_nil))))) h18 (arg_nil (callB (ft__law_of ([(1 : Int), (1 : Int), (2 : Int), (3 : Int)] : (List Int))) h18))))) h20 (fun (a21 : Int) M22 h23 => (arg_nil (seq_end (mk := D.tup) (a := ((T3.mk ("insert" : Str) at_8 a21) : (T3 Str Int Int))) rfl h23))))))) h16 (fun r24 M25 h26 => ⟨rfl, h26⟩)))
  (fun M27 h28 => (seq_skip (last_of (seq_retx' (fun M33 h34 => (arg_p pv_c h34 (arg_p (pv (d := (en (α := Int) at_8)) rfl) h34 (arg_e (bin_pe (γ := Int) (pv (d := (en (α := Int) at_8)) rfl) (fun M29 h30 => (arg_p (pv (d := .ref 0) rfl) h30 (arg_p (lst_v (av_cons (x := (en (α := Int) (0 : Int))) pv_c (av_cons (x := (en (α := Int) (0 : Int))) pv_c (av_cons (x := (en (α := Int) (1 : Int))) pv_c (av_cons (x := (en (α := Int) (3 : Int))) pv_c av_nil))))) h30 (arg_nil (callB (ft__law_of ([(0 : Int), (0 : Int), (1 : Int), (3 : Int)] : (List Int))) h30))))) (fun b32 => (gs_ok (c := (at_8 + b32)) fun M _ => rfl))) h34 (fun (a35 : Int) M36 h37 => (arg_nil (seq_end (mk := D.tup) (a := ((T3.mk ("delete" : Str) at_8 a35) : (T3 Str Int Int))) rfl h37))))))) h28 (fun r38 M39 h40 => ⟨rfl, h40⟩)))))))))
def t__law_script (p_most : Int) : Pr (List (T3 Str Int Int)) :=
  (((Pr.pull (p_most + (1 : Int))).bind fun (n3 : Int) => Pr.need (sm n3) (Pr.ok (rngI 0 (Int.toNat n3)))).bind fun (l7 : List Int) => Pr.need (l7.length ≤ 16777216) (Pr.lcM l7 (fun (x4 : Int) => (Pr.ok true)) (fun (x4 : Int) => (t__law_command (12 : Int)))))
theorem ft__law_script (p_most : Int) : FBC F__law_script [(en (α := Int) p_most)] (t__law_script p_most) := by
  unfold F__law_script B__law_script
  exact run_bC (run_b (env0 := [some (.ref 0), some (en (α := Int) p_most), none]) rfl rfl (fun G M hM => by
  unfold t__law_script
  exact (last_of (seq_retx' (lc_x (enc := D.int) (c := fun (x4 : Int) => (Pr.ok true)) (g := fun (x4 : Int) => (t__law_command (12 : Int))) (rng1_x (fun M1 h2 => (arg_p (pv (d := .ref 0) rfl) h2 (arg_p (bin_v (z := (en (α := Int) (p_most + (1 : Int)))) (pv (d := (en (α := Int) p_most)) rfl) pv_c (fun M _ => rfl)) h2 (arg_nil (callB (ft__law_pull (p_most + (1 : Int))) h2)))))) (fun x4 => ⟨[some (.ref 0), some (en (α := Int) p_most), some (en (α := Int) x4)], rfl, (TV.tx yes_tv), (fun M5 h6 => (arg_p (pv (d := .ref 0) rfl) h6 (arg_p pv_c h6 (arg_nil (callB (ft__law_command (12 : Int)) h6)))))⟩)) hM (fun r8 M9 h10 => ⟨rfl, h10⟩)))))
def t_is_number (p_value : Da) : Pr Bool :=
  ((op1 (α := Da) (γ := Bool) (gIsi "int") p_value).bind fun a => if a then ((op1 (α := Da) (γ := Bool) (gIsi "bool") p_value).bind fun b => Pr.ok (!b)) else Pr.ok false)
theorem ft_is_number (p_value : Da) : FP F_is_number [(en (α := Da) p_value)] (t_is_number p_value) := run_p (env0 := [some (en (α := Da) p_value)]) rfl rfl (fun M0 M hM => by
  unfold B_is_number t_is_number
  exact (last_of (seq_retx' (andV_x (un_p (γ := Bool) (pv (d := (en (α := Da) p_value)) rfl) (gu_op1 (α := Da) (a := p_value))) (notV_x (un_p (γ := Bool) (pv (d := (en (α := Da) p_value)) rfl) (gu_op1 (α := Da) (a := p_value))))) hM (fun r5 M6 h7 => ⟨rfl, h7⟩))))
def t_are_numbers (p_values : Da) (p_many : Int) : Pr Bool :=
  (((lenD p_values).bind fun (a3 : Int) => (Pr.ok (decide (a3 = p_many)))).bind fun a => if a then (((itemsD p_values).bind fun (l10 : List Da) => Pr.need (l10.length ≤ 16777216) (Pr.lcM l10 (fun (x7 : Da) => (Pr.ok true)) (fun (x7 : Da) => (t_is_number x7)))).bind fun (a11 : (List Bool)) => (Pr.ok (a11.all id))) else Pr.ok false)
theorem ft_are_numbers (p_values : Da) (p_many : Int) : FP F_are_numbers [(en (α := Da) p_values), (en (α := Int) p_many)] (t_are_numbers p_values p_many) := run_p (env0 := [some (en (α := Da) p_values), some (en (α := Int) p_many), none]) rfl rfl (fun M0 M hM => by
  unfold B_are_numbers t_are_numbers
  exact (last_of (seq_retx' (andV_x (bin_ep (γ := Bool) (lenD_v (a := p_values) (pv (d := (en (α := Da) p_values)) rfl)) (pv (d := (en (α := Int) p_many)) rfl) (fun a3 => (gs_ok (c := (decide (a3 = p_many))) fun M _ => geqI _ _ M))) (fun M5 h6 => (arg_e (lc_x (enc := (en (α := Da))) (c := fun (x7 : Da) => (Pr.ok true)) (g := fun (x7 : Da) => (t_is_number x7)) (iterD_v (a := p_values) (pv (d := (en (α := Da) p_values)) rfl)) (fun x7 => ⟨[some (en (α := Da) p_values), some (en (α := Int) p_many), some (en (α := Da) x7)], rfl, (TV.tx yes_tv), (fun M8 h9 => (arg_p (pv (d := (en (α := Da) x7)) rfl) h9 (arg_nil (callP (ft_is_number x7) h9))))⟩)) h6 (fun (a11 : (List Bool)) M12 h13 => (arg_nil (callB_end (c := a11.all id) h13 (fun M _ => gAll_v a11 M))))))) hM (fun r14 M15 h16 => ⟨rfl, h16⟩))))
def t_is_command (p_item : Da) : Pr Bool :=
  ((((op1 (α := Da) (γ := Bool) (gIsi "tuple") p_item).bind fun b => Pr.ok (!b)).bind fun a => if a then Pr.ok true else (((op1 (α := Da) (γ := Da) (fun x M => gSl x (some (1 : Int)) none M) p_item).bind fun (a5 : Da) => (t_are_numbers a5 (2 : Int))).bind fun b => Pr.ok (!b))).bind fun c => if c then (Pr.ok false) else
  ((cast (α := Da) (β := (T3 Da Da Da)) p_item).bind fun (u12 : (T3 Da Da Da)) =>
  ((op2 (α := Da) (β := Str) (γ := Bool) (gEq false) u12.p1 ("insert" : Str)).bind fun c => if c then (((cast (α := Da) (β := Int) u12.p2).bind fun (a19 : Int) => (Pr.ok (decide (a19 ≥ (0 : Int))))).bind fun a => if a then ((cast (α := Da) (β := Int) u12.p3).bind fun (a21 : Int) => (Pr.ok (decide (a21 ≥ (1 : Int))))) else Pr.ok false) else
  ((op2 (α := Da) (β := Str) (γ := Bool) (gEq false) u12.p1 ("delete" : Str)).bind fun a => if a then ((Pr.ok (0 : Int)).bind fun (x30 : Int) => (cast (α := Da) (β := Int) u12.p2).bind fun (y31 : Int) => if decide (x30 ≤ y31) then (cast (α := Da) (β := Int) u12.p3).bind fun (z32 : Int) => Pr.ok (decide (y31 ≤ z32)) else Pr.ok false) else Pr.ok false))))
theorem ft_is_command (p_item : Da) : FP F_is_command [(en (α := Da) p_item)] (t_is_command p_item) := run_p (env0 := [some (en (α := Da) p_item), none, none, none]) rfl rfl (fun M0 M hM => by
  unfold B_is_command t_is_command
  exact (seq_ifx (or_tx (not_tx (tru_b (un_p (γ := Bool) (pv (d := (en (α := Da) p_item)) rfl) (gu_op1 (α := Da) (a := p_item))))) (not_tx (tru_b (fun M3 h4 => (arg_e (sl_op (γ := Da) (a := p_item) (pv (d := (en (α := Da) p_item)) rfl) (ov_s (i := (1 : Int)) pv_c) ov_n) h4 (fun (a5 : Da) M6 h7 => (arg_p pv_c h7 (arg_nil (callP (ft_are_numbers a5 (2 : Int)) h7))))))))) hM (fun M8 h9 => (seq_ret (x := (en (α := Bool) false)) pv_c h9 ⟨rfl, h9⟩))
  (fun M10 h11 => (seq_skip (seq_asgx (env1 := fun (u12 : (T3 Da Da Da)) => [some (en (α := Da) p_item), some (en (α := Da) u12.p1), some (en (α := Da) u12.p2), some (en (α := Da) u12.p3)]) (PV.cast (α := Da) (β := (T3 Da Da Da)) (a := p_item) (pv (d := (en (α := Da) p_item)) rfl)) (fun _ => rfl) h11 (fun (u12 : (T3 Da Da Da)) M13 h14 =>
  (seq_ifx (b_x (bin_pp (γ := Bool) (P := (op2 (α := Da) (β := Str) (γ := Bool) (gEq false) u12.p1 ("insert" : Str))) (pv (d := (en (α := Da) u12.p1)) rfl) pv_c (gs_op2 (α := Da) (β := Str) (γ := Bool) (a := u12.p1) (b := ("insert" : Str))))) h14 (fun M17 h18 => (seq_retx' (andV_x (bin_ep (γ := Bool) (PV.cast (α := Da) (β := Int) (a := u12.p2) (pv (d := (en (α := Da) u12.p2)) rfl)) pv_c (fun a19 => (gs_ok (c := (decide (a19 ≥ (0 : Int)))) fun M _ => rfl))) (bin_ep (γ := Bool) (PV.cast (α := Da) (β := Int) (a := u12.p3) (pv (d := (en (α := Da) u12.p3)) rfl)) pv_c (fun a21 => (gs_ok (c := (decide (a21 ≥ (1 : Int)))) fun M _ => rfl)))) h18 (fun r23 M24 h25 => ⟨rfl, h25⟩)))
  (fun M26 h27 => (seq_skip (last_of (seq_retx' (andV_x (bin_pp (γ := Bool) (P := (op2 (α := Da) (β := Str) (γ := Bool) (gEq false) u12.p1 ("delete" : Str))) (pv (d := (en (α := Da) u12.p1)) rfl) pv_c (gs_op2 (α := Da) (β := Str) (γ := Bool) (a := u12.p1) (b := ("delete" : Str)))) (chain_xx (c1 := fun x30 y31 => decide (x30 ≤ y31)) (c2 := fun y31 z32 => decide (y31 ≤ z32)) (PV.px (a := (0 : Int)) pv_c) (PV.cast (α := Da) (β := Int) (a := u12.p2) (pv (d := (en (α := Da) u12.p2)) rfl)) (PV.cast (α := Da) (β := Int) (a := u12.p3) (pv (d := (en (α := Da) u12.p3)) rfl)) (fun _ _ _ => rfl) (fun _ _ _ => rfl))) h27 (fun r33 M34 h35 => ⟨rfl, h35⟩))))))))))))
def t_check_script (p_script : (List (T3 Str Int Int))) : Pr Unit :=
  ((((lim p_script).bind fun l => Pr.ok (enumI 0 l)).bind fun (l11 : List (Int × (T3 Str Int Int))) => Pr.forM l11 () (fun (x2 : (Int × (T3 Str Int Int))) (s1 : Unit) =>
  (((t_is_command (da (α := (T3 Str Int Int)) x2.2)).bind fun b => Pr.ok (!b)).bind fun c => if c then Pr.bad else
  (Pr.ok ())))).bind fun (s1 : Unit) =>
  (Pr.ok ()))
theorem ft_check_script (p_script : (List (T3 Str Int Int))) : FH F_check_script (fun xh => [xh]) p_script (t_check_script p_script) := run_hN (env0 := fun xh => [some xh, none, none]) (fun _ => rfl) (fun _ => rfl) (fun xh M0 M hM => by
  unfold B_check_script t_check_script
  exact (last_of (seq_nx (k := fun (s1 : Unit) => (Pr.ok ())) (forHe_nx (x := xh) (l := p_script) (s := ()) (body := (fun (x2 : (Int × (T3 Str Int Int))) (s1 : Unit) =>
  (((t_is_command (da (α := (T3 Str Int Int)) x2.2)).bind fun b => Pr.ok (!b)).bind fun c => if c then Pr.bad else
  (Pr.ok ())))) (I := (fun (s1 : Unit) (env : En) (M : Sto) => ∃ o3 : Option D, ∃ o4 : Option D, env = [some xh, o3, o4] ∧ (SH xh (List.map en p_script) M0) M)) rfl (fun s1 env M ⟨o3, o4, he, hM⟩ => hM.sq) ⟨_, _, rfl, hM⟩
  (fun x2 s1 env M ⟨o3, o4, he, hM⟩ => by subst he; exact ⟨[some xh, some (en (α := Int) x2.1), some (en (α := (T3 Str Int Int)) x2.2)], rfl, (last_of (seq_ifx (not_tx (tru_b (fun M5 h6 => (arg_p (pv (d := (en (α := (T3 Str Int Int)) x2.2)) rfl) h6 (arg_nil (callP (ft_is_command (da (α := (T3 Str Int Int)) x2.2)) h6)))))) hM (fun M7 h8 => seq_never)
  (fun M9 h10 => (seq_skip (skip_end ⟨_, Or.inl rfl, _, _, rfl, h10⟩)))))⟩))
  (fun s1 env M ⟨o3, o4, he, h12⟩ => by subst he; exact (skip_end ⟨Or.inl ⟨_, rfl⟩, h12⟩)))))
def t_script_text (p_script : (List (T3 Str Int Int))) : Pr Str :=
  ((t_check_script p_script).bind fun (a3 : Unit) =>
  ((Pr.need (p_script.length ≤ 16777216) (Pr.lcM p_script (fun (x8 : (T3 Str Int Int)) => (Pr.ok true)) (fun (x8 : (T3 Str Int Int)) => ((Pr.ok x8.p1).bind fun (i9 : Str) => Pr.need (i9.length ≤ 16777216 ∧ (Str.empty ++ i9).length ≤ 16777216) (Pr.need (((Str.empty ++ i9) ++ (" " : Str)).length ≤ 16777216) ((Pr.ok x8.p2).bind fun (i10 : Int) => Pr.need (i10.natAbs.log2 < 1920 ∧ (((Str.empty ++ i9) ++ (" " : Str)) ++ strI i10).length ≤ 16777216) (Pr.need (((((Str.empty ++ i9) ++ (" " : Str)) ++ strI i10) ++ (" " : Str)).length ≤ 16777216) ((Pr.ok x8.p3).bind fun (i11 : Int) => Pr.need (i11.natAbs.log2 < 1920 ∧ (((((Str.empty ++ i9) ++ (" " : Str)) ++ strI i10) ++ (" " : Str)) ++ strI i11).length ≤ 16777216) (Pr.need (((((((Str.empty ++ i9) ++ (" " : Str)) ++ strI i10) ++ (" " : Str)) ++ strI i11) ++ ("\n" : Str)).length ≤ 16777216) (Pr.ok ((((((Str.empty ++ i9) ++ (" " : Str)) ++ strI i10) ++ (" " : Str)) ++ strI i11) ++ ("\n" : Str)))))))))))).bind fun (l13 : List Str) => Pr.need (joiOk ("" : Str) l13) (Pr.ok (Txt.join ("" : Str) l13))))
theorem ft_script_text (p_script : (List (T3 Str Int Int))) : FH F_script_text (fun xh => [xh]) p_script (t_script_text p_script) := run_h (env0 := fun xh => [some xh, none, none, none]) (fun _ => rfl) (fun _ => rfl) (fun xh M0 M hM => by
  unfold B_script_text t_script_text
  exact (seq_dropx (fun M1 h2 => (arg_p (pv (d := xh) rfl) h2 (arg_nil (callH (ft_check_script p_script) h2 (h2).sq)))) hM (fun a3 M4 h5 =>
  (last_of (seq_retx' (join_x (a := ("" : Str)) pv_c (lcH_x (S := (SH xh (List.map en p_script) M0)) (x := xh) (l := p_script) (enc := (en (α := (T3 Str Int Int)))) (c := fun (x8 : (T3 Str Int Int)) => (Pr.ok true)) (g := fun (x8 : (T3 Str Int Int)) => ((Pr.ok x8.p1).bind fun (i9 : Str) => Pr.need (i9.length ≤ 16777216 ∧ (Str.empty ++ i9).length ≤ 16777216) (Pr.need (((Str.empty ++ i9) ++ (" " : Str)).length ≤ 16777216) ((Pr.ok x8.p2).bind fun (i10 : Int) => Pr.need (i10.natAbs.log2 < 1920 ∧ (((Str.empty ++ i9) ++ (" " : Str)) ++ strI i10).length ≤ 16777216) (Pr.need (((((Str.empty ++ i9) ++ (" " : Str)) ++ strI i10) ++ (" " : Str)).length ≤ 16777216) ((Pr.ok x8.p3).bind fun (i11 : Int) => Pr.need (i11.natAbs.log2 < 1920 ∧ (((((Str.empty ++ i9) ++ (" " : Str)) ++ strI i10) ++ (" " : Str)) ++ strI i11).length ≤ 16777216) (Pr.need (((((((Str.empty ++ i9) ++ (" " : Str)) ++ strI i10) ++ (" " : Str)) ++ strI i11) ++ ("\n" : Str)).length ≤ 16777216) (Pr.ok ((((((Str.empty ++ i9) ++ (" " : Str)) ++ strI i10) ++ (" " : Str)) ++ strI i11) ++ ("\n" : Str)))))))))) rfl (fun M hM => hM.sq) (fun x8 => ⟨[some xh, some (en (α := Str) x8.p1), some (en (α := Int) x8.p2), some (en (α := Int) x8.p3)], rfl, (TV.tx yes_tv), (jx_s (PV.px (a := x8.p1) (pv (d := (en (α := Str) x8.p1)) rfl)) (fun i9 => (jx_c (s := (" " : Str)) pv_c (jx_i (PV.px (a := x8.p2) (pv (d := (en (α := Int) x8.p2)) rfl)) (fun i10 => (jx_c (s := (" " : Str)) pv_c (jx_i (PV.px (a := x8.p3) (pv (d := (en (α := Int) x8.p3)) rfl)) (fun i11 => (jx_c (s := ("\n" : Str)) pv_c jx_nil)))))))))⟩))) h5 (fun r14 M15 h16 => ⟨rfl, h16⟩))))))
def t_read_number (p_text : Str) : Pr (Option Int) :=
  ((if (!(Txt.isdigit p_text)) then Pr.ok true else ((Pr.need (p_text.length ≤ 16777216) (Pr.ok ((p_text.length : Nat) : Int))).bind fun (a5 : Int) => (Pr.ok (decide (a5 > (18 : Int)))))).bind fun c => if c then (Pr.ok (none : (Option Int))) else
  ((((op2 (α := Str) (β := Int) (γ := Str) gIxS p_text (0 : Int)).bind fun (a13 : Str) => (Pr.ok (decide (a13 = ("0" : Str))))).bind fun a => if a then (Pr.ok (!decide (p_text = ("0" : Str)))) else Pr.ok false).bind fun c => if c then (Pr.ok (none : (Option Int))) else
  ((Pr.need (p_text.length ≤ 640) (optP (PySem.intText? p_text))).bind fun (a21 : Int) => cast (α := Int) (β := (Option Int)) a21)))
theorem ft_read_number (p_text : Str) : FP F_read_number [(en (α := Str) p_text)] (t_read_number p_text) := run_p (env0 := [some (en (α := Str) p_text)]) rfl rfl (fun M0 M hM => by
  unfold B_read_number t_read_number
  exact (seq_ifx (or_tpx (not_tv (tru_v (isdig_v (a := p_text) (pv (d := (en (α := Str) p_text)) rfl)) (fun _ _ => rfl))) (b_x (bin_ep (γ := Bool) (fun M3 h4 => (arg_p (pv (d := (en (α := Str) p_text)) rfl) h4 (arg_nil (.need fun hl => callB_end (c := ((p_text.length : Nat) : Int)) h4 (fun M _ => gLenS_v hl M))))) pv_c (fun a5 => (gs_ok (c := (decide (a5 > (18 : Int)))) fun M _ => rfl))))) hM (fun M7 h8 => (seq_ret (x := (en (α := (Option Int)) (none : (Option Int)))) pv_c h8 ⟨rfl, h8⟩))
  (fun M9 h10 => (seq_skip (seq_ifx (and_tx (b_x (bin_ep (γ := Bool) (bin_pp (γ := Str) (P := (op2 (α := Str) (β := Int) (γ := Str) gIxS p_text (0 : Int))) (pv (d := (en (α := Str) p_text)) rfl) pv_c (gs_op2 (α := Str) (β := Int) (γ := Str) (a := p_text) (b := (0 : Int)))) pv_c (fun a13 => (gs_ok (c := (decide (a13 = ("0" : Str)))) fun M _ => w_eq _ _ M)))) (TV.tx (b_v (bin_v (z := (en (α := Bool) (!decide (p_text = ("0" : Str))))) (pv (d := (en (α := Str) p_text)) rfl) pv_c (fun M _ => w_ne _ _ M))))) h10 (fun M15 h16 => (seq_ret (x := (en (α := (Option Int)) (none : (Option Int)))) pv_c h16 ⟨rfl, h16⟩))
  (fun M17 h18 => (seq_skip (last_of (seq_retx' (PX.cast (α := Int) (β := (Option Int)) (fun M19 h20 => (arg_p (pv (d := (en (α := Str) p_text)) rfl) h20 (arg_nil (intT_end (z := p_text) h20))))) h18 (fun r22 M23 h24 => ⟨rfl, h24⟩))))))))))
def t_read_command (p_line : Str) : Pr (Option (T3 Str Int Int)) :=
  ((Pr.need (splOk p_line (" " : Str)) (Pr.ok (Txt.split p_line (" " : Str)))).bind fun (words_3 : (List Str)) =>
  (if (!decide (((words_3.length : Nat) : Int) = (3 : Int))) then (Pr.ok (none : (Option (T3 Str Int Int)))) else
  (((idx words_3 (0 : Int)).bind fun (a20 : Str) => (((idx words_3 (1 : Int)).bind fun (a10 : Str) => (t_read_number a10)).bind fun (a23 : (Option Int)) => (((idx words_3 (2 : Int)).bind fun (a15 : Str) => (t_read_number a15)).bind fun (a26 : (Option Int)) => (Pr.ok ((T3.mk a20 a23 a26) : (T3 Str (Option Int) (Option Int))))))).bind fun (comman_29 : (T3 Str (Option Int) (Option Int))) =>
  ((t_is_command (da (α := (T3 Str (Option Int) (Option Int))) comman_29)).bind fun c => if c then (cast (α := (T3 Str (Option Int) (Option Int))) (β := (Option (T3 Str Int Int))) comman_29) else (Pr.ok (none : (Option (T3 Str Int Int))))))))
theorem ft_read_command (p_line : Str) : FP F_read_command [(en (α := Str) p_line)] (t_read_command p_line) := run_p (env0 := [some (en (α := Str) p_line), none, none]) rfl rfl (fun M0 M hM => by
  unfold B_read_command t_read_command
  exact (seq_setx (env1 := fun (words_3 : (List Str)) => [some (en (α := Str) p_line), some (en (α := (List Str)) words_3), none]) (fun _ => rfl) (split_v (a := p_line) (b := (" " : Str)) (pv (d := (en (α := Str) p_line)) rfl) pv_c) hM (fun (words_3 : (List Str)) M4 h5 =>
  (seq_if (b_v (bin_v (z := (en (α := Bool) (!decide (((words_3.length : Nat) : Int) = (3 : Int))))) (len_L (l := words_3) (lv_v (l := List.map (en (α := Str)) words_3) (pv (d := (en (α := (List Str)) words_3)) rfl))) pv_c (fun M _ => gneI _ _ M))) h5 (seq_ret (x := (en (α := (Option (T3 Str Int Int))) (none : (Option (T3 Str Int Int))))) pv_c h5 ⟨rfl, h5⟩)
  (seq_skip (seq_setx (env1 := fun (comman_29 : (T3 Str (Option Int) (Option Int))) => [some (en (α := Str) p_line), some (en (α := (List Str)) words_3), some (en (α := (T3 Str (Option Int) (Option Int))) comman_29)]) (fun _ => rfl) (fun M18 h19 => (arg_e (ix_l (l := words_3) (lv_v (l := List.map (en (α := Str)) words_3) (pv (d := (en (α := (List Str)) words_3)) rfl)) pv_c) h19 (fun (a20 : Str) M21 h22 => (arg_e (fun M8 h9 => (arg_e (ix_l (l := words_3) (lv_v (l := List.map (en (α := Str)) words_3) (pv (d := (en (α := (List Str)) words_3)) rfl)) pv_c) h9 (fun (a10 : Str) M11 h12 => (arg_nil (callP (ft_read_number a10) h12))))) h22 (fun (a23 : (Option Int)) M24 h25 => (arg_e (fun M13 h14 => (arg_e (ix_l (l := words_3) (lv_v (l := List.map (en (α := Str)) words_3) (pv (d := (en (α := (List Str)) words_3)) rfl)) pv_c) h14 (fun (a15 : Str) M16 h17 => (arg_nil (callP (ft_read_number a15) h17))))) h25 (fun (a26 : (Option Int)) M27 h28 => (arg_nil (seq_end (mk := D.tup) (a := ((T3.mk a20 a23 a26) : (T3 Str (Option Int) (Option Int)))) rfl h28))))))))) h5 (fun (comman_29 : (T3 Str (Option Int) (Option Int))) M30 h31 =>
  (last_of (seq_retx' (ifE_x (α := (Option (T3 Str Int Int))) (tru_b (fun M32 h33 => (arg_p (pv (d := (en (α := (T3 Str (Option Int) (Option Int))) comman_29)) rfl) h33 (arg_nil (callP (ft_is_command (da (α := (T3 Str (Option Int) (Option Int))) comman_29)) h33))))) (PV.cast (α := (T3 Str (Option Int) (Option Int))) (β := (Option (T3 Str Int Int))) (a := comman_29) (pv (d := (en (α := (T3 Str (Option Int) (Option Int))) comman_29)) rfl)) (PV.px (a := (none : (Option (T3 Str Int Int)))) pv_c)) h31 (fun r34 M35 h36 => ⟨rfl, h36⟩))))))))))
def t_parse_script (p_text : Str) : Pr (List (T3 Str Int Int)) :=
  (Pr.need (splOk p_text ("\n" : Str)) ((optP (Txt.split p_text ("\n" : Str))[(Txt.split p_text ("\n" : Str)).length - 1]?).bind fun (v1 : Str) =>
  (((Pr.ok (List.dropLast (Txt.split p_text ("\n" : Str)))).bind fun (l5 : List Str) => Pr.need (l5.length ≤ 16777216) (Pr.lcM l5 (fun (x2 : Str) => (Pr.ok true)) (fun (x2 : Str) => (t_read_command x2)))).bind fun (script_6 : (List (Option (T3 Str Int Int)))) =>
  ((op2 (α := (Option (T3 Str Int Int))) (β := (List (Option (T3 Str Int Int)))) (γ := Bool) (gIn false) (none : (Option (T3 Str Int Int))) script_6).bind fun c => if c then Pr.bad else
  (if (!decide (v1 = ("" : Str))) then Pr.bad else
  (cast (α := (List (Option (T3 Str Int Int)))) (β := (List (T3 Str Int Int))) script_6))))))
theorem ft_parse_script (p_text : Str) : FP F_parse_script [(en (α := Str) p_text)] (t_parse_script p_text) := run_p (env0 := [some (en (α := Str) p_text), none, none, none, none]) rfl rfl (fun M0 M hM => by
  unfold B_parse_script t_parse_script
  exact (seq_splitPop (a := p_text) (b := ("\n" : Str)) (env1 := fun (v1 : Str) => [some (en (α := Str) p_text), some (en (α := (List Str)) (List.dropLast (Txt.split p_text ("\n" : Str)))), some (en (α := Str) v1), none, none]) (by decide) (by simp) (pv (d := (en (α := Str) p_text)) rfl) pv_c hM (fun y n M2 h1 h2 => by unfold thawE; simp only [List.set_cons_zero, List.set_cons_succ, List.map_cons, List.map_nil, h1, h2]; try rfl) (fun v1 hM =>
  (seq_setx (env1 := fun (script_6 : (List (Option (T3 Str Int Int)))) => [some (en (α := Str) p_text), some (en (α := (List Str)) (List.dropLast (Txt.split p_text ("\n" : Str)))), some (en (α := Str) v1), some (en (α := (List (Option (T3 Str Int Int)))) script_6), none]) (fun _ => rfl) (lc_x (enc := (en (α := Str))) (c := fun (x2 : Str) => (Pr.ok true)) (g := fun (x2 : Str) => (t_read_command x2)) (iter_v (l := (List.dropLast (Txt.split p_text ("\n" : Str)))) (pv (d := (en (α := (List Str)) (List.dropLast (Txt.split p_text ("\n" : Str))))) rfl)) (fun x2 => ⟨[some (en (α := Str) p_text), some (en (α := (List Str)) (List.dropLast (Txt.split p_text ("\n" : Str)))), some (en (α := Str) v1), none, some (en (α := Str) x2)], rfl, (TV.tx yes_tv), (fun M3 h4 => (arg_p (pv (d := (en (α := Str) x2)) rfl) h4 (arg_nil (callP (ft_read_command x2) h4))))⟩)) hM (fun (script_6 : (List (Option (T3 Str Int Int)))) M7 h8 =>
  (seq_ifx (b_x (bin_pp (γ := Bool) (P := (op2 (α := (Option (T3 Str Int Int))) (β := (List (Option (T3 Str Int Int)))) (γ := Bool) (gIn false) (none : (Option (T3 Str Int Int))) script_6)) pv_c (pv (d := (en (α := (List (Option (T3 Str Int Int)))) script_6)) rfl) (gs_op2 (α := (Option (T3 Str Int Int))) (β := (List (Option (T3 Str Int Int)))) (γ := Bool) (a := (none : (Option (T3 Str Int Int)))) (b := script_6)))) h8 (fun M11 h12 => seq_never)
  (fun M13 h14 => (seq_skip (seq_if (b_v (bin_v (z := (en (α := Bool) (!decide (v1 = ("" : Str))))) (pv (d := (en (α := Str) v1)) rfl) pv_c (fun M _ => w_ne _ _ M))) h14 seq_never
  (seq_skip (last_of (seq_retx' (PV.cast (α := (List (Option (T3 Str Int Int)))) (β := (List (T3 Str Int Int))) (a := script_6) (pv (d := (en (α := (List (Option (T3 Str Int Int)))) script_6)) rfl)) h14 (fun r15 M16 h17 => ⟨rfl, h17⟩)))))))))))))
def t__law_bent_text (p_text : Str) (p_signs : (List Str)) : Pr Str :=
  ((((Pr.need (p_text.length ≤ 16777216) (Pr.ok ((p_text.length : Nat) : Int))).bind fun (a5 : Int) => (Pr.ok (a5 + (1 : Int)))).bind fun (a7 : Int) => (Pr.pull a7)).bind fun (at_10 : Int) =>
  (((Pr.pull (8 : Int)).bind fun (a15 : Int) => (Pr.ok (decide (a15 = (0 : Int))))).bind fun c => if c then (Pr.need (p_text.length ≤ 16777216) (Pr.ok (cutS p_text none (some at_10)))) else
  (((Pr.need (p_text.length ≤ 16777216) (Pr.ok (cutS p_text none (some at_10)))).bind fun (a26 : Str) => (Pr.of p_signs).bind fun (b27 : Str) => (op2 (α := Str) (β := Str) (γ := Str) gAdd a26 b27)).bind fun (a33 : Str) => (((Pr.pull (2 : Int)).bind fun (b31 : Int) => (Pr.ok (at_10 + b31))).bind fun (i32 : Int) => Pr.need (p_text.length ≤ 16777216) (Pr.ok (cutS p_text (some i32) none))).bind fun (b34 : Str) => (op2 (α := Str) (β := Str) (γ := Str) gAdd a33 b34))))
theorem ft__law_bent_text (p_text : Str) (p_signs : (List Str)) : FB F__law_bent_text [(en (α := Str) p_text), (en (α := (List Str)) p_signs)] (t__law_bent_text p_text p_signs) := run_b (env0 := [some (.ref 0), some (en (α := Str) p_text), some (en (α := (List Str)) p_signs), none]) rfl rfl (fun G M hM => by
  unfold B__law_bent_text t__law_bent_text
  exact (seq_setx (env1 := fun (at_10 : Int) => [some (.ref 0), some (en (α := Str) p_text), some (en (α := (List Str)) p_signs), some (en (α := Int) at_10)]) (fun _ => rfl) (fun M1 h2 => (arg_p (pv (d := .ref 0) rfl) h2 (arg_e (bin_ep (γ := Int) (fun M3 h4 => (arg_p (pv (d := (en (α := Str) p_text)) rfl) h4 (arg_nil (.need fun hl => callB_end (c := ((p_text.length : Nat) : Int)) h4 (fun M _ => gLenS_v hl M))))) pv_c (fun a5 => (gs_ok (c := (a5 + (1 : Int))) fun M _ => rfl))) h2 (fun (a7 : Int) M8 h9 => (arg_nil (callB (ft__law_pull a7) h9)))))) hM (fun (at_10 : Int) M11 h12 =>
  (seq_ifx (b_x (bin_ep (γ := Bool) (fun M13 h14 => (arg_p (pv (d := .ref 0) rfl) h14 (arg_p pv_c h14 (arg_nil (callB (ft__law_pull (8 : Int)) h14))))) pv_c (fun a15 => (gs_ok (c := (decide (a15 = (0 : Int)))) fun M _ => geqI _ _ M)))) h12 (fun M17 h18 => (seq_retx' (slS_x (a := p_text) (pv (d := (en (α := Str) p_text)) rfl) ov_n (ov_s (i := at_10) (pv (d := (en (α := Int) at_10)) rfl))) h18 (fun r19 M20 h21 => ⟨rfl, h21⟩)))
  (fun M22 h23 => (seq_skip (last_of (seq_retx' (bin_ee (γ := Str) (bin_ee (γ := Str) (slS_x (a := p_text) (pv (d := (en (α := Str) p_text)) rfl) ov_n (ov_s (i := at_10) (pv (d := (en (α := Int) at_10)) rfl))) (fun M24 h25 => (arg_p (pv (d := .ref 0) rfl) h25 (arg_p (pv (d := (en (α := (List Str)) p_signs)) rfl) h25 (arg_nil (callB (ft__law_of p_signs) h25))))) (fun a26 b27 => (gs_op2 (α := Str) (β := Str) (γ := Str) (a := a26) (b := b27)))) (slS_lo (a := p_text) (pv (d := (en (α := Str) p_text)) rfl) (bin_pe (γ := Int) (pv (d := (en (α := Int) at_10)) rfl) (fun M28 h29 => (arg_p (pv (d := .ref 0) rfl) h29 (arg_p pv_c h29 (arg_nil (callB (ft__law_pull (2 : Int)) h29))))) (fun b31 => (gs_ok (c := (at_10 + b31)) fun M _ => rfl)))) (fun a33 b34 => (gs_op2 (α := Str) (β := Str) (γ := Str) (a := a33) (b := b34)))) h23 (fun r35 M36 h37 => ⟨rfl, h37⟩)))))))))
def tx_parse_script (p_text : Str) : Pr (List (T3 Str Int Int)) :=
  (Pr.need (splOk p_text ("\n" : Str)) ((optP (Txt.split p_text ("\n" : Str))[(Txt.split p_text ("\n" : Str)).length - 1]?).bind fun (v1 : Str) =>
  (((Pr.ok (List.dropLast (Txt.split p_text ("\n" : Str)))).bind fun (l5 : List Str) => Pr.need (l5.length ≤ 16777216) (Pr.lcM l5 (fun (x2 : Str) => (Pr.ok true)) (fun (x2 : Str) => (t_read_command x2)))).bind fun (script_6 : (List (Option (T3 Str Int Int)))) =>
  ((op2 (α := (Option (T3 Str Int Int))) (β := (List (Option (T3 Str Int Int)))) (γ := Bool) (gIn false) (none : (Option (T3 Str Int Int))) script_6).bind fun c => if c then ((opL (α := (List (Option (T3 Str Int Int)))) (β := (Option (T3 Str Int Int))) (γ := Int) gIdx script_6 (none : (Option (T3 Str Int Int)))).bind fun (x15 : Int) => Pr.need (okIntD (en (α := Int) x15) = true) (Pr.exc ⟨"BadText", ["at", "word"], [(en (α := Int) x15), .str "BadText"]⟩)) else
  (if (!decide (v1 = ("" : Str))) then (Pr.need (okIntD (en (α := Int) (((List.dropLast (Txt.split p_text ("\n" : Str))).length : Nat) : Int)) = true) (Pr.exc ⟨"BadText", ["at", "word"], [(en (α := Int) (((List.dropLast (Txt.split p_text ("\n" : Str))).length : Nat) : Int)), .str "BadText"]⟩)) else
  (cast (α := (List (Option (T3 Str Int Int)))) (β := (List (T3 Str Int Int))) script_6))))))
theorem ftx_parse_script (p_text : Str) : FPx Fx_parse_script [(en (α := Str) p_text)] (tx_parse_script p_text) := run_px (env0 := [some (en (α := Str) p_text), none, none, none, none]) rfl rfl (fun M0 M hM => by
  unfold Bx_parse_script tx_parse_script
  exact (seq_splitPop (a := p_text) (b := ("\n" : Str)) (env1 := fun (v1 : Str) => [some (en (α := Str) p_text), some (en (α := (List Str)) (List.dropLast (Txt.split p_text ("\n" : Str)))), some (en (α := Str) v1), none, none]) (by decide) (by simp) (pv (d := (en (α := Str) p_text)) rfl) pv_c hM (fun y n M2 h1 h2 => by unfold thawE; simp only [List.set_cons_zero, List.set_cons_succ, List.map_cons, List.map_nil, h1, h2]; try rfl) (fun v1 hM =>
  (seq_setx (env1 := fun (script_6 : (List (Option (T3 Str Int Int)))) => [some (en (α := Str) p_text), some (en (α := (List Str)) (List.dropLast (Txt.split p_text ("\n" : Str)))), some (en (α := Str) v1), some (en (α := (List (Option (T3 Str Int Int)))) script_6), none]) (fun _ => rfl) (lc_x (enc := (en (α := Str))) (c := fun (x2 : Str) => (Pr.ok true)) (g := fun (x2 : Str) => (t_read_command x2)) (iter_v (l := (List.dropLast (Txt.split p_text ("\n" : Str)))) (pv (d := (en (α := (List Str)) (List.dropLast (Txt.split p_text ("\n" : Str))))) rfl)) (fun x2 => ⟨[some (en (α := Str) p_text), some (en (α := (List Str)) (List.dropLast (Txt.split p_text ("\n" : Str)))), some (en (α := Str) v1), none, some (en (α := Str) x2)], rfl, (TV.tx yes_tv), (fun M3 h4 => (arg_p (pv (d := (en (α := Str) x2)) rfl) h4 (arg_nil (callP (ft_read_command x2) h4))))⟩)) hM (fun (script_6 : (List (Option (T3 Str Int Int)))) M7 h8 =>
  (seq_ifx (b_x (bin_pp (γ := Bool) (P := (op2 (α := (Option (T3 Str Int Int))) (β := (List (Option (T3 Str Int Int)))) (γ := Bool) (gIn false) (none : (Option (T3 Str Int Int))) script_6)) pv_c (pv (d := (en (α := (List (Option (T3 Str Int Int)))) script_6)) rfl) (gs_op2 (α := (Option (T3 Str Int Int))) (β := (List (Option (T3 Str Int Int)))) (γ := Bool) (a := (none : (Option (T3 Str Int Int)))) (b := script_6)))) h8 (fun M11 h12 => (seq_raise1x (lm_op (α := (List (Option (T3 Str Int Int)))) (β := (Option (T3 Str Int Int))) (γ := Int) (a := script_6) (b := (none : (Option (T3 Str Int Int)))) (pv (d := (en (α := (List (Option (T3 Str Int Int)))) script_6)) rfl) pv_c) h12))
  (fun M16 h17 => (seq_skip (seq_if (b_v (bin_v (z := (en (α := Bool) (!decide (v1 = ("" : Str))))) (pv (d := (en (α := Str) v1)) rfl) pv_c (fun M _ => w_ne _ _ M))) h17 (seq_raise1 (a := (((List.dropLast (Txt.split p_text ("\n" : Str))).length : Nat) : Int)) (len_L (l := (List.dropLast (Txt.split p_text ("\n" : Str)))) (lv_v (l := List.map (en (α := Str)) (List.dropLast (Txt.split p_text ("\n" : Str)))) (pv (d := (en (α := (List Str)) (List.dropLast (Txt.split p_text ("\n" : Str))))) rfl))) h17 h17)
  (seq_skip (last_of (seq_retx' (PV.cast (α := (List (Option (T3 Str Int Int)))) (β := (List (T3 Str Int Int))) (a := script_6) (pv (d := (en (α := (List (Option (T3 Str Int Int)))) script_6)) rfl)) h17 (fun r20 M21 h22 => ⟨rfl, h22⟩)))))))))))))
def t__law_plain_number (p_word : Str) : Pr (Option Int) :=
  ((if (decide (p_word = ("" : Str))) then Pr.ok true else (((Pr.need (p_word.length ≤ 16777216) (Pr.ok ((p_word.length : Nat) : Int))).bind fun (a3 : Int) => (Pr.ok (decide (a3 > (18 : Int))))).bind fun a => if a then Pr.ok true else ((((Pr.ok (sgns p_word)).bind fun (l10 : List Str) => Pr.need (l10.length ≤ 16777216) (Pr.lcM l10 (fun (x7 : Str) => (Pr.ok true)) (fun (x7 : Str) => (op2 (α := Str) (β := Str) (γ := Bool) gInS x7 ("0123456789" : Str))))).bind fun (a11 : (List Bool)) => (Pr.ok (a11.all id))).bind fun b => Pr.ok (!b)))).bind fun c => if c then (Pr.ok (none : (Option Int))) else
  ((((op2 (α := Str) (β := Int) (γ := Str) gIxS p_word (0 : Int)).bind fun (a20 : Str) => (Pr.ok (decide (a20 = ("0" : Str))))).bind fun a => if a then ((Pr.need (p_word.length ≤ 16777216) (Pr.ok ((p_word.length : Nat) : Int))).bind fun (a24 : Int) => (Pr.ok (decide (a24 > (1 : Int))))) else Pr.ok false).bind fun c => if c then (Pr.ok (none : (Option Int))) else ((Pr.need (p_word.length ≤ 640) (optP (PySem.intText? p_word))).bind fun (a28 : Int) => cast (α := Int) (β := (Option Int)) a28)))
theorem ft__law_plain_number (p_word : Str) : FP F__law_plain_number [(en (α := Str) p_word)] (t__law_plain_number p_word) := run_p (env0 := [some (en (α := Str) p_word), none]) rfl rfl (fun M0 M hM => by
  unfold B__law_plain_number t__law_plain_number
  exact (seq_ifx (or_tpx (b_v (bin_v (z := (en (α := Bool) (decide (p_word = ("" : Str))))) (pv (d := (en (α := Str) p_word)) rfl) pv_c (fun M _ => w_eq _ _ M))) (or_tx (b_x (bin_ep (γ := Bool) (fun M1 h2 => (arg_p (pv (d := (en (α := Str) p_word)) rfl) h2 (arg_nil (.need fun hl => callB_end (c := ((p_word.length : Nat) : Int)) h2 (fun M _ => gLenS_v hl M))))) pv_c (fun a3 => (gs_ok (c := (decide (a3 > (18 : Int)))) fun M _ => rfl)))) (not_tx (tru_b (fun M5 h6 => (arg_e (lc_x (enc := (en (α := Str))) (c := fun (x7 : Str) => (Pr.ok true)) (g := fun (x7 : Str) => (op2 (α := Str) (β := Str) (γ := Bool) gInS x7 ("0123456789" : Str))) (iterS_v (z := p_word) (pv (d := (en (α := Str) p_word)) rfl)) (fun x7 => ⟨[some (en (α := Str) p_word), some (en (α := Str) x7)], rfl, (TV.tx yes_tv), (bin_pp (γ := Bool) (P := (op2 (α := Str) (β := Str) (γ := Bool) gInS x7 ("0123456789" : Str))) (pv (d := (en (α := Str) x7)) rfl) pv_c (gs_op2 (α := Str) (β := Str) (γ := Bool) (a := x7) (b := ("0123456789" : Str))))⟩)) h6 (fun (a11 : (List Bool)) M12 h13 => (arg_nil (callB_end (c := a11.all id) h13 (fun M _ => gAll_v a11 M)))))))))) hM (fun M14 h15 => (seq_ret (x := (en (α := (Option Int)) (none : (Option Int)))) pv_c h15 ⟨rfl, h15⟩))
  (fun M16 h17 => (seq_skip (last_of (seq_retx' (ifE_x (α := (Option Int)) (and_tx (b_x (bin_ep (γ := Bool) (bin_pp (γ := Str) (P := (op2 (α := Str) (β := Int) (γ := Str) gIxS p_word (0 : Int))) (pv (d := (en (α := Str) p_word)) rfl) pv_c (gs_op2 (α := Str) (β := Int) (γ := Str) (a := p_word) (b := (0 : Int)))) pv_c (fun a20 => (gs_ok (c := (decide (a20 = ("0" : Str)))) fun M _ => w_eq _ _ M)))) (b_x (bin_ep (γ := Bool) (fun M22 h23 => (arg_p (pv (d := (en (α := Str) p_word)) rfl) h23 (arg_nil (.need fun hl => callB_end (c := ((p_word.length : Nat) : Int)) h23 (fun M _ => gLenS_v hl M))))) pv_c (fun a24 => (gs_ok (c := (decide (a24 > (1 : Int)))) fun M _ => rfl))))) (PV.px (a := (none : (Option Int))) pv_c) (PX.cast (α := Int) (β := (Option Int)) (fun M26 h27 => (arg_p (pv (d := (en (α := Str) p_word)) rfl) h27 (arg_nil (intT_end (z := p_word) h27)))))) h17 (fun r29 M30 h31 => ⟨rfl, h31⟩)))))))
def t__law_due_command (p_script_here : (List Da)) : Pr (Option Int) :=
  (Pr.flow ((Pr.need (sm ((p_script_here.length : Nat) : Int)) (Pr.ok (rngI 0 (Int.toNat ((p_script_here.length : Nat) : Int))))).bind fun (l57 : List Int) => Pr.forF (ρ := (Option Int)) l57 () (fun (x4 : Int) (s3 : Unit) =>
  ((idx p_script_here x4).bind fun (comman_7 : Da) =>
  ((((lenD comman_7).bind fun (a12 : Int) => (Pr.ok (!decide (a12 = (3 : Int))))).bind fun a => if a then Pr.ok true else ((op2 (α := Da) (β := Int) (γ := Da) gIx comman_7 (0 : Int)).bind fun (a16 : Da) => (op2 (α := Da) (β := (Str × Str)) (γ := Bool) (gIn true) a16 ((("insert" : Str), ("delete" : Str)) : (Str × Str))))).bind fun c => if c then (Pr.ok (FlT.rt (some x4))) else
  ((((op2 (α := Da) (β := Int) (γ := Da) gIx comman_7 (0 : Int)).bind fun (a24 : Da) => (op2 (α := Da) (β := Str) (γ := Bool) (gEq false) a24 ("insert" : Str))).bind fun a => if a then ((((op2 (α := Da) (β := Int) (γ := Da) gIx comman_7 (1 : Int)).bind fun (a28 : Da) => cast (α := Da) (β := Int) a28).bind fun (a29 : Int) => (Pr.ok (decide (a29 < (0 : Int))))).bind fun a => if a then Pr.ok true else (((op2 (α := Da) (β := Int) (γ := Da) gIx comman_7 (2 : Int)).bind fun (a33 : Da) => cast (α := Da) (β := Int) a33).bind fun (a34 : Int) => (Pr.ok (decide (a34 < (1 : Int)))))) else Pr.ok false).bind fun c => if c then (Pr.ok (FlT.rt (some x4))) else
  ((((op2 (α := Da) (β := Int) (γ := Da) gIx comman_7 (0 : Int)).bind fun (a42 : Da) => (op2 (α := Da) (β := Str) (γ := Bool) (gEq false) a42 ("delete" : Str))).bind fun a => if a then (((Pr.ok (0 : Int)).bind fun (x50 : Int) => ((op2 (α := Da) (β := Int) (γ := Da) gIx comman_7 (1 : Int)).bind fun (a46 : Da) => cast (α := Da) (β := Int) a46).bind fun (y51 : Int) => if decide (x50 ≤ y51) then ((op2 (α := Da) (β := Int) (γ := Da) gIx comman_7 (2 : Int)).bind fun (a49 : Da) => cast (α := Da) (β := Int) a49).bind fun (z52 : Int) => Pr.ok (decide (y51 ≤ z52)) else Pr.ok false).bind fun b => Pr.ok (!b)) else Pr.ok false).bind fun c => if c then (Pr.ok (FlT.rt (some x4))) else
  (Pr.ok (FlT.nx ())))))))) (fun (s3 : Unit) =>
  (Pr.ok (none : (Option Int)))) (fun (r59 : (Option Int)) => r59))
theorem ft__law_due_command (p_script_here : (List Da)) : FH F__law_due_command (fun xh => [xh]) p_script_here (t__law_due_command p_script_here) := run_h (env0 := fun xh => [some xh, none, none]) (fun _ => rfl) (fun _ => rfl) (fun xh M0 M hM => by
  unfold B__law_due_command t__law_due_command
  exact (seq_fl (w := fun (r59 : (Option Int)) => r59) (k := fun (s3 : Unit) => (Pr.ok (none : (Option Int)))) (for_fl (enc := D.int) (s := ()) (body := (fun (x4 : Int) (s3 : Unit) =>
  ((idx p_script_here x4).bind fun (comman_7 : Da) =>
  ((((lenD comman_7).bind fun (a12 : Int) => (Pr.ok (!decide (a12 = (3 : Int))))).bind fun a => if a then Pr.ok true else ((op2 (α := Da) (β := Int) (γ := Da) gIx comman_7 (0 : Int)).bind fun (a16 : Da) => (op2 (α := Da) (β := (Str × Str)) (γ := Bool) (gIn true) a16 ((("insert" : Str), ("delete" : Str)) : (Str × Str))))).bind fun c => if c then (Pr.ok (FlT.rt (some x4))) else
  ((((op2 (α := Da) (β := Int) (γ := Da) gIx comman_7 (0 : Int)).bind fun (a24 : Da) => (op2 (α := Da) (β := Str) (γ := Bool) (gEq false) a24 ("insert" : Str))).bind fun a => if a then ((((op2 (α := Da) (β := Int) (γ := Da) gIx comman_7 (1 : Int)).bind fun (a28 : Da) => cast (α := Da) (β := Int) a28).bind fun (a29 : Int) => (Pr.ok (decide (a29 < (0 : Int))))).bind fun a => if a then Pr.ok true else (((op2 (α := Da) (β := Int) (γ := Da) gIx comman_7 (2 : Int)).bind fun (a33 : Da) => cast (α := Da) (β := Int) a33).bind fun (a34 : Int) => (Pr.ok (decide (a34 < (1 : Int)))))) else Pr.ok false).bind fun c => if c then (Pr.ok (FlT.rt (some x4))) else
  ((((op2 (α := Da) (β := Int) (γ := Da) gIx comman_7 (0 : Int)).bind fun (a42 : Da) => (op2 (α := Da) (β := Str) (γ := Bool) (gEq false) a42 ("delete" : Str))).bind fun a => if a then (((Pr.ok (0 : Int)).bind fun (x50 : Int) => ((op2 (α := Da) (β := Int) (γ := Da) gIx comman_7 (1 : Int)).bind fun (a46 : Da) => cast (α := Da) (β := Int) a46).bind fun (y51 : Int) => if decide (x50 ≤ y51) then ((op2 (α := Da) (β := Int) (γ := Da) gIx comman_7 (2 : Int)).bind fun (a49 : Da) => cast (α := Da) (β := Int) a49).bind fun (z52 : Int) => Pr.ok (decide (y51 ≤ z52)) else Pr.ok false).bind fun b => Pr.ok (!b)) else Pr.ok false).bind fun c => if c then (Pr.ok (FlT.rt (some x4))) else
  (Pr.ok (FlT.nx ())))))))) (I := (fun (s3 : Unit) (env : En) (M : Sto) => ∃ o5 : Option D, ∃ o6 : Option D, env = [some xh, o6, o5] ∧ (SH xh (List.map en p_script_here) M0) M)) (R := fun (r : (Option Int)) d M => d = en r ∧ (SH xh (List.map en p_script_here) M0) M) (rng1_v (n := ((p_script_here.length : Nat) : Int)) (len_h (l := p_script_here) (hv_x rfl fun _ h => h.sq))) hM (fun M h => ⟨_, _, rfl, h⟩)
  (fun x4 s3 env M ⟨o5, o6, he, hM⟩ => by subst he; exact ⟨[some xh, some (en (α := Int) x4), o5], rfl, (seq_setx (env1 := fun (comman_7 : Da) => [some xh, some (en (α := Int) x4), some (en (α := Da) comman_7)]) (fun _ => rfl) (ix_H (l := p_script_here) (hv_x rfl fun _ h => h.sq) (pv (d := (en (α := Int) x4)) rfl)) hM (fun (comman_7 : Da) M8 h9 =>
  (seq_ifx (or_tx (b_x (bin_ep (γ := Bool) (lenD_v (a := comman_7) (pv (d := (en (α := Da) comman_7)) rfl)) pv_c (fun a12 => (gs_ok (c := (!decide (a12 = (3 : Int)))) fun M _ => gneI _ _ M)))) (b_x (bin_ep (γ := Bool) (bin_pp (γ := Da) (P := (op2 (α := Da) (β := Int) (γ := Da) gIx comman_7 (0 : Int))) (pv (d := (en (α := Da) comman_7)) rfl) pv_c (gs_op2 (α := Da) (β := Int) (γ := Da) (a := comman_7) (b := (0 : Int)))) (tup_v (av_cons (x := (en (α := Str) ("insert" : Str))) pv_c (av_cons (x := (en (α := Str) ("delete" : Str))) pv_c av_nil))) (fun a16 => (gs_op2 (α := Da) (β := (Str × Str)) (γ := Bool) (a := a16) (b := ((("insert" : Str), ("delete" : Str)) : (Str × Str)))))))) h9 (fun M18 h19 => (seq_ret (x := (en (α := (Option Int)) (some x4))) (pv (d := (en (α := Int) x4)) rfl) h19 ⟨_, rfl, ⟨rfl, h19⟩⟩))
  (fun M20 h21 => (seq_skip (seq_ifx (and_tx (b_x (bin_ep (γ := Bool) (bin_pp (γ := Da) (P := (op2 (α := Da) (β := Int) (γ := Da) gIx comman_7 (0 : Int))) (pv (d := (en (α := Da) comman_7)) rfl) pv_c (gs_op2 (α := Da) (β := Int) (γ := Da) (a := comman_7) (b := (0 : Int)))) pv_c (fun a24 => (gs_op2 (α := Da) (β := Str) (γ := Bool) (a := a24) (b := ("insert" : Str)))))) (or_tx (b_x (bin_ep (γ := Bool) (PX.cast (α := Da) (β := Int) (bin_pp (γ := Da) (P := (op2 (α := Da) (β := Int) (γ := Da) gIx comman_7 (1 : Int))) (pv (d := (en (α := Da) comman_7)) rfl) pv_c (gs_op2 (α := Da) (β := Int) (γ := Da) (a := comman_7) (b := (1 : Int))))) pv_c (fun a29 => (gs_ok (c := (decide (a29 < (0 : Int)))) fun M _ => rfl)))) (b_x (bin_ep (γ := Bool) (PX.cast (α := Da) (β := Int) (bin_pp (γ := Da) (P := (op2 (α := Da) (β := Int) (γ := Da) gIx comman_7 (2 : Int))) (pv (d := (en (α := Da) comman_7)) rfl) pv_c (gs_op2 (α := Da) (β := Int) (γ := Da) (a := comman_7) (b := (2 : Int))))) pv_c (fun a34 => (gs_ok (c := (decide (a34 < (1 : Int)))) fun M _ => rfl)))))) h21 (fun M36 h37 => (seq_ret (x := (en (α := (Option Int)) (some x4))) (pv (d := (en (α := Int) x4)) rfl) h37 ⟨_, rfl, ⟨rfl, h37⟩⟩))
  (fun M38 h39 => (seq_skip (last_of (seq_ifx (and_tx (b_x (bin_ep (γ := Bool) (bin_pp (γ := Da) (P := (op2 (α := Da) (β := Int) (γ := Da) gIx comman_7 (0 : Int))) (pv (d := (en (α := Da) comman_7)) rfl) pv_c (gs_op2 (α := Da) (β := Int) (γ := Da) (a := comman_7) (b := (0 : Int)))) pv_c (fun a42 => (gs_op2 (α := Da) (β := Str) (γ := Bool) (a := a42) (b := ("delete" : Str)))))) (not_tx (b_x (chain_xx (c1 := fun x50 y51 => decide (x50 ≤ y51)) (c2 := fun y51 z52 => decide (y51 ≤ z52)) (PV.px (a := (0 : Int)) pv_c) (PX.cast (α := Da) (β := Int) (bin_pp (γ := Da) (P := (op2 (α := Da) (β := Int) (γ := Da) gIx comman_7 (1 : Int))) (pv (d := (en (α := Da) comman_7)) rfl) pv_c (gs_op2 (α := Da) (β := Int) (γ := Da) (a := comman_7) (b := (1 : Int))))) (PX.cast (α := Da) (β := Int) (bin_pp (γ := Da) (P := (op2 (α := Da) (β := Int) (γ := Da) gIx comman_7 (2 : Int))) (pv (d := (en (α := Da) comman_7)) rfl) pv_c (gs_op2 (α := Da) (β := Int) (γ := Da) (a := comman_7) (b := (2 : Int))))) (fun _ _ _ => rfl) (fun _ _ _ => rfl))))) h39 (fun M53 h54 => (seq_ret (x := (en (α := (Option Int)) (some x4))) (pv (d := (en (α := Int) x4)) rfl) h54 ⟨_, rfl, ⟨rfl, h54⟩⟩))
  (fun M55 h56 => (seq_skip (skip_end ⟨_, Or.inl rfl, _, _, rfl, h56⟩)))))))))))))⟩))
  (fun s3 env M ⟨o5, o6, he, h58⟩ => by subst he; exact (last_of (seq_ret (x := (en (α := (Option Int)) (none : (Option Int)))) pv_c h58 ⟨rfl, h58⟩)))
  (fun r d M h => ⟨congrArg Fl.rt h.1, h.2⟩)))
def t__law_lines_due (p_text : Str) : Pr (Str × Da) :=
  ((Pr.need (splOk p_text ("\n" : Str)) (Pr.ok (Txt.split p_text ("\n" : Str)))).bind fun (lines_3 : (List Str)) =>
  (Pr.flow ((Pr.need (sm (((lines_3.length : Nat) : Int) - (1 : Int))) (Pr.ok (rngI 0 (Int.toNat (((lines_3.length : Nat) : Int) - (1 : Int)))))).bind fun (l57 : List Int) => Pr.forF (ρ := (Str × Da)) l57 ([] : (List (T3 Str Int Int))) (fun (x12 : Int) (s11 : (List (T3 Str Int Int))) =>
  (((idx lines_3 x12).bind fun (w19 : Str) => Pr.need (splOk w19 (" " : Str)) (Pr.ok (Txt.split w19 (" " : Str)))).bind fun (words_20 : (List Str)) =>
  (((Pr.ok (cutD words_20 (some (1 : Int)) none)).bind fun (l26 : List Str) => Pr.need (l26.length ≤ 16777216) (Pr.lcM l26 (fun (x23 : Str) => (Pr.ok true)) (fun (x23 : Str) => (t__law_plain_number x23)))).bind fun (number_27 : (List (Option Int))) =>
  (if ((!decide (((words_20.length : Nat) : Int) = (3 : Int))) || (if false then !inT (none : (Option Int)) number_27 else inT (none : (Option Int)) number_27)) then (Pr.ok (FlT.rt ((("BadText" : Str), (da (α := Int) x12)) : (Str × Da)))) else
  (((idx words_20 (0 : Int)).bind fun (a34 : Str) => ((idx number_27 (0 : Int)).bind fun (a37 : (Option Int)) => ((idx number_27 (1 : Int)).bind fun (a40 : (Option Int)) => (Pr.ok ((T3.mk a34 a37 a40) : (T3 Str (Option Int) (Option Int))))))).bind fun (comman_43 : (T3 Str (Option Int) (Option Int))) =>
  (((t__law_due_command ([(da (α := (T3 Str (Option Int) (Option Int))) comman_43)] : (List Da))).bind fun (a48 : (Option Int)) => (Pr.ok a48.isSome)).bind fun c => if c then (Pr.ok (FlT.rt ((("BadText" : Str), (da (α := Int) x12)) : (Str × Da)))) else
  ((cast (α := (T3 Str (Option Int) (Option Int))) (β := (T3 Str Int Int)) comman_43).bind fun (a56 : (T3 Str Int Int)) => Pr.need (s11.length < 16777216)
  (Pr.ok (FlT.nx (s11 ++ [a56]))))))))))) (fun (s11 : (List (T3 Str Int Int))) =>
  (((idx lines_3 (-(1 : Int))).bind fun (a59 : Str) => (Pr.ok (decide (a59 = ("" : Str))))).bind fun b => if b then Pr.ok ((("told" : Str), (da (α := List (T3 Str Int Int)) s11)) : Str × Da) else (Pr.ok ((("BadText" : Str), (da (α := Int) (((lines_3.length : Nat) : Int) - (1 : Int)))) : (Str × Da))))) (fun (r63 : (Str × Da)) => r63)))
theorem ft__law_lines_due (p_text : Str) : FP F__law_lines_due [(en (α := Str) p_text)] (t__law_lines_due p_text) := frzT_pv (env0 := [some (en (α := Str) p_text), none, none, none, none, none, none, none]) rfl rfl (fun M0 M hP hM => by
  unfold B__law_lines_due t__law_lines_due
  exact (seq_setx (env1 := fun (lines_3 : (List Str)) => [some (en (α := Str) p_text), some (en (α := (List Str)) lines_3), none, none, none, none, none, none]) (fun _ => rfl) (split_v (a := p_text) (b := ("\n" : Str)) (pv (d := (en (α := Str) p_text)) rfl) pv_c) hM (fun (lines_3 : (List Str)) M4 h5 =>
  (seq_newC (l := ([] : (List (T3 Str Int Int)))) (env1 := fun n6 => [some (en (α := Str) p_text), some (en (α := (List Str)) lines_3), some (.ref n6), none, none, none, none, none]) (fun _ => rfl) av_nil h5 (by exact Nat.le_of_ble_eq_true rfl) (fun n6 M7 h8 => (seq_fl (w := fun (r63 : (Str × Da)) => r63) (k := fun (s11 : (List (T3 Str Int Int))) => (((idx lines_3 (-(1 : Int))).bind fun (a59 : Str) => (Pr.ok (decide (a59 = ("" : Str))))).bind fun b => if b then Pr.ok ((("told" : Str), (da (α := List (T3 Str Int Int)) s11)) : Str × Da) else (Pr.ok ((("BadText" : Str), (da (α := Int) (((lines_3.length : Nat) : Int) - (1 : Int)))) : (Str × Da))))) (for_fl (enc := D.int) (s := ([] : (List (T3 Str Int Int)))) (body := (fun (x12 : Int) (s11 : (List (T3 Str Int Int))) =>
  (((idx lines_3 x12).bind fun (w19 : Str) => Pr.need (splOk w19 (" " : Str)) (Pr.ok (Txt.split w19 (" " : Str)))).bind fun (words_20 : (List Str)) =>
  (((Pr.ok (cutD words_20 (some (1 : Int)) none)).bind fun (l26 : List Str) => Pr.need (l26.length ≤ 16777216) (Pr.lcM l26 (fun (x23 : Str) => (Pr.ok true)) (fun (x23 : Str) => (t__law_plain_number x23)))).bind fun (number_27 : (List (Option Int))) =>
  (if ((!decide (((words_20.length : Nat) : Int) = (3 : Int))) || (if false then !inT (none : (Option Int)) number_27 else inT (none : (Option Int)) number_27)) then (Pr.ok (FlT.rt ((("BadText" : Str), (da (α := Int) x12)) : (Str × Da)))) else
  (((idx words_20 (0 : Int)).bind fun (a34 : Str) => ((idx number_27 (0 : Int)).bind fun (a37 : (Option Int)) => ((idx number_27 (1 : Int)).bind fun (a40 : (Option Int)) => (Pr.ok ((T3.mk a34 a37 a40) : (T3 Str (Option Int) (Option Int))))))).bind fun (comman_43 : (T3 Str (Option Int) (Option Int))) =>
  (((t__law_due_command ([(da (α := (T3 Str (Option Int) (Option Int))) comman_43)] : (List Da))).bind fun (a48 : (Option Int)) => (Pr.ok a48.isSome)).bind fun c => if c then (Pr.ok (FlT.rt ((("BadText" : Str), (da (α := Int) x12)) : (Str × Da)))) else
  ((cast (α := (T3 Str (Option Int) (Option Int))) (β := (T3 Str Int Int)) comman_43).bind fun (a56 : (T3 Str Int Int)) => Pr.need (s11.length < 16777216)
  (Pr.ok (FlT.nx (s11 ++ [a56]))))))))))) (I := (fun (s11 : (List (T3 Str Int Int))) (env : En) (M : Sto) => ∃ o13 : Option D, ∃ o14 : Option D, ∃ o15 : Option D, ∃ o16 : Option D, env = [some (en (α := Str) p_text), some (en (α := (List Str)) lines_3), some (.ref n6), o14, o16, o15, o13, none] ∧ (St M0.length (· = M0) [(n6, Cell.lst (List.map (en (α := (T3 Str Int Int))) s11))]) M)) (R := fun (r : (Str × Da)) d M => d = en r ∧ St M0.length (· = M0) [] M) (rng1_v (n := (((lines_3.length : Nat) : Int) - (1 : Int))) (bin_v (z := (en (α := Int) (((lines_3.length : Nat) : Int) - (1 : Int)))) (len_L (l := lines_3) (lv_v (l := List.map (en (α := Str)) lines_3) (pv (d := (en (α := (List Str)) lines_3)) rfl))) pv_c (fun M _ => rfl))) h8 (fun M h => ⟨_, _, _, _, rfl, h⟩)
  (fun x12 s11 env M ⟨o13, o14, o15, o16, he, hM⟩ => by subst he; exact ⟨[some (en (α := Str) p_text), some (en (α := (List Str)) lines_3), some (.ref n6), some (en (α := Int) x12), o16, o15, o13, none], rfl, (seq_setx (env1 := fun (words_20 : (List Str)) => [some (en (α := Str) p_text), some (en (α := (List Str)) lines_3), some (.ref n6), some (en (α := Int) x12), some (en (α := (List Str)) words_20), o15, o13, none]) (fun _ => rfl) (split_x (b := (" " : Str)) (ix_l (l := lines_3) (lv_v (l := List.map (en (α := Str)) lines_3) (pv (d := (en (α := (List Str)) lines_3)) rfl)) (pv (d := (en (α := Int) x12)) rfl)) pv_c) hM (fun (words_20 : (List Str)) M21 h22 =>
  (seq_setx (env1 := fun (number_27 : (List (Option Int))) => [some (en (α := Str) p_text), some (en (α := (List Str)) lines_3), some (.ref n6), some (en (α := Int) x12), some (en (α := (List Str)) words_20), some (en (α := (List (Option Int))) number_27), o13, none]) (fun _ => rfl) (lc_x (enc := (en (α := Str))) (c := fun (x23 : Str) => (Pr.ok true)) (g := fun (x23 : Str) => (t__law_plain_number x23)) (iter_v (l := (cutD words_20 (some (1 : Int)) none)) (sl_L (l := words_20) (lv_v (l := List.map (en (α := Str)) words_20) (pv (d := (en (α := (List Str)) words_20)) rfl)) (ov_s (i := (1 : Int)) pv_c) ov_n)) (fun x23 => ⟨[some (en (α := Str) p_text), some (en (α := (List Str)) lines_3), some (.ref n6), some (en (α := Int) x12), some (en (α := (List Str)) words_20), o15, o13, some (en (α := Str) x23)], rfl, (TV.tx yes_tv), (fun M24 h25 => (arg_p (pv (d := (en (α := Str) x23)) rfl) h25 (arg_nil (callP (ft__law_plain_number x23) h25))))⟩)) h22 (fun (number_27 : (List (Option Int))) M28 h29 =>
  (seq_if (or_tv (b_v (bin_v (z := (en (α := Bool) (!decide (((words_20.length : Nat) : Int) = (3 : Int))))) (len_L (l := words_20) (lv_v (l := List.map (en (α := Str)) words_20) (pv (d := (en (α := (List Str)) words_20)) rfl))) pv_c (fun M _ => gneI _ _ M))) (b_v (in_vT (l := number_27) (x := (none : (Option Int))) false pv_c (pv (d := (en (α := (List (Option Int))) number_27)) rfl)))) h29 (seq_ret (x := (en (α := (Str × Da)) ((("BadText" : Str), (da (α := Int) x12)) : (Str × Da)))) (tup_v (av_cons (x := (en (α := Str) ("BadText" : Str))) pv_c (av_cons (x := (en (α := Da) (da (α := Int) x12))) (pv (d := (en (α := Int) x12)) rfl) av_nil))) h29 ⟨_, rfl, ⟨rfl, (h29).nil_of⟩⟩)
  (seq_skip (seq_setx (env1 := fun (comman_43 : (T3 Str (Option Int) (Option Int))) => [some (en (α := Str) p_text), some (en (α := (List Str)) lines_3), some (.ref n6), some (en (α := Int) x12), some (en (α := (List Str)) words_20), some (en (α := (List (Option Int))) number_27), some (en (α := (T3 Str (Option Int) (Option Int))) comman_43), none]) (fun _ => rfl) (fun M32 h33 => (arg_e (ix_l (l := words_20) (lv_v (l := List.map (en (α := Str)) words_20) (pv (d := (en (α := (List Str)) words_20)) rfl)) pv_c) h33 (fun (a34 : Str) M35 h36 => (arg_e (ix_l (l := number_27) (lv_v (l := List.map (en (α := (Option Int))) number_27) (pv (d := (en (α := (List (Option Int))) number_27)) rfl)) pv_c) h36 (fun (a37 : (Option Int)) M38 h39 => (arg_e (ix_l (l := number_27) (lv_v (l := List.map (en (α := (Option Int))) number_27) (pv (d := (en (α := (List (Option Int))) number_27)) rfl)) pv_c) h39 (fun (a40 : (Option Int)) M41 h42 => (arg_nil (seq_end (mk := D.tup) (a := ((T3.mk a34 a37 a40) : (T3 Str (Option Int) (Option Int)))) rfl h42))))))))) h29 (fun (comman_43 : (T3 Str (Option Int) (Option Int))) M44 h45 =>
  (seq_ifx (b_x (bin_ep (γ := Bool) (fun M46 h47 => (arg_p (lst_v (av_cons (x := (en (α := Da) (da (α := (T3 Str (Option Int) (Option Int))) comman_43))) (pv (d := (en (α := (T3 Str (Option Int) (Option Int))) comman_43)) rfl) av_nil)) h47 (arg_nil (callP (ft__law_due_command ([(da (α := (T3 Str (Option Int) (Option Int))) comman_43)] : (List Da))).fp h47)))) pv_c (fun a48 => (gs_isnt (o := a48))))) h45 (fun M50 h51 => (seq_ret (x := (en (α := (Str × Da)) ((("BadText" : Str), (da (α := Int) x12)) : (Str × Da)))) (tup_v (av_cons (x := (en (α := Str) ("BadText" : Str))) pv_c (av_cons (x := (en (α := Da) (da (α := Int) x12))) (pv (d := (en (α := Int) x12)) rfl) av_nil))) h51 ⟨_, rfl, ⟨rfl, (h51).nil_of⟩⟩))
  (fun M52 h53 => (seq_skip (last_of (seq_appx (l := s11) 0 rfl rfl (PV.cast (α := (T3 Str (Option Int) (Option Int))) (β := (T3 Str Int Int)) (a := comman_43) (pv (d := (en (α := (T3 Str (Option Int) (Option Int))) comman_43)) rfl)) h53 (fun a56 M54 h55 =>
  (skip_end ⟨_, Or.inl rfl, _, _, _, _, rfl, h55⟩)))))))))))))))⟩))
  (fun s11 env M ⟨o13, o14, o15, o16, he, h58⟩ => by subst he; exact (last_of (ret_ifT (l := s11) (w := ("told" : Str)) 0 rfl rfl pv_c (b_x (bin_ep (γ := Bool) (ix_l (l := lines_3) (lv_v (l := List.map (en (α := Str)) lines_3) (pv (d := (en (α := (List Str)) lines_3)) rfl)) (un_v (z := (en (α := Int) (-(1 : Int)))) pv_c (fun M _ => rfl))) pv_c (fun a59 => (gs_ok (c := (decide (a59 = ("" : Str)))) fun M _ => w_eq _ _ M)))) (PV.px (a := ((("BadText" : Str), (da (α := Int) (((lines_3.length : Nat) : Int) - (1 : Int)))) : (Str × Da))) (tup_v (av_cons (x := (en (α := Str) ("BadText" : Str))) pv_c (av_cons (x := (en (α := Da) (da (α := Int) (((lines_3.length : Nat) : Int) - (1 : Int))))) (bin_v (z := (en (α := Int) (((lines_3.length : Nat) : Int) - (1 : Int)))) (len_L (l := lines_3) (lv_v (l := List.map (en (α := Str)) lines_3) (pv (d := (en (α := (List Str)) lines_3)) rfl))) pv_c (fun M _ => rfl)) av_nil)))) h58)))
  (fun r d M h => ⟨_, h.2, Or.inl (congrArg Fl.rt h.1)⟩)))))))
def t__law_odd_command  : Pr Da :=
  (Pr.need (([(da (α := (T3 Str Int Int)) ((T3.mk ("insert" : Str) (-(1 : Int)) (1 : Int)) : (T3 Str Int Int))), (da (α := (T3 Str Int Int)) ((T3.mk ("insert" : Str) (2 : Int) (0 : Int)) : (T3 Str Int Int))), (da (α := (T3 Str Int Int)) ((T3.mk ("insert" : Str) (2 : Int) (-(3 : Int))) : (T3 Str Int Int))), (da (α := (T3 Str Int Int)) ((T3.mk ("delete" : Str) (3 : Int) (2 : Int)) : (T3 Str Int Int))), (da (α := (T3 Str Int Int)) ((T3.mk ("delete" : Str) (-(1 : Int)) (2 : Int)) : (T3 Str Int Int))), (da (α := (T3 Str Int Int)) ((T3.mk ("move" : Str) (1 : Int) (2 : Int)) : (T3 Str Int Int)))] : (List Da)).length + ([(da (α := (Str × Int)) ((("insert" : Str), (1 : Int)) : (Str × Int))), nilT, (da (α := (T3 Str Int Int)) ((T3.mk ("Insert" : Str) (1 : Int) (1 : Int)) : (T3 Str Int Int))), (da (α := (T4 Str Int Int Int)) ((T4.mk ("delete" : Str) (0 : Int) (0 : Int) (0 : Int)) : (T4 Str Int Int Int))), (tup1 ("delete" : Str)), (da (α := (T3 Str Int Int)) ((T3.mk ("" : Str) (1 : Int) (1 : Int)) : (T3 Str Int Int)))] : (List Da)).length ≤ 16777216)
  (Pr.need ((([(da (α := (T3 Str Int Int)) ((T3.mk ("insert" : Str) (-(1 : Int)) (1 : Int)) : (T3 Str Int Int))), (da (α := (T3 Str Int Int)) ((T3.mk ("insert" : Str) (2 : Int) (0 : Int)) : (T3 Str Int Int))), (da (α := (T3 Str Int Int)) ((T3.mk ("insert" : Str) (2 : Int) (-(3 : Int))) : (T3 Str Int Int))), (da (α := (T3 Str Int Int)) ((T3.mk ("delete" : Str) (3 : Int) (2 : Int)) : (T3 Str Int Int))), (da (α := (T3 Str Int Int)) ((T3.mk ("delete" : Str) (-(1 : Int)) (2 : Int)) : (T3 Str Int Int))), (da (α := (T3 Str Int Int)) ((T3.mk ("move" : Str) (1 : Int) (2 : Int)) : (T3 Str Int Int)))] : (List Da)) ++ ([(da (α := (Str × Int)) ((("insert" : Str), (1 : Int)) : (Str × Int))), nilT, (da (α := (T3 Str Int Int)) ((T3.mk ("Insert" : Str) (1 : Int) (1 : Int)) : (T3 Str Int Int))), (da (α := (T4 Str Int Int Int)) ((T4.mk ("delete" : Str) (0 : Int) (0 : Int) (0 : Int)) : (T4 Str Int Int Int))), (tup1 ("delete" : Str)), (da (α := (T3 Str Int Int)) ((T3.mk ("" : Str) (1 : Int) (1 : Int)) : (T3 Str Int Int)))] : (List Da))).length < 16777216) (Pr.of ((([(da (α := (T3 Str Int Int)) ((T3.mk ("insert" : Str) (-(1 : Int)) (1 : Int)) : (T3 Str Int Int))), (da (α := (T3 Str Int Int)) ((T3.mk ("insert" : Str) (2 : Int) (0 : Int)) : (T3 Str Int Int))), (da (α := (T3 Str Int Int)) ((T3.mk ("insert" : Str) (2 : Int) (-(3 : Int))) : (T3 Str Int Int))), (da (α := (T3 Str Int Int)) ((T3.mk ("delete" : Str) (3 : Int) (2 : Int)) : (T3 Str Int Int))), (da (α := (T3 Str Int Int)) ((T3.mk ("delete" : Str) (-(1 : Int)) (2 : Int)) : (T3 Str Int Int))), (da (α := (T3 Str Int Int)) ((T3.mk ("move" : Str) (1 : Int) (2 : Int)) : (T3 Str Int Int)))] : (List Da)) ++ ([(da (α := (Str × Int)) ((("insert" : Str), (1 : Int)) : (Str × Int))), nilT, (da (α := (T3 Str Int Int)) ((T3.mk ("Insert" : Str) (1 : Int) (1 : Int)) : (T3 Str Int Int))), (da (α := (T4 Str Int Int Int)) ((T4.mk ("delete" : Str) (0 : Int) (0 : Int) (0 : Int)) : (T4 Str Int Int Int))), (tup1 ("delete" : Str)), (da (α := (T3 Str Int Int)) ((T3.mk ("" : Str) (1 : Int) (1 : Int)) : (T3 Str Int Int)))] : (List Da))) ++ [(da (α := (T3 Str Int Int)) ((T3.mk ("insert" : Str) (0 : Int) (-(100000000000000000000 : Int))) : (T3 Str Int Int)))]))))
theorem ft__law_odd_command  : FB F__law_odd_command [] (t__law_odd_command ) := frz_bv (env0 := [some (.ref 0), none]) rfl rfl (fun G M hG hM => by
  unfold B__law_odd_command t__law_odd_command
  exact (seq_newC (l := ([(da (α := (T3 Str Int Int)) ((T3.mk ("insert" : Str) (-(1 : Int)) (1 : Int)) : (T3 Str Int Int))), (da (α := (T3 Str Int Int)) ((T3.mk ("insert" : Str) (2 : Int) (0 : Int)) : (T3 Str Int Int))), (da (α := (T3 Str Int Int)) ((T3.mk ("insert" : Str) (2 : Int) (-(3 : Int))) : (T3 Str Int Int))), (da (α := (T3 Str Int Int)) ((T3.mk ("delete" : Str) (3 : Int) (2 : Int)) : (T3 Str Int Int))), (da (α := (T3 Str Int Int)) ((T3.mk ("delete" : Str) (-(1 : Int)) (2 : Int)) : (T3 Str Int Int))), (da (α := (T3 Str Int Int)) ((T3.mk ("move" : Str) (1 : Int) (2 : Int)) : (T3 Str Int Int)))] : (List Da))) (env1 := fun n1 => [some (.ref 0), some (.ref n1)]) (fun _ => rfl) (av_cons (x := (en (α := Da) (da (α := (T3 Str Int Int)) ((T3.mk ("insert" : Str) (-(1 : Int)) (1 : Int)) : (T3 Str Int Int))))) (tup_v (av_cons (x := (en (α := Str) ("insert" : Str))) pv_c (av_cons (x := (en (α := Int) (-(1 : Int)))) (un_v (z := (en (α := Int) (-(1 : Int)))) pv_c (fun M _ => rfl)) (av_cons (x := (en (α := Int) (1 : Int))) pv_c av_nil)))) (av_cons (x := (en (α := Da) (da (α := (T3 Str Int Int)) ((T3.mk ("insert" : Str) (2 : Int) (0 : Int)) : (T3 Str Int Int))))) (tup_v (av_cons (x := (en (α := Str) ("insert" : Str))) pv_c (av_cons (x := (en (α := Int) (2 : Int))) pv_c (av_cons (x := (en (α := Int) (0 : Int))) pv_c av_nil)))) (av_cons (x := (en (α := Da) (da (α := (T3 Str Int Int)) ((T3.mk ("insert" : Str) (2 : Int) (-(3 : Int))) : (T3 Str Int Int))))) (tup_v (av_cons (x := (en (α := Str) ("insert" : Str))) pv_c (av_cons (x := (en (α := Int) (2 : Int))) pv_c (av_cons (x := (en (α := Int) (-(3 : Int)))) (un_v (z := (en (α := Int) (-(3 : Int)))) pv_c (fun M _ => rfl)) av_nil)))) (av_cons (x := (en (α := Da) (da (α := (T3 Str Int Int)) ((T3.mk ("delete" : Str) (3 : Int) (2 : Int)) : (T3 Str Int Int))))) (tup_v (av_cons (x := (en (α := Str) ("delete" : Str))) pv_c (av_cons (x := (en (α := Int) (3 : Int))) pv_c (av_cons (x := (en (α := Int) (2 : Int))) pv_c av_nil)))) (av_cons (x := (en (α := Da) (da (α := (T3 Str Int Int)) ((T3.mk ("delete" : Str) (-(1 : Int)) (2 : Int)) : (T3 Str Int Int))))) (tup_v (av_cons (x := (en (α := Str) ("delete" : Str))) pv_c (av_cons (x := (en (α := Int) (-(1 : Int)))) (un_v (z := (en (α := Int) (-(1 : Int)))) pv_c (fun M _ => rfl)) (av_cons (x := (en (α := Int) (2 : Int))) pv_c av_nil)))) (av_cons (x := (en (α := Da) (da (α := (T3 Str Int Int)) ((T3.mk ("move" : Str) (1 : Int) (2 : Int)) : (T3 Str Int Int))))) (tup_v (av_cons (x := (en (α := Str) ("move" : Str))) pv_c (av_cons (x := (en (α := Int) (1 : Int))) pv_c (av_cons (x := (en (α := Int) (2 : Int))) pv_c av_nil)))) av_nil)))))) hM (by exact Nat.le_of_ble_eq_true rfl) (fun n1 M2 h3 => (seq_addC (l := ([(da (α := (T3 Str Int Int)) ((T3.mk ("insert" : Str) (-(1 : Int)) (1 : Int)) : (T3 Str Int Int))), (da (α := (T3 Str Int Int)) ((T3.mk ("insert" : Str) (2 : Int) (0 : Int)) : (T3 Str Int Int))), (da (α := (T3 Str Int Int)) ((T3.mk ("insert" : Str) (2 : Int) (-(3 : Int))) : (T3 Str Int Int))), (da (α := (T3 Str Int Int)) ((T3.mk ("delete" : Str) (3 : Int) (2 : Int)) : (T3 Str Int Int))), (da (α := (T3 Str Int Int)) ((T3.mk ("delete" : Str) (-(1 : Int)) (2 : Int)) : (T3 Str Int Int))), (da (α := (T3 Str Int Int)) ((T3.mk ("move" : Str) (1 : Int) (2 : Int)) : (T3 Str Int Int)))] : (List Da))) (m := ([(da (α := (Str × Int)) ((("insert" : Str), (1 : Int)) : (Str × Int))), nilT, (da (α := (T3 Str Int Int)) ((T3.mk ("Insert" : Str) (1 : Int) (1 : Int)) : (T3 Str Int Int))), (da (α := (T4 Str Int Int Int)) ((T4.mk ("delete" : Str) (0 : Int) (0 : Int) (0 : Int)) : (T4 Str Int Int Int))), (tup1 ("delete" : Str)), (da (α := (T3 Str Int Int)) ((T3.mk ("" : Str) (1 : Int) (1 : Int)) : (T3 Str Int Int)))] : (List Da))) (env1 := fun n4 => [some (.ref 0), some (.ref n4)]) 0 rfl rfl (lst_v (av_cons (x := (en (α := Da) (da (α := (Str × Int)) ((("insert" : Str), (1 : Int)) : (Str × Int))))) (tup_v (av_cons (x := (en (α := Str) ("insert" : Str))) pv_c (av_cons (x := (en (α := Int) (1 : Int))) pv_c av_nil))) (av_cons (x := (en (α := Da) nilT)) nilT_v (av_cons (x := (en (α := Da) (da (α := (T3 Str Int Int)) ((T3.mk ("Insert" : Str) (1 : Int) (1 : Int)) : (T3 Str Int Int))))) (tup_v (av_cons (x := (en (α := Str) ("Insert" : Str))) pv_c (av_cons (x := (en (α := Int) (1 : Int))) pv_c (av_cons (x := (en (α := Int) (1 : Int))) pv_c av_nil)))) (av_cons (x := (en (α := Da) (da (α := (T4 Str Int Int Int)) ((T4.mk ("delete" : Str) (0 : Int) (0 : Int) (0 : Int)) : (T4 Str Int Int Int))))) (tup_v (av_cons (x := (en (α := Str) ("delete" : Str))) pv_c (av_cons (x := (en (α := Int) (0 : Int))) pv_c (av_cons (x := (en (α := Int) (0 : Int))) pv_c (av_cons (x := (en (α := Int) (0 : Int))) pv_c av_nil))))) (av_cons (x := (en (α := Da) (tup1 ("delete" : Str)))) (tup_v (av_cons pv_c av_nil)) (av_cons (x := (en (α := Da) (da (α := (T3 Str Int Int)) ((T3.mk ("" : Str) (1 : Int) (1 : Int)) : (T3 Str Int Int))))) (tup_v (av_cons (x := (en (α := Str) ("" : Str))) pv_c (av_cons (x := (en (α := Int) (1 : Int))) pv_c (av_cons (x := (en (α := Int) (1 : Int))) pv_c av_nil)))) av_nil))))))) (fun _ => rfl) h3 (fun n4 M5 h6 =>
  (seq_app (l := (([(da (α := (T3 Str Int Int)) ((T3.mk ("insert" : Str) (-(1 : Int)) (1 : Int)) : (T3 Str Int Int))), (da (α := (T3 Str Int Int)) ((T3.mk ("insert" : Str) (2 : Int) (0 : Int)) : (T3 Str Int Int))), (da (α := (T3 Str Int Int)) ((T3.mk ("insert" : Str) (2 : Int) (-(3 : Int))) : (T3 Str Int Int))), (da (α := (T3 Str Int Int)) ((T3.mk ("delete" : Str) (3 : Int) (2 : Int)) : (T3 Str Int Int))), (da (α := (T3 Str Int Int)) ((T3.mk ("delete" : Str) (-(1 : Int)) (2 : Int)) : (T3 Str Int Int))), (da (α := (T3 Str Int Int)) ((T3.mk ("move" : Str) (1 : Int) (2 : Int)) : (T3 Str Int Int)))] : (List Da)) ++ ([(da (α := (Str × Int)) ((("insert" : Str), (1 : Int)) : (Str × Int))), nilT, (da (α := (T3 Str Int Int)) ((T3.mk ("Insert" : Str) (1 : Int) (1 : Int)) : (T3 Str Int Int))), (da (α := (T4 Str Int Int Int)) ((T4.mk ("delete" : Str) (0 : Int) (0 : Int) (0 : Int)) : (T4 Str Int Int Int))), (tup1 ("delete" : Str)), (da (α := (T3 Str Int Int)) ((T3.mk ("" : Str) (1 : Int) (1 : Int)) : (T3 Str Int Int)))] : (List Da)))) (x := (da (α := (T3 Str Int Int)) ((T3.mk ("insert" : Str) (0 : Int) (-(100000000000000000000 : Int))) : (T3 Str Int Int)))) 1 rfl rfl (tup_v (av_cons (x := (en (α := Str) ("insert" : Str))) pv_c (av_cons (x := (en (α := Int) (0 : Int))) pv_c (av_cons (x := (en (α := Int) (-(100000000000000000000 : Int)))) (un_v (z := (en (α := Int) (-(100000000000000000000 : Int)))) (bin_v (z := .int 100000000000000000000) pv_c pv_c (fun M _ => by simp [gPow, gIntC])) (fun M _ => rfl)) av_nil)))) h6 (fun M7 h8 => (last_of (seq_retx' (fun M9 h10 => arg_p (pv (d := .ref 0) rfl) h10 (arg_p (pv (d := .ref n4) rfl) h10 (arg_nil (of_c (l := ((([(da (α := (T3 Str Int Int)) ((T3.mk ("insert" : Str) (-(1 : Int)) (1 : Int)) : (T3 Str Int Int))), (da (α := (T3 Str Int Int)) ((T3.mk ("insert" : Str) (2 : Int) (0 : Int)) : (T3 Str Int Int))), (da (α := (T3 Str Int Int)) ((T3.mk ("insert" : Str) (2 : Int) (-(3 : Int))) : (T3 Str Int Int))), (da (α := (T3 Str Int Int)) ((T3.mk ("delete" : Str) (3 : Int) (2 : Int)) : (T3 Str Int Int))), (da (α := (T3 Str Int Int)) ((T3.mk ("delete" : Str) (-(1 : Int)) (2 : Int)) : (T3 Str Int Int))), (da (α := (T3 Str Int Int)) ((T3.mk ("move" : Str) (1 : Int) (2 : Int)) : (T3 Str Int Int)))] : (List Da)) ++ ([(da (α := (Str × Int)) ((("insert" : Str), (1 : Int)) : (Str × Int))), nilT, (da (α := (T3 Str Int Int)) ((T3.mk ("Insert" : Str) (1 : Int) (1 : Int)) : (T3 Str Int Int))), (da (α := (T4 Str Int Int Int)) ((T4.mk ("delete" : Str) (0 : Int) (0 : Int) (0 : Int)) : (T4 Str Int Int Int))), (tup1 ("delete" : Str)), (da (α := (T3 Str Int Int)) ((T3.mk ("" : Str) (1 : Int) (1 : Int)) : (T3 Str Int Int)))] : (List Da))) ++ [(da (α := (T3 Str Int Int)) ((T3.mk ("insert" : Str) (0 : Int) (-(100000000000000000000 : Int))) : (T3 Str Int Int)))])) 1 rfl h10)))) h8 (fun r11 M12 h13 => ⟨rfl, (h13).nil_of⟩))))))))))
def tx_check_script (p_script : (List Da)) : Pr Unit :=
  ((((lim p_script).bind fun l => Pr.ok (enumI 0 l)).bind fun (l11 : List (Int × Da)) => Pr.forM l11 () (fun (x2 : (Int × Da)) (s1 : Unit) =>
  (((t_is_command x2.2).bind fun b => Pr.ok (!b)).bind fun c => if c then (Pr.need (okIntD (en (α := Int) x2.1) = true) (Pr.exc ⟨"BadCommand", ["at", "word"], [(en (α := Int) x2.1), .str "BadCommand"]⟩)) else
  (Pr.ok ())))).bind fun (s1 : Unit) =>
  (Pr.ok ()))
theorem ftx_check_script (p_script : (List Da)) : FHx Fx_check_script (fun xh => [xh]) p_script (tx_check_script p_script) := run_hNx (env0 := fun xh => [some xh, none, none]) (fun _ => rfl) (fun _ => rfl) (fun xh M0 M hM => by
  unfold Bx_check_script tx_check_script
  exact (last_of (seq_nx (k := fun (s1 : Unit) => (Pr.ok ())) (forHe_nx (x := xh) (l := p_script) (s := ()) (body := (fun (x2 : (Int × Da)) (s1 : Unit) =>
  (((t_is_command x2.2).bind fun b => Pr.ok (!b)).bind fun c => if c then (Pr.need (okIntD (en (α := Int) x2.1) = true) (Pr.exc ⟨"BadCommand", ["at", "word"], [(en (α := Int) x2.1), .str "BadCommand"]⟩)) else
  (Pr.ok ())))) (I := (fun (s1 : Unit) (env : En) (M : Sto) => ∃ o3 : Option D, ∃ o4 : Option D, env = [some xh, o3, o4] ∧ (SH xh (List.map en p_script) M0) M)) rfl (fun s1 env M ⟨o3, o4, he, hM⟩ => hM.sq) ⟨_, _, rfl, hM⟩
  (fun x2 s1 env M ⟨o3, o4, he, hM⟩ => by subst he; exact ⟨[some xh, some (en (α := Int) x2.1), some (en (α := Da) x2.2)], rfl, (last_of (seq_ifx (not_tx (tru_b (fun M5 h6 => (arg_p (pv (d := (en (α := Da) x2.2)) rfl) h6 (arg_nil (callP (ft_is_command x2.2) h6)))))) hM (fun M7 h8 => (seq_raise1 (a := x2.1) (pv (d := (en (α := Int) x2.1)) rfl) h8 h8))
  (fun M9 h10 => (seq_skip (skip_end ⟨_, Or.inl rfl, _, _, rfl, h10⟩)))))⟩))
  (fun s1 env M ⟨o3, o4, he, h12⟩ => by subst he; exact (skip_end ⟨Or.inl ⟨_, rfl⟩, h12⟩)))))
def tx_script_text (p_script : (List Da)) : Pr Str :=
  ((tx_check_script p_script).bind fun (a3 : Unit) =>
  (((castL (α := (T3 Str Int Int)) p_script).bind fun (c8 : List (T3 Str Int Int)) => (Pr.need (c8.length ≤ 16777216) (Pr.lcM c8 (fun (x9 : (T3 Str Int Int)) => (Pr.ok true)) (fun (x9 : (T3 Str Int Int)) => ((Pr.ok x9.p1).bind fun (i10 : Str) => Pr.need (i10.length ≤ 16777216 ∧ (Str.empty ++ i10).length ≤ 16777216) (Pr.need (((Str.empty ++ i10) ++ (" " : Str)).length ≤ 16777216) ((Pr.ok x9.p2).bind fun (i11 : Int) => Pr.need (i11.natAbs.log2 < 1920 ∧ (((Str.empty ++ i10) ++ (" " : Str)) ++ strI i11).length ≤ 16777216) (Pr.need (((((Str.empty ++ i10) ++ (" " : Str)) ++ strI i11) ++ (" " : Str)).length ≤ 16777216) ((Pr.ok x9.p3).bind fun (i12 : Int) => Pr.need (i12.natAbs.log2 < 1920 ∧ (((((Str.empty ++ i10) ++ (" " : Str)) ++ strI i11) ++ (" " : Str)) ++ strI i12).length ≤ 16777216) (Pr.need (((((((Str.empty ++ i10) ++ (" " : Str)) ++ strI i11) ++ (" " : Str)) ++ strI i12) ++ ("\n" : Str)).length ≤ 16777216) (Pr.ok ((((((Str.empty ++ i10) ++ (" " : Str)) ++ strI i11) ++ (" " : Str)) ++ strI i12) ++ ("\n" : Str))))))))))))).bind fun (l16 : List Str) => Pr.need (joiOk ("" : Str) l16) (Pr.ok (Txt.join ("" : Str) l16))))
theorem ftx_script_text (p_script : (List Da)) : FHx Fx_script_text (fun xh => [xh]) p_script (tx_script_text p_script) := run_hx (env0 := fun xh => [some xh, none, none, none]) (fun _ => rfl) (fun _ => rfl) (fun xh M0 M hM => by
  unfold Bx_script_text tx_script_text
  exact (seq_dropx (fun M1 h2 => (arg_p (pv (d := xh) rfl) h2 (arg_nil (callHx (ftx_check_script p_script) h2 (h2).sq)))) hM (fun a3 M4 h5 =>
  (last_of (seq_retx' (join_x (a := ("" : Str)) pv_c (fun M14 h15 => castL_i fun c8 hc8 => (lcH_x (S := (SH xh (List.map en p_script) M0)) (x := xh) (l := c8) (enc := (en (α := (T3 Str Int Int)))) (c := fun (x9 : (T3 Str Int Int)) => (Pr.ok true)) (g := fun (x9 : (T3 Str Int Int)) => ((Pr.ok x9.p1).bind fun (i10 : Str) => Pr.need (i10.length ≤ 16777216 ∧ (Str.empty ++ i10).length ≤ 16777216) (Pr.need (((Str.empty ++ i10) ++ (" " : Str)).length ≤ 16777216) ((Pr.ok x9.p2).bind fun (i11 : Int) => Pr.need (i11.natAbs.log2 < 1920 ∧ (((Str.empty ++ i10) ++ (" " : Str)) ++ strI i11).length ≤ 16777216) (Pr.need (((((Str.empty ++ i10) ++ (" " : Str)) ++ strI i11) ++ (" " : Str)).length ≤ 16777216) ((Pr.ok x9.p3).bind fun (i12 : Int) => Pr.need (i12.natAbs.log2 < 1920 ∧ (((((Str.empty ++ i10) ++ (" " : Str)) ++ strI i11) ++ (" " : Str)) ++ strI i12).length ≤ 16777216) (Pr.need (((((((Str.empty ++ i10) ++ (" " : Str)) ++ strI i11) ++ (" " : Str)) ++ strI i12) ++ ("\n" : Str)).length ≤ 16777216) (Pr.ok ((((((Str.empty ++ i10) ++ (" " : Str)) ++ strI i11) ++ (" " : Str)) ++ strI i12) ++ ("\n" : Str)))))))))) rfl (fun M hM => sq_cast hc8 hM.sq) (fun x9 => ⟨[some xh, some (en (α := Str) x9.p1), some (en (α := Int) x9.p2), some (en (α := Int) x9.p3)], rfl, (TV.tx yes_tv), (jx_s (PV.px (a := x9.p1) (pv (d := (en (α := Str) x9.p1)) rfl)) (fun i10 => (jx_c (s := (" " : Str)) pv_c (jx_i (PV.px (a := x9.p2) (pv (d := (en (α := Int) x9.p2)) rfl)) (fun i11 => (jx_c (s := (" " : Str)) pv_c (jx_i (PV.px (a := x9.p3) (pv (d := (en (α := Int) x9.p3)) rfl)) (fun i12 => (jx_c (s := ("\n" : Str)) pv_c jx_nil)))))))))⟩)) M14 h15)) h5 (fun r17 M18 h19 => ⟨rfl, h19⟩))))))
def t__law_long_text_right  : Pr Bool :=
  (((Pr.pull (200 : Int)).bind fun (b4 : Int) => (Pr.ok ((201 : Int) + b4))).bind fun (many_5 : Int) =>
  ((op2 (α := Str) (β := Int) (γ := Str) gMulS ("insert 3 1\n" : Str) many_5).bind fun (text_10 : Str) =>
  ((((t_parse_script text_10).bind fun (a19 : (List (T3 Str Int Int))) => ((rep ([((T3.mk ("insert" : Str) (3 : Int) (1 : Int)) : (T3 Str Int Int))] : (List (T3 Str Int Int))) many_5).bind fun (a22 : (List (T3 Str Int Int))) => (lk (α := (List (T3 Str Int Int))) (β := (List (T3 Str Int Int))) 4 a19 a22))).bind fun b => Pr.ok (!b)).bind fun c => if c then (Pr.ok false) else
  ((Pr.told (α := (List (T3 Str Int Int))) ["BadText", "BadCommand"] ((op2 (α := Str) (β := Str) (γ := Str) gAdd text_10 ("x\n" : Str)).bind fun (a35 : Str) => (tx_parse_script a35))).bind fun (a38 : (Str × Da)) => (op2 (α := (Str × Da)) (β := (Str × Da)) (γ := Bool) (gEq false) a38 ((("BadText" : Str), (da (α := Int) many_5)) : (Str × Da)))))))
theorem ft__law_long_text_right  : FB F__law_long_text_right [] (t__law_long_text_right ) := run_b (env0 := [some (.ref 0), none, none]) rfl rfl (fun G M hM => by
  unfold B__law_long_text_right t__law_long_text_right
  exact (seq_setx (env1 := fun (many_5 : Int) => [some (.ref 0), some (en (α := Int) many_5), none]) (fun _ => rfl) (bin_pe (γ := Int) pv_c (fun M1 h2 => (arg_p (pv (d := .ref 0) rfl) h2 (arg_p pv_c h2 (arg_nil (callB (ft__law_pull (200 : Int)) h2))))) (fun b4 => (gs_ok (c := ((201 : Int) + b4)) fun M _ => rfl))) hM (fun (many_5 : Int) M6 h7 =>
  (seq_setx (env1 := fun (text_10 : Str) => [some (.ref 0), some (en (α := Int) many_5), some (en (α := Str) text_10)]) (fun _ => rfl) (bin_pp (γ := Str) (P := (op2 (α := Str) (β := Int) (γ := Str) gMulS ("insert 3 1\n" : Str) many_5)) pv_c (pv (d := (en (α := Int) many_5)) rfl) (gs_op2 (α := Str) (β := Int) (γ := Str) (a := ("insert 3 1\n" : Str)) (b := many_5))) h7 (fun (text_10 : Str) M11 h12 =>
  (seq_ifx (not_tx (tru_b (fun M13 h14 => (arg_e (fun M15 h16 => (arg_p (pv (d := (en (α := Str) text_10)) rfl) h16 (arg_nil (callP (ft_parse_script text_10) h16)))) h14 (fun (a19 : (List (T3 Str Int Int))) M20 h21 => (arg_e (bin_pp (γ := (List (T3 Str Int Int))) (P := (rep ([((T3.mk ("insert" : Str) (3 : Int) (1 : Int)) : (T3 Str Int Int))] : (List (T3 Str Int Int))) many_5)) (lst_v (av_cons (x := (en (α := (T3 Str Int Int)) ((T3.mk ("insert" : Str) (3 : Int) (1 : Int)) : (T3 Str Int Int)))) (tup_v (av_cons (x := (en (α := Str) ("insert" : Str))) pv_c (av_cons (x := (en (α := Int) (3 : Int))) pv_c (av_cons (x := (en (α := Int) (1 : Int))) pv_c av_nil)))) av_nil)) (pv (d := (en (α := Int) many_5)) rfl) (gs_rep (l := ([((T3.mk ("insert" : Str) (3 : Int) (1 : Int)) : (T3 Str Int Int))] : (List (T3 Str Int Int)))) (k := many_5))) h21 (fun (a22 : (List (T3 Str Int Int))) M23 h24 => (arg_nil (callP (ft__law_like (α := (List (T3 Str Int Int))) (β := (List (T3 Str Int Int))) 4 a19 a22) h24))))))))) h12 (fun M25 h26 => (seq_ret (x := (en (α := Bool) false)) pv_c h26 ⟨rfl, h26⟩))
  (fun M27 h28 => (seq_skip (last_of (seq_retx' (bin_ep (γ := Bool) (px_told (α := (List (T3 Str Int Int))) (fun M31 h32 => (arg_e (bin_pp (γ := Str) (P := (op2 (α := Str) (β := Str) (γ := Str) gAdd text_10 ("x\n" : Str))) (pv (d := (en (α := Str) text_10)) rfl) pv_c (gs_op2 (α := Str) (β := Str) (γ := Str) (a := text_10) (b := ("x\n" : Str)))) h32 (fun (a35 : Str) M36 h37 => (arg_nil (callPx (ftx_parse_script a35) h37)))))) (tup_v (av_cons (x := (en (α := Str) ("BadText" : Str))) pv_c (av_cons (x := (en (α := Da) (da (α := Int) many_5))) (pv (d := (en (α := Int) many_5)) rfl) av_nil))) (fun a38 => (gs_op2 (α := (Str × Da)) (β := (Str × Da)) (γ := Bool) (a := a38) (b := ((("BadText" : Str), (da (α := Int) many_5)) : (Str × Da)))))) h28 (fun r40 M41 h42 => ⟨rfl, h42⟩)))))))))))
def t_law : Pr Bool :=
  (Pr.flow ((Pr.need (sm (5 : Int)) (Pr.ok (rngI 0 (Int.toNat (5 : Int))))).bind fun (l172 : List Int) => Pr.forF (ρ := Bool) l172 () (fun (x2 : Int) (s1 : Unit) =>
  ((t__law_script (8 : Int)).bind fun (l14 : List (T3 Str Int Int)) =>
  ((((Pr.pull (2 : Int)).bind fun (a20 : Int) => (Pr.ok (decide (a20 = (0 : Int))))).bind fun c => if c then ((Pr.pullB (100000000000000000 : Int)).bind fun (far_28 : Int) =>
  ((((Pr.pullB (100000000000000000 : Int)).bind fun (b36 : Int) => (Pr.ok (far_28 + b36))).bind fun (a39 : Int) => (Pr.ok ((T3.mk ("delete" : Str) far_28 a39) : (T3 Str Int Int)))).bind fun (a42 : (T3 Str Int Int)) => Pr.need (l14.length < 16777216)
  (Pr.ok (l14 ++ [a42])))) else (Pr.ok l14)).bind fun (s22 : (List (T3 Str Int Int))) =>
  (((lim s22).bind fun (l70 : List (T3 Str Int Int)) => Pr.forM l70 ("" : Str) (fun (x47 : (T3 Str Int Int)) (s46 : Str) =>
  (((((((op2 (α := Str) (β := Str) (γ := Str) gAdd s46 x47.p1).bind fun (a53 : Str) => (op2 (α := Str) (β := Str) (γ := Str) gAdd a53 (" " : Str))).bind fun (a57 : Str) => (Pr.need (x47.p2.natAbs.log2 < 1920) (Pr.ok (strI x47.p2))).bind fun (b58 : Str) => (op2 (α := Str) (β := Str) (γ := Str) gAdd a57 b58)).bind fun (a59 : Str) => (op2 (α := Str) (β := Str) (γ := Str) gAdd a59 (" " : Str))).bind fun (a63 : Str) => (Pr.need (x47.p3.natAbs.log2 < 1920) (Pr.ok (strI x47.p3))).bind fun (b64 : Str) => (op2 (α := Str) (β := Str) (γ := Str) gAdd a63 b64)).bind fun (a65 : Str) => (op2 (α := Str) (β := Str) (γ := Str) gAdd a65 ("\n" : Str))).bind fun (text_67 : Str) =>
  (Pr.ok text_67)))).bind fun (s46 : Str) =>
  (Pr.flow ((Pr.need (sm (2 : Int)) (Pr.ok (rngI 0 (Int.toNat (2 : Int))))).bind fun (l105 : List Int) => Pr.forF (ρ := Bool) l105 () (fun (x73 : Int) (s72 : Unit) =>
  (((t_script_text s22).bind fun (a78 : Str) => cast (α := Str) (β := Da) a78).bind fun (a87 : Da) => (((t_script_text ((Sq.mk true s22)).l).bind fun (a83 : Str) => cast (α := Str) (β := Da) a83).bind fun (a90 : Da) => (((t_parse_script s46).bind fun (a86 : (List (T3 Str Int Int))) => cast (α := (List (T3 Str Int Int))) (β := Da) a86).bind fun (a93 : Da) => (((lkL (α := Da) (β := Str) (γ := (T3 Str Int Int)) 4 [a87, a90, a93] ([s46, s46] : List Str) s22).bind fun b => Pr.ok (!b)).bind fun c => if c then (Pr.ok (FlT.rt false)) else
  (Pr.ok (FlT.nx ())))))))) (fun (s72 : Unit) =>
  (((((Pr.pull (2 : Int)).bind fun (b110 : Int) => (Pr.ok ((1 : Int) + b110))).bind fun (n111 : Int) => Pr.need (sm n111) (Pr.ok (rngI 0 (Int.toNat n111)))).bind fun (l120 : List Int) => Pr.forM l120 s46 (fun (x113 : Int) (s112 : Str) =>
  ((t__law_bent_text s112 ([("" : Str), (" " : Str), ("\n" : Str), ("0" : Str), ("1" : Str), ("-" : Str), ("i" : Str), ("insert 1 2\n" : Str), ("delete 2 1\n" : Str), ("+" : Str)] : (List Str))).bind fun (text_117 : Str) =>
  (Pr.ok text_117)))).bind fun (s112 : Str) =>
  ((((Pr.told (α := (List (T3 Str Int Int))) ["BadText", "BadCommand"] (tx_parse_script s112)).bind fun (a130 : (Str × Da)) => ((t__law_lines_due s112).bind fun (a133 : (Str × Da)) => (lk (α := (Str × Da)) (β := (Str × Da)) 4 a130 a133))).bind fun b => Pr.ok (!b)).bind fun c => if c then (Pr.ok (FlT.rt false)) else
  ((Pr.pull ((((List.map da s22).length : Nat) : Int) + (1 : Int))).bind fun (i151 : Int) => (t__law_odd_command).bind fun (a152 : Da) => Pr.need ((0 ≤ i151 ∧ i151 < 16777216) ∧ (List.map da s22).length < 16777216)
  (((Pr.told (α := Str) ["BadText", "BadCommand"] (tx_script_text ((List.map da s22).take (Int.toNat i151) ++ [a152] ++ (List.map da s22).drop (Int.toNat i151)))).bind fun (a165 : (Str × Da)) => (((t__law_due_command ((List.map da s22).take (Int.toNat i151) ++ [a152] ++ (List.map da s22).drop (Int.toNat i151))).bind fun (a159 : (Option Int)) => cast (α := (Option Int)) (β := Da) a159).bind fun (a162 : Da) => (Pr.ok ((("BadCommand" : Str), a162) : (Str × Da)))).bind fun (b166 : (Str × Da)) => (op2 (α := (Str × Da)) (β := (Str × Da)) (γ := Bool) (gEq true) a165 b166)).bind fun c => if c then (Pr.ok (FlT.rt false)) else
  (Pr.ok (FlT.nx ()))))))) (fun (r171 : Bool) => (FlT.rt r171)))))))) (fun (s1 : Unit) =>
  (((t__law_long_text_right).bind fun b => Pr.ok (!b)).bind fun c => if c then (Pr.ok false) else
  (((Pr.told (α := (List (T3 Str Int Int))) ["BadText", "BadCommand"] (tx_parse_script ("insert 1 2" : Str))).bind fun (a184 : (Str × Da)) => cast (α := (Str × Da)) (β := Da) a184).bind fun (a185 : Da) =>
  (((Pr.told (α := (List (T3 Str Int Int))) ["BadText", "BadCommand"] (tx_parse_script ("insert 1 2\n\n" : Str))).bind fun (a195 : (Str × Da)) => cast (α := (Str × Da)) (β := Da) a195).bind fun (a196 : Da) => Pr.need ([a185].length < 16777216)
  (((Pr.ok ([(da (α := (Str × Int)) ((("BadText" : Str), (0 : Int)) : (Str × Int))), (da (α := (Str × Int)) ((("BadText" : Str), (1 : Int)) : (Str × Int)))] : (List Da))).bind fun (y197 : (List Da)) => op2 (α := (List Da)) (β := (List Da)) (γ := Bool) (gEq false) ([a185] ++ [a196]) y197).bind fun a => if a then (((t_parse_script ("" : Str)).bind fun (a200 : (List (T3 Str Int Int))) => (op2 (α := (List (T3 Str Int Int))) (β := (List (T3 Str Int Int))) (γ := Bool) (gEq false) a200 ([] : (List (T3 Str Int Int))))).bind fun a => if a then ((t_script_text ([] : (List (T3 Str Int Int)))).bind fun (a204 : Str) => (Pr.ok (decide (a204 = ("" : Str))))) else Pr.ok false) else Pr.ok false))))) (fun (r209 : Bool) => r209))
theorem ft_law (ns : List Int) (hn : ns.length ≤ 63) : Sat (B_law [some (.scr ns), none, none, none, none, none, none, none, none, none, none, none, none] []) t_law (fun a fl M' => fl = .rt (en a) ∧ St (([] : Sto).length + 1) (BagP []) [] M') NX := by
  unfold B_law t_law
  exact seq_bag (env1 := [some (.scr ns), some (.ref 0), none, none, none, none, none, none, none, none, none, none, none]) (bag_ok ns hn) rfl rfl (fun M h0 => by
  have hM := h0.st
  exact (seq_fl (w := fun (r209 : Bool) => r209) (k := fun (s1 : Unit) => (((t__law_long_text_right).bind fun b => Pr.ok (!b)).bind fun c => if c then (Pr.ok false) else
  (((Pr.told (α := (List (T3 Str Int Int))) ["BadText", "BadCommand"] (tx_parse_script ("insert 1 2" : Str))).bind fun (a184 : (Str × Da)) => cast (α := (Str × Da)) (β := Da) a184).bind fun (a185 : Da) =>
  (((Pr.told (α := (List (T3 Str Int Int))) ["BadText", "BadCommand"] (tx_parse_script ("insert 1 2\n\n" : Str))).bind fun (a195 : (Str × Da)) => cast (α := (Str × Da)) (β := Da) a195).bind fun (a196 : Da) => Pr.need ([a185].length < 16777216)
  (((Pr.ok ([(da (α := (Str × Int)) ((("BadText" : Str), (0 : Int)) : (Str × Int))), (da (α := (Str × Int)) ((("BadText" : Str), (1 : Int)) : (Str × Int)))] : (List Da))).bind fun (y197 : (List Da)) => op2 (α := (List Da)) (β := (List Da)) (γ := Bool) (gEq false) ([a185] ++ [a196]) y197).bind fun a => if a then (((t_parse_script ("" : Str)).bind fun (a200 : (List (T3 Str Int Int))) => (op2 (α := (List (T3 Str Int Int))) (β := (List (T3 Str Int Int))) (γ := Bool) (gEq false) a200 ([] : (List (T3 Str Int Int))))).bind fun a => if a then ((t_script_text ([] : (List (T3 Str Int Int)))).bind fun (a204 : Str) => (Pr.ok (decide (a204 = ("" : Str))))) else Pr.ok false) else Pr.ok false))))) (for_fl (enc := D.int) (s := ()) (body := (fun (x2 : Int) (s1 : Unit) =>
  ((t__law_script (8 : Int)).bind fun (l14 : List (T3 Str Int Int)) =>
  ((((Pr.pull (2 : Int)).bind fun (a20 : Int) => (Pr.ok (decide (a20 = (0 : Int))))).bind fun c => if c then ((Pr.pullB (100000000000000000 : Int)).bind fun (far_28 : Int) =>
  ((((Pr.pullB (100000000000000000 : Int)).bind fun (b36 : Int) => (Pr.ok (far_28 + b36))).bind fun (a39 : Int) => (Pr.ok ((T3.mk ("delete" : Str) far_28 a39) : (T3 Str Int Int)))).bind fun (a42 : (T3 Str Int Int)) => Pr.need (l14.length < 16777216)
  (Pr.ok (l14 ++ [a42])))) else (Pr.ok l14)).bind fun (s22 : (List (T3 Str Int Int))) =>
  (((lim s22).bind fun (l70 : List (T3 Str Int Int)) => Pr.forM l70 ("" : Str) (fun (x47 : (T3 Str Int Int)) (s46 : Str) =>
  (((((((op2 (α := Str) (β := Str) (γ := Str) gAdd s46 x47.p1).bind fun (a53 : Str) => (op2 (α := Str) (β := Str) (γ := Str) gAdd a53 (" " : Str))).bind fun (a57 : Str) => (Pr.need (x47.p2.natAbs.log2 < 1920) (Pr.ok (strI x47.p2))).bind fun (b58 : Str) => (op2 (α := Str) (β := Str) (γ := Str) gAdd a57 b58)).bind fun (a59 : Str) => (op2 (α := Str) (β := Str) (γ := Str) gAdd a59 (" " : Str))).bind fun (a63 : Str) => (Pr.need (x47.p3.natAbs.log2 < 1920) (Pr.ok (strI x47.p3))).bind fun (b64 : Str) => (op2 (α := Str) (β := Str) (γ := Str) gAdd a63 b64)).bind fun (a65 : Str) => (op2 (α := Str) (β := Str) (γ := Str) gAdd a65 ("\n" : Str))).bind fun (text_67 : Str) =>
  (Pr.ok text_67)))).bind fun (s46 : Str) =>
  (Pr.flow ((Pr.need (sm (2 : Int)) (Pr.ok (rngI 0 (Int.toNat (2 : Int))))).bind fun (l105 : List Int) => Pr.forF (ρ := Bool) l105 () (fun (x73 : Int) (s72 : Unit) =>
  (((t_script_text s22).bind fun (a78 : Str) => cast (α := Str) (β := Da) a78).bind fun (a87 : Da) => (((t_script_text ((Sq.mk true s22)).l).bind fun (a83 : Str) => cast (α := Str) (β := Da) a83).bind fun (a90 : Da) => (((t_parse_script s46).bind fun (a86 : (List (T3 Str Int Int))) => cast (α := (List (T3 Str Int Int))) (β := Da) a86).bind fun (a93 : Da) => (((lkL (α := Da) (β := Str) (γ := (T3 Str Int Int)) 4 [a87, a90, a93] ([s46, s46] : List Str) s22).bind fun b => Pr.ok (!b)).bind fun c => if c then (Pr.ok (FlT.rt false)) else
  (Pr.ok (FlT.nx ())))))))) (fun (s72 : Unit) =>
  (((((Pr.pull (2 : Int)).bind fun (b110 : Int) => (Pr.ok ((1 : Int) + b110))).bind fun (n111 : Int) => Pr.need (sm n111) (Pr.ok (rngI 0 (Int.toNat n111)))).bind fun (l120 : List Int) => Pr.forM l120 s46 (fun (x113 : Int) (s112 : Str) =>
  ((t__law_bent_text s112 ([("" : Str), (" " : Str), ("\n" : Str), ("0" : Str), ("1" : Str), ("-" : Str), ("i" : Str), ("insert 1 2\n" : Str), ("delete 2 1\n" : Str), ("+" : Str)] : (List Str))).bind fun (text_117 : Str) =>
  (Pr.ok text_117)))).bind fun (s112 : Str) =>
  ((((Pr.told (α := (List (T3 Str Int Int))) ["BadText", "BadCommand"] (tx_parse_script s112)).bind fun (a130 : (Str × Da)) => ((t__law_lines_due s112).bind fun (a133 : (Str × Da)) => (lk (α := (Str × Da)) (β := (Str × Da)) 4 a130 a133))).bind fun b => Pr.ok (!b)).bind fun c => if c then (Pr.ok (FlT.rt false)) else
  ((Pr.pull ((((List.map da s22).length : Nat) : Int) + (1 : Int))).bind fun (i151 : Int) => (t__law_odd_command).bind fun (a152 : Da) => Pr.need ((0 ≤ i151 ∧ i151 < 16777216) ∧ (List.map da s22).length < 16777216)
  (((Pr.told (α := Str) ["BadText", "BadCommand"] (tx_script_text ((List.map da s22).take (Int.toNat i151) ++ [a152] ++ (List.map da s22).drop (Int.toNat i151)))).bind fun (a165 : (Str × Da)) => (((t__law_due_command ((List.map da s22).take (Int.toNat i151) ++ [a152] ++ (List.map da s22).drop (Int.toNat i151))).bind fun (a159 : (Option Int)) => cast (α := (Option Int)) (β := Da) a159).bind fun (a162 : Da) => (Pr.ok ((("BadCommand" : Str), a162) : (Str × Da)))).bind fun (b166 : (Str × Da)) => (op2 (α := (Str × Da)) (β := (Str × Da)) (γ := Bool) (gEq true) a165 b166)).bind fun c => if c then (Pr.ok (FlT.rt false)) else
  (Pr.ok (FlT.nx ()))))))) (fun (r171 : Bool) => (FlT.rt r171)))))))) (I := (fun (s1 : Unit) (env : En) (M : Sto) => ∃ o3 : Option D, ∃ o4 : Option D, ∃ o5 : Option D, ∃ o6 : Option D, ∃ o7 : Option D, ∃ o8 : Option D, ∃ o9 : Option D, ∃ o10 : Option D, ∃ o11 : Option D, ∃ o12 : Option D, ∃ o13 : Option D, env = [some (.scr ns), some (.ref 0), o11, o13, o5, o10, o3, o9, o4, o6, o12, o7, o8] ∧ (St (([] : Sto).length + 1) (BagP []) []) M)) (R := fun (r : Bool) d M => d = en r ∧ St (([] : Sto).length + 1) (BagP []) [] M) (rng1_v (n := (5 : Int)) pv_c) hM (fun M h => ⟨_, _, _, _, _, _, _, _, _, _, _, rfl, h⟩)
  (fun x2 s1 env M ⟨o3, o4, o5, o6, o7, o8, o9, o10, o11, o12, o13, he, hM⟩ => by subst he; exact ⟨[some (.scr ns), some (.ref 0), some (en (α := Int) x2), o13, o5, o10, o3, o9, o4, o6, o12, o7, o8], rfl, (seq_setC (β := (T3 Str Int Int)) (k := fun (l14 : List (T3 Str Int Int)) => ((((Pr.pull (2 : Int)).bind fun (a20 : Int) => (Pr.ok (decide (a20 = (0 : Int))))).bind fun c => if c then ((Pr.pullB (100000000000000000 : Int)).bind fun (far_28 : Int) =>
  ((((Pr.pullB (100000000000000000 : Int)).bind fun (b36 : Int) => (Pr.ok (far_28 + b36))).bind fun (a39 : Int) => (Pr.ok ((T3.mk ("delete" : Str) far_28 a39) : (T3 Str Int Int)))).bind fun (a42 : (T3 Str Int Int)) => Pr.need (l14.length < 16777216)
  (Pr.ok (l14 ++ [a42])))) else (Pr.ok l14)).bind fun (s22 : (List (T3 Str Int Int))) =>
  (((lim s22).bind fun (l70 : List (T3 Str Int Int)) => Pr.forM l70 ("" : Str) (fun (x47 : (T3 Str Int Int)) (s46 : Str) =>
  (((((((op2 (α := Str) (β := Str) (γ := Str) gAdd s46 x47.p1).bind fun (a53 : Str) => (op2 (α := Str) (β := Str) (γ := Str) gAdd a53 (" " : Str))).bind fun (a57 : Str) => (Pr.need (x47.p2.natAbs.log2 < 1920) (Pr.ok (strI x47.p2))).bind fun (b58 : Str) => (op2 (α := Str) (β := Str) (γ := Str) gAdd a57 b58)).bind fun (a59 : Str) => (op2 (α := Str) (β := Str) (γ := Str) gAdd a59 (" " : Str))).bind fun (a63 : Str) => (Pr.need (x47.p3.natAbs.log2 < 1920) (Pr.ok (strI x47.p3))).bind fun (b64 : Str) => (op2 (α := Str) (β := Str) (γ := Str) gAdd a63 b64)).bind fun (a65 : Str) => (op2 (α := Str) (β := Str) (γ := Str) gAdd a65 ("\n" : Str))).bind fun (text_67 : Str) =>
  (Pr.ok text_67)))).bind fun (s46 : Str) =>
  (Pr.flow ((Pr.need (sm (2 : Int)) (Pr.ok (rngI 0 (Int.toNat (2 : Int))))).bind fun (l105 : List Int) => Pr.forF (ρ := Bool) l105 () (fun (x73 : Int) (s72 : Unit) =>
  (((t_script_text s22).bind fun (a78 : Str) => cast (α := Str) (β := Da) a78).bind fun (a87 : Da) => (((t_script_text ((Sq.mk true s22)).l).bind fun (a83 : Str) => cast (α := Str) (β := Da) a83).bind fun (a90 : Da) => (((t_parse_script s46).bind fun (a86 : (List (T3 Str Int Int))) => cast (α := (List (T3 Str Int Int))) (β := Da) a86).bind fun (a93 : Da) => (((lkL (α := Da) (β := Str) (γ := (T3 Str Int Int)) 4 [a87, a90, a93] ([s46, s46] : List Str) s22).bind fun b => Pr.ok (!b)).bind fun c => if c then (Pr.ok (FlT.rt false)) else
  (Pr.ok (FlT.nx ())))))))) (fun (s72 : Unit) =>
  (((((Pr.pull (2 : Int)).bind fun (b110 : Int) => (Pr.ok ((1 : Int) + b110))).bind fun (n111 : Int) => Pr.need (sm n111) (Pr.ok (rngI 0 (Int.toNat n111)))).bind fun (l120 : List Int) => Pr.forM l120 s46 (fun (x113 : Int) (s112 : Str) =>
  ((t__law_bent_text s112 ([("" : Str), (" " : Str), ("\n" : Str), ("0" : Str), ("1" : Str), ("-" : Str), ("i" : Str), ("insert 1 2\n" : Str), ("delete 2 1\n" : Str), ("+" : Str)] : (List Str))).bind fun (text_117 : Str) =>
  (Pr.ok text_117)))).bind fun (s112 : Str) =>
  ((((Pr.told (α := (List (T3 Str Int Int))) ["BadText", "BadCommand"] (tx_parse_script s112)).bind fun (a130 : (Str × Da)) => ((t__law_lines_due s112).bind fun (a133 : (Str × Da)) => (lk (α := (Str × Da)) (β := (Str × Da)) 4 a130 a133))).bind fun b => Pr.ok (!b)).bind fun c => if c then (Pr.ok (FlT.rt false)) else
  ((Pr.pull ((((List.map da s22).length : Nat) : Int) + (1 : Int))).bind fun (i151 : Int) => (t__law_odd_command).bind fun (a152 : Da) => Pr.need ((0 ≤ i151 ∧ i151 < 16777216) ∧ (List.map da s22).length < 16777216)
  (((Pr.told (α := Str) ["BadText", "BadCommand"] (tx_script_text ((List.map da s22).take (Int.toNat i151) ++ [a152] ++ (List.map da s22).drop (Int.toNat i151)))).bind fun (a165 : (Str × Da)) => (((t__law_due_command ((List.map da s22).take (Int.toNat i151) ++ [a152] ++ (List.map da s22).drop (Int.toNat i151))).bind fun (a159 : (Option Int)) => cast (α := (Option Int)) (β := Da) a159).bind fun (a162 : Da) => (Pr.ok ((("BadCommand" : Str), a162) : (Str × Da)))).bind fun (b166 : (Str × Da)) => (op2 (α := (Str × Da)) (β := (Str × Da)) (γ := Bool) (gEq true) a165 b166)).bind fun c => if c then (Pr.ok (FlT.rt false)) else
  (Pr.ok (FlT.nx ()))))))) (fun (r171 : Bool) => (FlT.rt r171)))))) (env1 := fun n15 => [some (.scr ns), some (.ref 0), some (en (α := Int) x2), o13, some (.ref n15), o10, o3, o9, o4, o6, o12, o7, o8]) (fun _ => rfl) (fun c k hk => callBC_v (av_cons (pv (d := .ref 0) rfl) (av_cons pv_c av_nil)) (ft__law_script (8 : Int)) hM hk) (fun l14 n15 M16 h17 =>
  (seq_nx (σ := (List (T3 Str Int Int))) (I := (fun (s22 : (List (T3 Str Int Int))) (env : En) (M : Sto) => ∃ o23 : Option D, env = [some (.scr ns), some (.ref 0), some (en (α := Int) x2), o13, some (.ref n15), o10, o3, o9, o4, o23, o12, o7, o8] ∧ (St (([] : Sto).length + 1) (BagP []) [(n15, Cell.lst (List.map (en (α := (T3 Str Int Int))) s22))]) M)) (if_nxx (b_x (bin_ep (γ := Bool) (fun M18 h19 => (arg_p (pv (d := .ref 0) rfl) h19 (arg_p pv_c h19 (arg_nil (callB (ft__law_pull (2 : Int)) h19))))) pv_c (fun a20 => (gs_ok (c := (decide (a20 = (0 : Int)))) fun M _ => geqI _ _ M)))) h17 (fun M24 h25 => (seq_setx (env1 := fun (far_28 : Int) => [some (.scr ns), some (.ref 0), some (en (α := Int) x2), o13, some (.ref n15), o10, o3, o9, o4, some (en (α := Int) far_28), o12, o7, o8]) (fun _ => rfl) (fun M26 h27 => (arg_p (pv (d := .ref 0) rfl) h27 (arg_p (bin_v (z := .int 100000000000000000) pv_c pv_c (fun M _ => by simp [gPow, gIntC])) h27 (arg_nil (callB (ft__law_pullB (100000000000000000 : Int)) h27))))) h25 (fun (far_28 : Int) M29 h30 =>
  (last_of (seq_appx (l := l14) 0 rfl rfl (fun M37 h38 => (arg_p pv_c h38 (arg_p (pv (d := (en (α := Int) far_28)) rfl) h38 (arg_e (bin_pe (γ := Int) (pv (d := (en (α := Int) far_28)) rfl) (fun M33 h34 => (arg_p (pv (d := .ref 0) rfl) h34 (arg_p (bin_v (z := .int 100000000000000000) pv_c pv_c (fun M _ => by simp [gPow, gIntC])) h34 (arg_nil (callB (ft__law_pullB (100000000000000000 : Int)) h34))))) (fun b36 => (gs_ok (c := (far_28 + b36)) fun M _ => rfl))) h38 (fun (a39 : Int) M40 h41 => (arg_nil (seq_end (mk := D.tup) (a := ((T3.mk ("delete" : Str) far_28 a39) : (T3 Str Int Int))) rfl h41))))))) h30 (fun a42 M31 h32 =>
  (skip_end ⟨_, rfl, _, rfl, h32⟩))))))) (fun M43 h44 => (skip_end ⟨_, rfl, _, rfl, h44⟩)))
  (fun s22 env M ⟨o23, he, h45⟩ => by subst he; exact (seq_set (x := (en (α := Str) ("" : Str))) (env1 := [some (.scr ns), some (.ref 0), some (en (α := Int) x2), o13, some (.ref n15), some (en (α := Str) ("" : Str)), o3, o9, o4, o23, o12, o7, o8]) rfl pv_c h45 (seq_nx (k := fun (s46 : Str) => (Pr.flow ((Pr.need (sm (2 : Int)) (Pr.ok (rngI 0 (Int.toNat (2 : Int))))).bind fun (l105 : List Int) => Pr.forF (ρ := Bool) l105 () (fun (x73 : Int) (s72 : Unit) =>
  (((t_script_text s22).bind fun (a78 : Str) => cast (α := Str) (β := Da) a78).bind fun (a87 : Da) => (((t_script_text ((Sq.mk true s22)).l).bind fun (a83 : Str) => cast (α := Str) (β := Da) a83).bind fun (a90 : Da) => (((t_parse_script s46).bind fun (a86 : (List (T3 Str Int Int))) => cast (α := (List (T3 Str Int Int))) (β := Da) a86).bind fun (a93 : Da) => (((lkL (α := Da) (β := Str) (γ := (T3 Str Int Int)) 4 [a87, a90, a93] ([s46, s46] : List Str) s22).bind fun b => Pr.ok (!b)).bind fun c => if c then (Pr.ok (FlT.rt false)) else
  (Pr.ok (FlT.nx ())))))))) (fun (s72 : Unit) =>
  (((((Pr.pull (2 : Int)).bind fun (b110 : Int) => (Pr.ok ((1 : Int) + b110))).bind fun (n111 : Int) => Pr.need (sm n111) (Pr.ok (rngI 0 (Int.toNat n111)))).bind fun (l120 : List Int) => Pr.forM l120 s46 (fun (x113 : Int) (s112 : Str) =>
  ((t__law_bent_text s112 ([("" : Str), (" " : Str), ("\n" : Str), ("0" : Str), ("1" : Str), ("-" : Str), ("i" : Str), ("insert 1 2\n" : Str), ("delete 2 1\n" : Str), ("+" : Str)] : (List Str))).bind fun (text_117 : Str) =>
  (Pr.ok text_117)))).bind fun (s112 : Str) =>
  ((((Pr.told (α := (List (T3 Str Int Int))) ["BadText", "BadCommand"] (tx_parse_script s112)).bind fun (a130 : (Str × Da)) => ((t__law_lines_due s112).bind fun (a133 : (Str × Da)) => (lk (α := (Str × Da)) (β := (Str × Da)) 4 a130 a133))).bind fun b => Pr.ok (!b)).bind fun c => if c then (Pr.ok (FlT.rt false)) else
  ((Pr.pull ((((List.map da s22).length : Nat) : Int) + (1 : Int))).bind fun (i151 : Int) => (t__law_odd_command).bind fun (a152 : Da) => Pr.need ((0 ≤ i151 ∧ i151 < 16777216) ∧ (List.map da s22).length < 16777216)
  (((Pr.told (α := Str) ["BadText", "BadCommand"] (tx_script_text ((List.map da s22).take (Int.toNat i151) ++ [a152] ++ (List.map da s22).drop (Int.toNat i151)))).bind fun (a165 : (Str × Da)) => (((t__law_due_command ((List.map da s22).take (Int.toNat i151) ++ [a152] ++ (List.map da s22).drop (Int.toNat i151))).bind fun (a159 : (Option Int)) => cast (α := (Option Int)) (β := Da) a159).bind fun (a162 : Da) => (Pr.ok ((("BadCommand" : Str), a162) : (Str × Da)))).bind fun (b166 : (Str × Da)) => (op2 (α := (Str × Da)) (β := (Str × Da)) (γ := Bool) (gEq true) a165 b166)).bind fun c => if c then (Pr.ok (FlT.rt false)) else
  (Pr.ok (FlT.nx ()))))))) (fun (r171 : Bool) => (FlT.rt r171)))) (forC_nx (n := n15) (l := s22) (enc := (en (α := (T3 Str Int Int)))) (s := ("" : Str)) (body := (fun (x47 : (T3 Str Int Int)) (s46 : Str) =>
  (((((((op2 (α := Str) (β := Str) (γ := Str) gAdd s46 x47.p1).bind fun (a53 : Str) => (op2 (α := Str) (β := Str) (γ := Str) gAdd a53 (" " : Str))).bind fun (a57 : Str) => (Pr.need (x47.p2.natAbs.log2 < 1920) (Pr.ok (strI x47.p2))).bind fun (b58 : Str) => (op2 (α := Str) (β := Str) (γ := Str) gAdd a57 b58)).bind fun (a59 : Str) => (op2 (α := Str) (β := Str) (γ := Str) gAdd a59 (" " : Str))).bind fun (a63 : Str) => (Pr.need (x47.p3.natAbs.log2 < 1920) (Pr.ok (strI x47.p3))).bind fun (b64 : Str) => (op2 (α := Str) (β := Str) (γ := Str) gAdd a63 b64)).bind fun (a65 : Str) => (op2 (α := Str) (β := Str) (γ := Str) gAdd a65 ("\n" : Str))).bind fun (text_67 : Str) =>
  (Pr.ok text_67)))) (I := (fun (s46 : Str) (env : En) (M : Sto) => ∃ o48 : Option D, ∃ o49 : Option D, ∃ o50 : Option D, env = [some (.scr ns), some (.ref 0), some (en (α := Int) x2), o13, some (.ref n15), some (en (α := Str) s46), o3, o9, o4, o23, o50, o48, o49] ∧ (St (([] : Sto).length + 1) (BagP []) [(n15, Cell.lst (List.map (en (α := (T3 Str Int Int))) s22))]) M)) rfl (fun s46 env M ⟨o48, o49, o50, he, hM⟩ => hM.get 0 rfl) ⟨_, _, _, rfl, h45⟩
  (fun x47 s46 env M ⟨o48, o49, o50, he, hM⟩ => by subst he; exact ⟨[some (.scr ns), some (.ref 0), some (en (α := Int) x2), o13, some (.ref n15), some (en (α := Str) s46), o3, o9, o4, o23, some (en (α := Str) x47.p1), some (en (α := Int) x47.p2), some (en (α := Int) x47.p3)], rfl, (last_of (seq_setx (env1 := fun (text_67 : Str) => [some (.scr ns), some (.ref 0), some (en (α := Int) x2), o13, some (.ref n15), some (en (α := Str) text_67), o3, o9, o4, o23, some (en (α := Str) x47.p1), some (en (α := Int) x47.p2), some (en (α := Int) x47.p3)]) (fun _ => rfl) (bin_ep (γ := Str) (bin_ee (γ := Str) (bin_ep (γ := Str) (bin_ee (γ := Str) (bin_ep (γ := Str) (bin_pp (γ := Str) (P := (op2 (α := Str) (β := Str) (γ := Str) gAdd s46 x47.p1)) (pv (d := (en (α := Str) s46)) rfl) (pv (d := (en (α := Str) x47.p1)) rfl) (gs_op2 (α := Str) (β := Str) (γ := Str) (a := s46) (b := x47.p1))) pv_c (fun a53 => (gs_op2 (α := Str) (β := Str) (γ := Str) (a := a53) (b := (" " : Str))))) (fun M55 h56 => (arg_p (pv (d := (en (α := Int) x47.p2)) rfl) h56 (arg_nil (.need fun hl => callB_end (c := strI x47.p2) h56 (fun M _ => gStrI_v hl M))))) (fun a57 b58 => (gs_op2 (α := Str) (β := Str) (γ := Str) (a := a57) (b := b58)))) pv_c (fun a59 => (gs_op2 (α := Str) (β := Str) (γ := Str) (a := a59) (b := (" " : Str))))) (fun M61 h62 => (arg_p (pv (d := (en (α := Int) x47.p3)) rfl) h62 (arg_nil (.need fun hl => callB_end (c := strI x47.p3) h62 (fun M _ => gStrI_v hl M))))) (fun a63 b64 => (gs_op2 (α := Str) (β := Str) (γ := Str) (a := a63) (b := b64)))) pv_c (fun a65 => (gs_op2 (α := Str) (β := Str) (γ := Str) (a := a65) (b := ("\n" : Str))))) hM (fun (text_67 : Str) M68 h69 =>
  (skip_end ⟨_, Or.inl rfl, _, _, _, rfl, h69⟩))))⟩))
  (fun s46 env M ⟨o48, o49, o50, he, h71⟩ => by subst he; exact (seq_fl (w := fun (r171 : Bool) => (FlT.rt r171)) (k := fun (s72 : Unit) => (((((Pr.pull (2 : Int)).bind fun (b110 : Int) => (Pr.ok ((1 : Int) + b110))).bind fun (n111 : Int) => Pr.need (sm n111) (Pr.ok (rngI 0 (Int.toNat n111)))).bind fun (l120 : List Int) => Pr.forM l120 s46 (fun (x113 : Int) (s112 : Str) =>
  ((t__law_bent_text s112 ([("" : Str), (" " : Str), ("\n" : Str), ("0" : Str), ("1" : Str), ("-" : Str), ("i" : Str), ("insert 1 2\n" : Str), ("delete 2 1\n" : Str), ("+" : Str)] : (List Str))).bind fun (text_117 : Str) =>
  (Pr.ok text_117)))).bind fun (s112 : Str) =>
  ((((Pr.told (α := (List (T3 Str Int Int))) ["BadText", "BadCommand"] (tx_parse_script s112)).bind fun (a130 : (Str × Da)) => ((t__law_lines_due s112).bind fun (a133 : (Str × Da)) => (lk (α := (Str × Da)) (β := (Str × Da)) 4 a130 a133))).bind fun b => Pr.ok (!b)).bind fun c => if c then (Pr.ok (FlT.rt false)) else
  ((Pr.pull ((((List.map da s22).length : Nat) : Int) + (1 : Int))).bind fun (i151 : Int) => (t__law_odd_command).bind fun (a152 : Da) => Pr.need ((0 ≤ i151 ∧ i151 < 16777216) ∧ (List.map da s22).length < 16777216)
  (((Pr.told (α := Str) ["BadText", "BadCommand"] (tx_script_text ((List.map da s22).take (Int.toNat i151) ++ [a152] ++ (List.map da s22).drop (Int.toNat i151)))).bind fun (a165 : (Str × Da)) => (((t__law_due_command ((List.map da s22).take (Int.toNat i151) ++ [a152] ++ (List.map da s22).drop (Int.toNat i151))).bind fun (a159 : (Option Int)) => cast (α := (Option Int)) (β := Da) a159).bind fun (a162 : Da) => (Pr.ok ((("BadCommand" : Str), a162) : (Str × Da)))).bind fun (b166 : (Str × Da)) => (op2 (α := (Str × Da)) (β := (Str × Da)) (γ := Bool) (gEq true) a165 b166)).bind fun c => if c then (Pr.ok (FlT.rt false)) else
  (Pr.ok (FlT.nx ()))))))) (for_fl (enc := D.int) (s := ()) (body := (fun (x73 : Int) (s72 : Unit) =>
  (((t_script_text s22).bind fun (a78 : Str) => cast (α := Str) (β := Da) a78).bind fun (a87 : Da) => (((t_script_text ((Sq.mk true s22)).l).bind fun (a83 : Str) => cast (α := Str) (β := Da) a83).bind fun (a90 : Da) => (((t_parse_script s46).bind fun (a86 : (List (T3 Str Int Int))) => cast (α := (List (T3 Str Int Int))) (β := Da) a86).bind fun (a93 : Da) => (((lkL (α := Da) (β := Str) (γ := (T3 Str Int Int)) 4 [a87, a90, a93] ([s46, s46] : List Str) s22).bind fun b => Pr.ok (!b)).bind fun c => if c then (Pr.ok (FlT.rt false)) else
  (Pr.ok (FlT.nx ())))))))) (I := (fun (s72 : Unit) (env : En) (M : Sto) => ∃ o74 : Option D, ∃ o75 : Option D, env = [some (.scr ns), some (.ref 0), some (en (α := Int) x2), o75, some (.ref n15), some (en (α := Str) s46), o74, o9, o4, o23, o50, o48, o49] ∧ (St (([] : Sto).length + 1) (BagP []) [(n15, Cell.lst (List.map (en (α := (T3 Str Int Int))) s22))]) M)) (R := fun (r : Bool) d M => d = en r ∧ St (([] : Sto).length + 1) (BagP []) [] M) (rng1_v (n := (2 : Int)) pv_c) h71 (fun M h => ⟨_, _, rfl, h⟩)
  (fun x73 s72 env M ⟨o74, o75, he, hM⟩ => by subst he; exact ⟨[some (.scr ns), some (.ref 0), some (en (α := Int) x2), o75, some (.ref n15), some (en (α := Str) s46), some (en (α := Int) x73), o9, o4, o23, o50, o48, o49], rfl, (seq_newA (arg_e (PX.cast (α := Str) (β := Da) (fun M76 h77 => (arg_p (pv (d := .ref n15) rfl) h77 (arg_nil (callHc (ft_script_text s22) h77 (seq_c 0 rfl h77)))))) hM (fun (a87 : Da) M88 h89 => (arg_e (S := (St (([] : Sto).length + 1) (BagP []) [(n15, Cell.lst (List.map (en (α := (T3 Str Int Int))) s22))])) (PX.cast (α := Str) (β := Da) (fun M79 h80 => (arg_p (tup_L (l := s22) (lv_c 0 rfl rfl)) h80 (arg_nil (callP (ft_script_text ((Sq.mk true s22)).l).fq h80))))) h89 (fun (a90 : Da) M91 h92 => (arg_e (PX.cast (α := (List (T3 Str Int Int))) (β := Da) (fun M84 h85 => (arg_p (pv (d := (en (α := Str) s46)) rfl) h85 (arg_nil (callP (ft_parse_script s46) h85))))) h92 (fun (a93 : Da) M94 h95 => (arg_nil (newA_end (β := Da) (l := [a87, a90, a93]) (env1 := fun n96 => [some (.scr ns), some (.ref 0), some (en (α := Int) x2), some (.ref n96), some (.ref n15), some (en (α := Str) s46), some (en (α := Int) x73), o9, o4, o23, o50, o48, o49]) (fun _ => rfl) rfl h95 (by exact Nat.le_of_ble_eq_true rfl) (fun n96 M97 h98 => (last_of (seq_ifx (not_tx (tru_b (fun M99 h100 => arg_p (pv (d := .ref n96) rfl) h100 (arg_p (lst_v (av_cons (x := (en (α := Str) s46)) (pv (d := (en (α := Str) s46)) rfl) (av_cons (x := (en (α := Str) s46)) (pv (d := (en (α := Str) s46)) rfl) (av_cons (pv (d := .ref n15) rfl) av_nil)))) h100 (arg_nil (likeL (α := Da) (β := Str) (γ := (T3 Str Int Int)) 4 1 0 [a87, a90, a93] ([s46, s46] : List Str) s22 rfl rfl h100)))))) h98 (fun M101 h102 => (seq_ret (x := (en (α := Bool) false)) pv_c h102 ⟨_, rfl, ⟨rfl, (h102).nil_of⟩⟩))
  (fun M103 h104 => (seq_skip (skip_end ⟨_, Or.inl rfl, _, _, rfl, (St.pre (cs := [(n15, Cell.lst (List.map (en (α := (T3 Str Int Int))) s22))]) h104)⟩)))))))))))))))⟩))
  (fun s72 env M ⟨o74, o75, he, h106⟩ => by subst he; exact (seq_nx (k := fun (s112 : Str) => ((((Pr.told (α := (List (T3 Str Int Int))) ["BadText", "BadCommand"] (tx_parse_script s112)).bind fun (a130 : (Str × Da)) => ((t__law_lines_due s112).bind fun (a133 : (Str × Da)) => (lk (α := (Str × Da)) (β := (Str × Da)) 4 a130 a133))).bind fun b => Pr.ok (!b)).bind fun c => if c then (Pr.ok (FlT.rt false)) else
  ((Pr.pull ((((List.map da s22).length : Nat) : Int) + (1 : Int))).bind fun (i151 : Int) => (t__law_odd_command).bind fun (a152 : Da) => Pr.need ((0 ≤ i151 ∧ i151 < 16777216) ∧ (List.map da s22).length < 16777216)
  (((Pr.told (α := Str) ["BadText", "BadCommand"] (tx_script_text ((List.map da s22).take (Int.toNat i151) ++ [a152] ++ (List.map da s22).drop (Int.toNat i151)))).bind fun (a165 : (Str × Da)) => (((t__law_due_command ((List.map da s22).take (Int.toNat i151) ++ [a152] ++ (List.map da s22).drop (Int.toNat i151))).bind fun (a159 : (Option Int)) => cast (α := (Option Int)) (β := Da) a159).bind fun (a162 : Da) => (Pr.ok ((("BadCommand" : Str), a162) : (Str × Da)))).bind fun (b166 : (Str × Da)) => (op2 (α := (Str × Da)) (β := (Str × Da)) (γ := Bool) (gEq true) a165 b166)).bind fun c => if c then (Pr.ok (FlT.rt false)) else
  (Pr.ok (FlT.nx ())))))) (for_nx (enc := D.int) (s := s46) (body := (fun (x113 : Int) (s112 : Str) =>
  ((t__law_bent_text s112 ([("" : Str), (" " : Str), ("\n" : Str), ("0" : Str), ("1" : Str), ("-" : Str), ("i" : Str), ("insert 1 2\n" : Str), ("delete 2 1\n" : Str), ("+" : Str)] : (List Str))).bind fun (text_117 : Str) =>
  (Pr.ok text_117)))) (I := (fun (s112 : Str) (env : En) (M : Sto) => ∃ o114 : Option D, env = [some (.scr ns), some (.ref 0), some (en (α := Int) x2), o75, some (.ref n15), some (en (α := Str) s112), o74, o114, o4, o23, o50, o48, o49] ∧ (St (([] : Sto).length + 1) (BagP []) [(n15, Cell.lst (List.map (en (α := (T3 Str Int Int))) s22))]) M)) (rng1_x (bin_pe (γ := Int) pv_c (fun M107 h108 => (arg_p (pv (d := .ref 0) rfl) h108 (arg_p pv_c h108 (arg_nil (callB (ft__law_pull (2 : Int)) h108))))) (fun b110 => (gs_ok (c := ((1 : Int) + b110)) fun M _ => rfl)))) h106 (fun M h => ⟨_, rfl, h⟩)
  (fun x113 s112 env M ⟨o114, he, hM⟩ => by subst he; exact ⟨[some (.scr ns), some (.ref 0), some (en (α := Int) x2), o75, some (.ref n15), some (en (α := Str) s112), o74, some (en (α := Int) x113), o4, o23, o50, o48, o49], rfl, (last_of (seq_setx (env1 := fun (text_117 : Str) => [some (.scr ns), some (.ref 0), some (en (α := Int) x2), o75, some (.ref n15), some (en (α := Str) text_117), o74, some (en (α := Int) x113), o4, o23, o50, o48, o49]) (fun _ => rfl) (fun M115 h116 => (arg_p (pv (d := .ref 0) rfl) h116 (arg_p (pv (d := (en (α := Str) s112)) rfl) h116 (arg_p (lst_v (av_cons (x := (en (α := Str) ("" : Str))) pv_c (av_cons (x := (en (α := Str) (" " : Str))) pv_c (av_cons (x := (en (α := Str) ("\n" : Str))) pv_c (av_cons (x := (en (α := Str) ("0" : Str))) pv_c (av_cons (x := (en (α := Str) ("1" : Str))) pv_c (av_cons (x := (en (α := Str) ("-" : Str))) pv_c (av_cons (x := (en (α := Str) ("i" : Str))) pv_c (av_cons (x := (en (α := Str) ("insert 1 2\n" : Str))) pv_c (av_cons (x := (en (α := Str) ("delete 2 1\n" : Str))) pv_c (av_cons (x := (en (α := Str) ("+" : Str))) pv_c av_nil))))))))))) h116 (arg_nil (callB (ft__law_bent_text s112 ([("" : Str), (" " : Str), ("\n" : Str), ("0" : Str), ("1" : Str), ("-" : Str), ("i" : Str), ("insert 1 2\n" : Str), ("delete 2 1\n" : Str), ("+" : Str)] : (List Str))) h116)))))) hM (fun (text_117 : Str) M118 h119 =>
  (skip_end ⟨_, Or.inl rfl, _, rfl, h119⟩))))⟩))
  (fun s112 env M ⟨o114, he, h121⟩ => by subst he; exact (seq_ifx (not_tx (tru_b (fun M122 h123 => (arg_e (px_told (α := (List (T3 Str Int Int))) (fun M126 h127 => (arg_p (pv (d := (en (α := Str) s112)) rfl) h127 (arg_nil (callPx (ftx_parse_script s112) h127))))) h123 (fun (a130 : (Str × Da)) M131 h132 => (arg_e (fun M128 h129 => (arg_p (pv (d := (en (α := Str) s112)) rfl) h129 (arg_nil (callP (ft__law_lines_due s112) h129)))) h132 (fun (a133 : (Str × Da)) M134 h135 => (arg_nil (callP (ft__law_like (α := (Str × Da)) (β := (Str × Da)) 4 a130 a133) h135))))))))) h121 (fun M136 h137 => (seq_ret (x := (en (α := Bool) false)) pv_c h137 ⟨_, rfl, ⟨rfl, (h137).nil_of⟩⟩))
  (fun M138 h139 => (seq_skip (seq_copyC (l := s22) (c := (List.map da s22)) (env1 := fun n140 => [some (.scr ns), some (.ref 0), some (en (α := Int) x2), o75, some (.ref n15), some (en (α := Str) s112), o74, o114, some (.ref n140), o23, o50, o48, o49]) 0 (map_enda _) rfl rfl (fun _ => rfl) h139 (fun n140 M141 h142 => (seq_insx (l := (List.map da s22)) 1 rfl rfl (fun M145 h146 => (arg_p (pv (d := .ref 0) rfl) h146 (arg_p (bin_v (z := (en (α := Int) ((((List.map da s22).length : Nat) : Int) + (1 : Int)))) (len_L (l := (List.map da s22)) (lv_c 1 rfl rfl)) pv_c (fun M _ => rfl)) h146 (arg_nil (callB (ft__law_pull ((((List.map da s22).length : Nat) : Int) + (1 : Int))) h146))))) (fun M149 h150 => (arg_p (pv (d := .ref 0) rfl) h150 (arg_nil (callB (ft__law_odd_command) h150)))) h142 (fun i151 a152 M143 h144 =>
  (last_of (seq_ifx (b_x (bin_ee (γ := Bool) (px_told (α := Str) (fun M155 h156 => (arg_p (pv (d := .ref n140) rfl) h156 (arg_nil (callHcx (ftx_script_text ((List.map da s22).take (Int.toNat i151) ++ [a152] ++ (List.map da s22).drop (Int.toNat i151))) h156 (seq_c 1 rfl h156)))))) (fun M160 h161 => (arg_p pv_c h161 (arg_e (PX.cast (α := (Option Int)) (β := Da) (fun M157 h158 => (arg_p (pv (d := .ref n140) rfl) h158 (arg_nil (callHc (ft__law_due_command ((List.map da s22).take (Int.toNat i151) ++ [a152] ++ (List.map da s22).drop (Int.toNat i151))) h158 (seq_c 1 rfl h158)))))) h161 (fun (a162 : Da) M163 h164 => (arg_nil (seq_end (mk := D.tup) (a := ((("BadCommand" : Str), a162) : (Str × Da))) rfl h164)))))) (fun a165 b166 => (gs_op2 (α := (Str × Da)) (β := (Str × Da)) (γ := Bool) (a := a165) (b := b166))))) h144 (fun M167 h168 => (seq_ret (x := (en (α := Bool) false)) pv_c h168 ⟨_, rfl, ⟨rfl, (h168).nil_of⟩⟩))
  (fun M169 h170 => (seq_skip (skip_end ⟨_, Or.inl rfl, _, _, _, _, _, _, _, _, _, _, _, rfl, (h170).nil_of⟩)))))))))))))))
  (fun r d M h => ⟨_, rfl, h⟩)))))))))⟩))
  (fun s1 env M ⟨o3, o4, o5, o6, o7, o8, o9, o10, o11, o12, o13, he, h173⟩ => by subst he; exact (seq_ifx (not_tx (tru_b (fun M174 h175 => (arg_p (pv (d := .ref 0) rfl) h175 (arg_nil (callB (ft__law_long_text_right) h175)))))) h173 (fun M176 h177 => (seq_ret (x := (en (α := Bool) false)) pv_c h177 ⟨rfl, (h177).nil_of⟩))
  (fun M178 h179 => (seq_skip (seq_new1 (β := Da) (env1 := fun n186 => [some (.scr ns), some (.ref 0), o11, some (.ref n186), o5, o10, o3, o9, o4, o6, o12, o7, o8]) (fun _ => rfl) (PX.cast (α := (Str × Da)) (β := Da) (px_told (α := (List (T3 Str Int Int))) (fun M182 h183 => (arg_p pv_c h183 (arg_nil (callPx (ftx_parse_script ("insert 1 2" : Str)) h183)))))) h179 (fun a185 n186 M187 h188 =>
  (seq_appx (l := [a185]) 0 rfl rfl (PX.cast (α := (Str × Da)) (β := Da) (px_told (α := (List (T3 Str Int Int))) (fun M193 h194 => (arg_p pv_c h194 (arg_nil (callPx (ftx_parse_script ("insert 1 2\n\n" : Str)) h194)))))) h188 (fun a196 M189 h190 =>
  (last_of (seq_retx' (andV_x (eq_cx (l := ([a185] ++ [a196])) false 0 rfl rfl (PV.px (a := ([(da (α := (Str × Int)) ((("BadText" : Str), (0 : Int)) : (Str × Int))), (da (α := (Str × Int)) ((("BadText" : Str), (1 : Int)) : (Str × Int)))] : (List Da))) (lst_v (av_cons (x := (en (α := Da) (da (α := (Str × Int)) ((("BadText" : Str), (0 : Int)) : (Str × Int))))) (tup_v (av_cons (x := (en (α := Str) ("BadText" : Str))) pv_c (av_cons (x := (en (α := Int) (0 : Int))) pv_c av_nil))) (av_cons (x := (en (α := Da) (da (α := (Str × Int)) ((("BadText" : Str), (1 : Int)) : (Str × Int))))) (tup_v (av_cons (x := (en (α := Str) ("BadText" : Str))) pv_c (av_cons (x := (en (α := Int) (1 : Int))) pv_c av_nil))) av_nil))))) (andV_x (bin_ep (γ := Bool) (fun M198 h199 => (arg_p pv_c h199 (arg_nil (callP (ft_parse_script ("" : Str)) h199)))) (lst_v av_nil) (fun a200 => (gs_op2 (α := (List (T3 Str Int Int))) (β := (List (T3 Str Int Int))) (γ := Bool) (a := a200) (b := ([] : (List (T3 Str Int Int))))))) (bin_ep (γ := Bool) (fun M202 h203 => (arg_p (lst_v av_nil) h203 (arg_nil (callP (ft_script_text ([] : (List (T3 Str Int Int)))).fp h203)))) pv_c (fun a204 => (gs_ok (c := (decide (a204 = ("" : Str)))) fun M _ => w_eq _ _ M))))) h190 (fun r206 M207 h208 => ⟨rfl, (h208).nil_of⟩)))))))))))
  (fun r d M h => ⟨congrArg Fl.rt h.1, h.2⟩)))
theorem law_of (ht : t_law (fun b => b = true) (fun _ => False)) (ns : List Int) (hn : ns.length ≤ 63) : ∃ M, F_law [.scr ns] [] = .ok (.bl true) M := run_law (env0 := [some (.scr ns), none, none, none, none, none, none, none, none, none, none, none, none]) rfl (ft_law ns hn) ht
end
section
set_option Elab.async false
set_option linter.all false
set_option maxRecDepth 100000
set_option maxHeartbeats 2000000
theorem need_ok {α : Type} {c : Prop} (h : c) (p : Pr α) : Pr.need c p = p := by
  funext Q E
  exact propext ⟨fun z => z.2, fun z => ⟨h, z⟩⟩
theorem lim_ok {α : Type} {l : List α} (h : l.length < 20000000) : lim l = Pr.ok l := need_ok h _
theorem cut_drop' {α : Type} (l : List α) (n : Int) (h : 0 ≤ n) : cutD l (some n) none = l.drop n.toNat := by
  unfold cutD
  have h1 : HT.sIx l.length l.length none = l.length := rfl
  have h2 : HT.sIx l.length 0 (some n) = min n.toNat l.length := by
    conv => lhs; rw [show n = ((n.toNat : Nat) : Int) by omega]
    rw [HT.sIx_nat]
  rw [h1, h2]
  rw [List.take_of_length_le (by simp)]
  by_cases hc : n.toNat ≤ l.length
  · rw [Nat.min_eq_left hc]
  · rw [Nat.min_eq_right (by omega), List.drop_length, List.drop_of_length_le (by omega)]
theorem lcM_ok {β γ : Type} {c : β → Pr Bool} {g : β → Pr γ} {cb : β → Bool} {gv : β → γ} : ∀ (l : List β), (∀ x ∈ l, c x = Pr.ok (cb x) ∧ g x = Pr.ok (gv x)) → Pr.lcM l c g = Pr.ok ((l.filter cb).map gv)
  | [], _ => rfl
  | x :: l, h => by
    obtain ⟨h1, h2⟩ := h x (by simp)
    have ih := lcM_ok l fun y hy => h y (by simp [hy])
    show (c x).bind _ = _
    rw [h1, Pr.ok_bind]
    cases hc : cb x with
    | true =>
      rw [if_pos rfl, h2, Pr.ok_bind, ih, Pr.ok_bind, List.filter_cons_of_pos hc]
      rfl
    | false =>
      rw [if_neg (by simp), ih, List.filter_cons_of_neg (by simp [hc])]
theorem lcM_any {β γ : Type} {g : β → Pr γ} {P : γ → Prop} {E : Exn → Prop} : ∀ (l : List β) (Q : List γ → Prop), (∀ x ∈ l, ∀ Q : γ → Prop, (∀ y, P y → Q y) → g x Q E) → (∀ ys, ys.length = l.length → (∀ y ∈ ys, P y) → Q ys) → Pr.lcM l (fun _ => Pr.ok true) g Q E
  | [], Q, _, h => h [] rfl (fun _ z => by cases z)
  | x :: l, Q, hg, h => by
    show (g x) (fun y => (Pr.lcM l (fun _ => Pr.ok true) g) (fun ys => Q (y :: ys)) E) E
    refine hg x (by simp) _ fun y hy => ?_
    refine lcM_any l _ (fun z hz => hg z (by simp [hz])) fun ys h1 h2 => h (y :: ys) (by simp [h1]) fun z hz => ?_
    rcases List.mem_cons.mp hz with rfl | hz
    · exact hy
    · exact h2 z hz
theorem rngI_len (lo : Int) (n : Nat) : (rngI lo n).length = n := by simp [rngI]
theorem rngI_add (lo : Int) (n m : Nat) : rngI lo (n + m) = rngI lo n ++ rngI (lo + n) m := by
  unfold rngI
  rw [List.range_add, List.map_append, List.map_map]
  congr 1
  apply List.map_congr_left
  intro k _
  simp only [Function.comp]
  omega
theorem need_T {α : Type} {c : Prop} (h : c) (p : Pr α) : Pr.need c p = p := need_ok h p
theorem filter_T {α : Type} (l : List α) : (l.filter fun _ => true) = l := List.filter_eq_self.mpr fun _ _ => rfl
theorem sm_of {n : Int} (h : -1000 ≤ n) (h' : n ≤ 1000000) : sm n := ⟨by omega, by omega⟩
theorem rep_one {α : Type} (x : α) (n : Int) (h : 0 ≤ n) (h' : n ≤ 1000) : rep [x] n = Pr.ok (List.replicate n.toNat x) := by
  unfold rep
  rw [need_T ⟨sm_of (by omega) (by omega), by simp; omega⟩]
  congr 1
  generalize n.toNat = k
  induction k with
  | zero => rfl
  | succ k ih => rw [List.replicate_succ, List.flatten_cons, ih]; rfl
theorem forF_unit {α ρ : Type} {b : α → Unit → Pr (FlT Unit ρ)} {E : Exn → Prop} : ∀ (l : List α) (Q : FlT Unit ρ → Prop), (∀ x ∈ l, ∀ Q : FlT Unit ρ → Prop, Q (.nx ()) → b x () Q E) → Q (.nx ()) → Pr.forF l () b Q E
  | [], Q, _, h => h
  | x :: l, Q, hb, h => by
    refine hb x (by simp) _ ?_
    exact forF_unit l Q (fun y hy => hb y (by simp [hy])) h
theorem need_i {α : Type} {c : Prop} {p : Pr α} {Q : α → Prop} {E : Exn → Prop} (h : c) (h' : p Q E) : Pr.need c p Q E := ⟨h, h'⟩
theorem pull_i {n : Int} {Q : Int → Prop} {E : Exn → Prop} (h0 : 0 < n) (h1 : n < 1073741824) (h : ∀ v, 0 ≤ v → v < n → Q v) : Pr.pull n Q E := ⟨h0, h1, h⟩
theorem of_i {α : Type} {l : List α} {Q : α → Prop} {E : Exn → Prop} (h0 : l ≠ []) (h1 : l.length < 1073741824) (h : ∀ x ∈ l, Q x) : Pr.of l Q E := ⟨h0, h1, h⟩
theorem lk_i {α β : Type} [Enc α] [Enc β] {k : Nat} {a : α} {b : β} {Q : Bool → Prop} {E : Exn → Prop} (e : en a = en b) (h : lkD k (en a) = true) (q : Q true) : lk k a b Q E := ⟨e, h, q⟩
theorem bind_i {α β : Type} {p : Pr α} {k : α → Pr β} {Q : β → Prop} {E : Exn → Prop} (h : p (fun a => k a Q E) E) : (p.bind k) Q E := h
theorem flow_i {α ρ β : Type} {l : List α} {b : α → Unit → Pr (FlT Unit ρ)} {k : Unit → Pr β} {w : ρ → β} {Q : β → Prop} {E : Exn → Prop} (hb : ∀ x ∈ l, ∀ Q : FlT Unit ρ → Prop, Q (.nx ()) → b x () Q E) (h : k () Q E) : (Pr.flow (Pr.forF l () b) k w) Q E :=
  forF_unit l _ hb h
theorem closed_ds (k : Nat) : ∀ l : List Da, closedAll k (l.map Da.d) = true
  | [] => rfl
  | x :: l => by simp only [List.map_cons, closedAll, x.c k, closed_ds k l, Bool.and_self]
def tupD (l : List Da) : Da := ⟨.tup (l.map Da.d), fun k => by simp only [closed]; exact closed_ds k l⟩
theorem da_inj {l m : List Da} (h : l.map Da.d = m.map Da.d) : l = m := map_inj (α := Da) l m h
theorem lenD_t (l : List Da) : lenD (tupD l) = Pr.ok ((l.length : Nat) : Int) := by
  funext Q E
  refine propext ⟨fun ⟨m, h, q⟩ => ?_, fun q => ⟨l.map Da.d, .inl rfl, by rw [List.length_map]; exact q⟩⟩
  rcases h with h | h
  · have h : D.tup (l.map Da.d) = .tup m := h
    cases h
    rw [List.length_map] at q
    exact q
  · have h : D.tup (l.map Da.d) = .lst m := h
    cases h
theorem itemsD_t (l : List Da) : itemsD (tupD l) = Pr.ok l := by
  funext Q E
  refine propext ⟨fun ⟨m, h, q⟩ => ?_, fun q => ⟨l, .inl rfl, q⟩⟩
  rcases h with h | h
  · have h : D.tup (l.map Da.d) = .tup (m.map Da.d) := h
    rw [da_inj (D.tup.inj h)]
    exact q
  · have h : D.tup (l.map Da.d) = .lst (m.map Da.d) := h
    cases h
theorem ix_t0 (x : Da) (l : List Da) : op2 (α := Da) (β := Int) (γ := Da) gIx (tupD (x :: l)) (0 : Int) = Pr.ok x := op2_ok fun M => by
  show gIx (.tup (x.d :: l.map Da.d)) (.int 0) M = _
  rw [g_ixT, at0]
  rfl
theorem ix_t1 (x y : Da) (l : List Da) : op2 (α := Da) (β := Int) (γ := Da) gIx (tupD (x :: y :: l)) (1 : Int) = Pr.ok y := op2_ok fun M => by
  show gIx (.tup (x.d :: y.d :: l.map Da.d)) (.int 1) M = _
  rw [g_ixT, at1]
  rfl
theorem ix_t2 (x y z : Da) (l : List Da) : op2 (α := Da) (β := Int) (γ := Da) gIx (tupD (x :: y :: z :: l)) (2 : Int) = Pr.ok z := op2_ok fun M => by
  show gIx (.tup (x.d :: y.d :: z.d :: l.map Da.d)) (.int 2) M = _
  rw [g_ixT, at2]
  rfl
theorem sl_t1 (x : Da) (l : List Da) : op1 (α := Da) (γ := Da) (fun x M => gSl x (some (1 : Int)) none M) (tupD (x :: l)) = Pr.ok (tupD l) := op1_ok fun M => by
  show some (D.tup (cutD (x.d :: l.map Da.d) (some 1) none), M) = some (.tup (l.map Da.d), M)
  have : cutD (x.d :: l.map Da.d) (some 1) none = l.map Da.d := by
    unfold cutD
    have h1 : HT.sIx (x.d :: l.map Da.d).length 0 (some 1) = 1 := by unfold HT.sIx; simp
    have h2 : HT.sIx (x.d :: l.map Da.d).length (x.d :: l.map Da.d).length none = (x.d :: l.map Da.d).length := rfl
    rw [h1, h2]
    simp
    exact List.take_of_length_le (by simp)
  rw [this]
theorem isi_tt (l : List Da) : op1 (α := Da) (γ := Bool) (gIsi "tuple") (tupD l) = Pr.ok true := op1_ok fun M => rfl
theorem isi_ii (i : Int) : op1 (α := Da) (γ := Bool) (gIsi "int") (da i) = Pr.ok true := op1_ok fun M => rfl
theorem isi_in : op1 (α := Da) (γ := Bool) (gIsi "int") (da ()) = Pr.ok false := op1_ok fun M => rfl
theorem isi_bi (i : Int) : op1 (α := Da) (γ := Bool) (gIsi "bool") (da i) = Pr.ok false := op1_ok fun M => rfl
theorem eq_w {s t : Str} {b : Bool} (h : decide (s = t) = b) (n : Bool) (M : Sto) : gEq n (.str s) (.str t) M = some (.bl (if n then !b else b), M) := by
  cases n
  · rw [g_eq, eq_str, h]; rfl
  · rw [g_ne, eq_str, h]; rfl
theorem wq {s t : Str} (b : Bool) (h : decide (s = t) = b) (n : Bool) : op2 (α := Da) (β := Str) (γ := Bool) (gEq n) (da s) t = Pr.ok (if n then !b else b) := op2_ok fun M => eq_w h n M
theorem castI (i : Int) : cast (α := Da) (β := Int) (da i) = Pr.ok i := cast_ok rfl
theorem need_ok0 {α : Type} {c : Prop} (h : c) (p : Pr α) : Pr.need c p = p := by
  funext Q E
  exact propext ⟨fun z => z.2, fun z => ⟨h, z⟩⟩
theorem number_i (i : Int) : t_is_number (da i) = Pr.ok true := by
  unfold t_is_number
  rw [isi_ii, Pr.ok_bind, if_pos rfl, isi_bi, Pr.ok_bind]
  rfl
theorem number_n : t_is_number (da ()) = Pr.ok false := by
  unfold t_is_number
  rw [isi_in, Pr.ok_bind, if_neg (by decide)]
theorem log_small {n : Nat} (h : n ≤ 1000000) : n.log2 < 1920 := by
  by_cases z : n = 0
  · subst z; decide
  · have : n.log2 < 20 := (Nat.log2_lt z).mpr (Nat.lt_of_le_of_lt h (by decide))
    omega
def cmdOk (c : Cmd) : Prop := (c.p1 = "insert" ∧ 0 ≤ c.p2 ∧ 1 ≤ c.p3) ∨ (c.p1 = "delete" ∧ 0 ≤ c.p2 ∧ c.p2 ≤ c.p3)
theorem ins_ne_del : (("insert" : Str) = "delete") = False := by simp only [eq_iff_iff, iff_false]; decide +kernel
theorem del_ne_ins : (("delete" : Str) = "insert") = False := by simp only [eq_iff_iff, iff_false]; decide +kernel
def near (c : Cmd) : Prop := cmdOk c ∧ c.p2 ≤ 11 ∧ (c.p1 = "delete" → c.p3 ≤ c.p2 + 3) ∧ (c.p1 = "insert" → c.p3 ≤ 3)
theorem command_any {E : Exn → Prop} (Q : Cmd → Prop) (h : ∀ c, near c → Q c) : t__law_command 12 Q E := by
  unfold t__law_command
  refine of_i (E := E) (by simp) (by simp) fun n hn => pull_i (E := E) ?_ ?_ fun v v0 v1 => pull_i (E := E) (by decide) (by decide) fun w w0 w1 => ?_
  · simp only [List.mem_cons, List.not_mem_nil, or_false] at hn; omega
  · simp only [List.mem_cons, List.not_mem_nil, or_false] at hn; omega
  · have hv : v ≤ 11 := by simp only [List.mem_cons, List.not_mem_nil, or_false] at hn; omega
    show (if decide (w = 0) = true then _ else _ : Pr Cmd) Q E
    by_cases hw : w = 0
    · rw [if_pos (by simpa using hw)]
      refine of_i (E := E) (by simp) (by simp) fun x hx => h _ ?_
      simp only [List.mem_cons, List.not_mem_nil, or_false] at hx
      exact ⟨.inl ⟨rfl, v0, by show 1 ≤ x; omega⟩, hv, fun z => by rw [ins_ne_del] at z; exact z.elim, fun _ => by show x ≤ 3; omega⟩
    · rw [if_neg (by simpa using hw)]
      refine of_i (E := E) (by simp) (by simp) fun x hx => h _ ?_
      simp only [List.mem_cons, List.not_mem_nil, or_false] at hx
      exact ⟨.inr ⟨rfl, v0, by show v ≤ v + x; omega⟩, hv, fun _ => by show v + x ≤ v + 3; omega, fun z => by rw [del_ne_ins] at z; exact z.elim⟩
theorem script_any {E : Exn → Prop} (n : Nat) (hn : n ≤ 20) (Q : List Cmd → Prop) (h : ∀ cs : List Cmd, cs.length ≤ n → (∀ c ∈ cs, near c) → Q cs) : t__law_script (n : Int) Q E := by
  unfold t__law_script
  refine pull_i (E := E) (by omega) (by omega) fun v v0 v1 => need_i (sm_of (by omega) (by omega)) (need_i (by rw [rngI_len]; omega) ?_)
  refine lcM_any (P := near) _ _ (fun x _ Q hq => command_any Q hq) fun ys h1 h2 => h ys ?_ h2
  rw [h1, rngI_len]
  omega
theorem c_tup (c : Cmd) : da c = tupD [da c.p1, da c.p2, da c.p3] := rfl
def cmdB (c : Cmd) : Bool := (decide (c.p1 = "insert") && (decide (0 ≤ c.p2) && decide (1 ≤ c.p3))) || (decide (c.p1 = "delete") && (decide (0 ≤ c.p2) && decide (c.p2 ≤ c.p3)))
theorem q_w (s t : Str) (n : Bool) : op2 (α := Da) (β := Str) (γ := Bool) (gEq n) (da s) t = Pr.ok (if n then !decide (s = t) else decide (s = t)) := wq _ rfl n
theorem nums2 (a b : Int) : t_are_numbers (tupD [da a, da b]) 2 = Pr.ok true := by
  unfold t_are_numbers
  rw [lenD_t, Pr.ok_bind, Pr.ok_bind]
  simp only [List.length_cons, List.length_nil, Nat.zero_add, itemsD_t, Pr.ok_bind]
  rw [if_pos (by decide), need_ok0 (by simp)]
  simp only [Pr.lcM, number_i, Pr.ok_bind, if_true]
  rfl
theorem nums_no (l : List Da) (n : Int) (h : decide (((l.length : Nat) : Int) = n) = false) : t_are_numbers (tupD l) n = Pr.ok false := by
  unfold t_are_numbers
  rw [lenD_t, Pr.ok_bind, h, Pr.ok_bind, if_neg (by decide)]
theorem cast3 (x y z : Da) : cast (α := Da) (β := (T3 Da Da Da)) (tupD [x, y, z]) = Pr.ok (T3.mk x y z) := cast_ok rfl
theorem ins_del : (Str.ofString "insert" = Str.ofString "delete") = False := by simp only [eq_iff_iff, iff_false]; decide +kernel
theorem del_ins : (Str.ofString "delete" = Str.ofString "insert") = False := by simp only [eq_iff_iff, iff_false]; decide +kernel
theorem is_command_d (c : Cmd) : t_is_command (da c) = Pr.ok (cmdB c) := by
  unfold t_is_command
  rw [c_tup, isi_tt, sl_t1, cast3]
  simp only [Pr.ok_bind, Bool.not_true, Bool.false_eq_true, if_false, nums2, q_w, castI]
  unfold cmdB
  by_cases h1 : c.p1 = "insert"
  · have h2 : ¬ c.p1 = "delete" := by rw [h1]; decide
    simp only [h1, h2, decide_true, decide_false, Bool.true_and, Bool.false_and, Bool.or_false, if_true]
    by_cases h3 : 0 ≤ c.p2
    · simp [h3, ins_del]
    · simp [h3, ins_del]
  · by_cases h2 : c.p1 = "delete"
    · simp only [h1, h2, decide_true, decide_false, Bool.true_and, Bool.false_and, Bool.false_or, if_true, Bool.false_eq_true, if_false, Pr.ok_bind]
      by_cases h3 : 0 ≤ c.p2
      · simp [h3, del_ins]
      · simp [h3, del_ins]
    · simp [h1, h2]
/-- what is no command, and no tuple of a word and two numbers -/
def oddC : List Da := [tupD [da ("insert" : Str), da (1 : Int)], tupD [], tupD [da ("delete" : Str), da (0 : Int), da (0 : Int), da (0 : Int)], tupD [da ("delete" : Str)]]
theorem is_command_o {x : Da} (h : x ∈ oddC) : t_is_command x = Pr.ok false := by
  simp only [oddC, List.mem_cons, List.not_mem_nil, or_false] at h
  unfold t_is_command
  rcases h with rfl | rfl | rfl | rfl
  · rw [isi_tt, sl_t1, Pr.ok_bind, Pr.ok_bind, Bool.not_true, if_neg (by decide), Pr.ok_bind, nums_no _ 2 (by decide)]
    rfl
  · rw [isi_tt, Pr.ok_bind, Pr.ok_bind, Bool.not_true, if_neg (by decide)]
    rw [show op1 (α := Da) (γ := Da) (fun x M => gSl x (some (1 : Int)) none M) (tupD []) = Pr.ok (tupD []) from op1_ok fun M => rfl, Pr.ok_bind, nums_no [] 2 (by decide)]
    rfl
  · rw [isi_tt, sl_t1, Pr.ok_bind, Pr.ok_bind, Bool.not_true, if_neg (by decide), Pr.ok_bind, nums_no _ 2 (by decide)]
    rfl
  · rw [isi_tt, sl_t1, Pr.ok_bind, Pr.ok_bind, Bool.not_true, if_neg (by decide), Pr.ok_bind, nums_no _ 2 (by decide)]
    rfl
def badC : List (Option Cmd) → Nat → Option Nat
  | [], _ => none
  | none :: _, k => some k
  | some c :: r, k => if cmdB c then badC r (k + 1) else some k
def ShC (d : Da) : Option Cmd → Prop
  | some c => d = da c
  | none => d ∈ oddC
def ShL : List Da → List (Option Cmd) → Prop
  | [], [] => True
  | d :: l, g :: gs => ShC d g ∧ ShL l gs
  | _, _ => False
theorem ShL.len : ∀ {l : List Da} {gs : List (Option Cmd)}, ShL l gs → l.length = gs.length
  | [], [], _ => rfl
  | _ :: _, _ :: _, h => by simp [ShL.len h.2]
  | [], _ :: _, h => h.elim
  | _ :: _, [], h => h.elim
def exBad (k : Nat) : Exn := ⟨"BadCommand", ["at", "word"], [.int (k : Nat), .str "BadCommand"]⟩
/-- check_script, where it may raise -/
def ckX (k : Int) : Pr Unit := Pr.need (okIntD (en (α := Int) k) = true) (Pr.exc ⟨"BadCommand", ["at", "word"], [(en (α := Int) k), .str "BadCommand"]⟩)
def ckB : (Int × Da) → Unit → Pr Unit := fun (x2 : (Int × Da)) (s1 : Unit) =>
  (((t_is_command x2.2).bind fun b => Pr.ok (!b)).bind fun c => if c then (Pr.need (okIntD (en (α := Int) x2.1) = true) (Pr.exc ⟨"BadCommand", ["at", "word"], [(en (α := Int) x2.1), .str "BadCommand"]⟩)) else
  (Pr.ok ()))
theorem ck_no {k : Int} {d : Da} (h : t_is_command d = Pr.ok false) : ckB (k, d) () = ckX k := by
  unfold ckB
  rw [h, Pr.ok_bind, Pr.ok_bind, Bool.not_false, if_pos rfl]
  rfl
theorem ck_yes {k : Int} {d : Da} (h : t_is_command d = Pr.ok true) : ckB (k, d) () = Pr.ok () := by
  unfold ckB
  rw [h, Pr.ok_bind, Pr.ok_bind, Bool.not_true, if_neg (by decide)]
theorem xcheck_loop {Q : Unit → Prop} {E : Exn → Prop} : ∀ (l : List Da) (gs : List (Option Cmd)) (k : Nat), ShL l gs → k + l.length ≤ 1000 → (∀ j, badC gs k = some j → E (exBad j)) → (badC gs k = none → Q ()) →
    Pr.forM (enumI k l) () ckB Q E
  | [], [], k, _, _, _, q => q rfl
  | d :: l, g :: gs, k, h, hk, e, q => by
    have ok : okIntD (en (α := Int) ((k : Nat) : Int)) = true := by
      refine decide_eq_true ?_
      have : (Int.natAbs ((k : Nat) : Int)) = k := by simp
      rw [this]
      exact log_small (by simp at hk; omega)
    show ((ckB (((k : Nat) : Int), d) ()).bind fun s => Pr.forM (enumI (k + 1) l) s ckB) Q E
    cases g with
    | none =>
      rw [ck_no (is_command_o h.1)]
      exact ⟨ok, e k rfl⟩
    | some c =>
      have hd : d = da c := h.1
      subst hd
      cases hc : cmdB c with
      | false =>
        rw [ck_no (by rw [is_command_d, hc])]
        exact ⟨ok, e k (by unfold badC; rw [hc]; rfl)⟩
      | true =>
        rw [ck_yes (by rw [is_command_d, hc]), Pr.ok_bind]
        have eb : badC (some c :: gs) k = badC gs (k + 1) := by rw [badC, hc]; rfl
        rw [eb] at e q
        exact xcheck_loop l gs (k + 1) h.2 (by simp at hk; omega) e q
  | [], _ :: _, _, h, _, _, _ => h.elim
  | _ :: _, [], _, h, _, _, _ => h.elim
theorem xcheck_i {l : List Da} {gs : List (Option Cmd)} (h : ShL l gs) (hn : l.length ≤ 1000) {Q : Unit → Prop} {E : Exn → Prop} (e : ∀ j, badC gs 0 = some j → E (exBad j)) (q : badC gs 0 = none → Q ()) : tx_check_script l Q E := by
  unfold tx_check_script
  rw [lim_ok (by omega), Pr.ok_bind, Pr.ok_bind]
  exact xcheck_loop l gs 0 h (by omega) e q
theorem ok_i {α : Type} {a : α} {Q : α → Prop} {E : Exn → Prop} (h : Q a) : (Pr.ok a) Q E := h
theorem in_w {s : Str} (b : Bool) (h1 : SeqAt.shaped (.str s) = true) (h2 : anyD [.str "insert", .str "delete"] (.str s) = b) : op2 (α := Da) (β := (Str × Str)) (γ := Bool) (gIn true) (da s) ((("insert" : Str), ("delete" : Str)) : (Str × Str)) = Pr.ok (!b) := op2_ok fun M => by
  show (inD (.str s) (.tup [.str "insert", .str "delete"]) M).map _ = _
  unfold inD
  rw [show pyM (.str s) M = some (.str s) from rfl, show pyM (.tup [.str "insert", .str "delete"]) M = some (.tuple [.str "insert", .str "delete"]) from rfl]
  simp only [h1, show SeqAt.shaped (.tuple [.str "insert", .str "delete"]) = true by decide +kernel, h2, Bool.and_self, if_true]
  cases b <;> rfl
def duB (l : List Da) : Int → Unit → Pr (FlT Unit (Option Int)) := (fun (x4 : Int) (s3 : Unit) =>
  ((idx l x4).bind fun (comman_7 : Da) =>
  ((((lenD comman_7).bind fun (a12 : Int) => (Pr.ok (!decide (a12 = (3 : Int))))).bind fun a => if a then Pr.ok true else ((op2 (α := Da) (β := Int) (γ := Da) gIx comman_7 (0 : Int)).bind fun (a16 : Da) => (op2 (α := Da) (β := (Str × Str)) (γ := Bool) (gIn true) a16 ((("insert" : Str), ("delete" : Str)) : (Str × Str))))).bind fun c => if c then (Pr.ok (FlT.rt (some x4))) else
  ((((op2 (α := Da) (β := Int) (γ := Da) gIx comman_7 (0 : Int)).bind fun (a24 : Da) => (op2 (α := Da) (β := Str) (γ := Bool) (gEq false) a24 ("insert" : Str))).bind fun a => if a then ((((op2 (α := Da) (β := Int) (γ := Da) gIx comman_7 (1 : Int)).bind fun (a28 : Da) => cast (α := Da) (β := Int) a28).bind fun (a29 : Int) => (Pr.ok (decide (a29 < (0 : Int))))).bind fun a => if a then Pr.ok true else (((op2 (α := Da) (β := Int) (γ := Da) gIx comman_7 (2 : Int)).bind fun (a33 : Da) => cast (α := Da) (β := Int) a33).bind fun (a34 : Int) => (Pr.ok (decide (a34 < (1 : Int)))))) else Pr.ok false).bind fun c => if c then (Pr.ok (FlT.rt (some x4))) else
  ((((op2 (α := Da) (β := Int) (γ := Da) gIx comman_7 (0 : Int)).bind fun (a42 : Da) => (op2 (α := Da) (β := Str) (γ := Bool) (gEq false) a42 ("delete" : Str))).bind fun a => if a then (((Pr.ok (0 : Int)).bind fun (x50 : Int) => ((op2 (α := Da) (β := Int) (γ := Da) gIx comman_7 (1 : Int)).bind fun (a46 : Da) => cast (α := Da) (β := Int) a46).bind fun (y51 : Int) => if decide (x50 ≤ y51) then ((op2 (α := Da) (β := Int) (γ := Da) gIx comman_7 (2 : Int)).bind fun (a49 : Da) => cast (α := Da) (β := Int) a49).bind fun (z52 : Int) => Pr.ok (decide (y51 ≤ z52)) else Pr.ok false).bind fun b => Pr.ok (!b)) else Pr.ok false).bind fun c => if c then (Pr.ok (FlT.rt (some x4))) else
  (Pr.ok (FlT.nx ())))))))
def duR (k : Int) (b : Bool) : FlT Unit (Option Int) := if b then FlT.nx () else FlT.rt (some k)
theorem du_o {l : List Da} {k : Int} {d : Da} (hi : idx l k = Pr.ok d) (h : d ∈ oddC) : duB l k () = Pr.ok (duR k false) := by
  simp only [oddC, List.mem_cons, List.not_mem_nil, or_false] at h
  unfold duB
  rw [hi, Pr.ok_bind]
  rcases h with rfl | rfl | rfl | rfl
  all_goals
    rw [lenD_t, Pr.ok_bind, Pr.ok_bind, if_pos (by decide), Pr.ok_bind, if_pos rfl]
    rfl
theorem rngI_cons (k : Int) (n : Nat) : rngI k (n + 1) = k :: rngI (k + 1) n := by
  rw [Nat.add_comm n 1, rngI_add]
  show (rngI k 1) ++ _ = _
  rw [show rngI k 1 = [k] by unfold rngI; simp]
  simp
theorem in_gen {s : Str} (h : SeqAt.shaped (.str s) = true) : op2 (α := Da) (β := (Str × Str)) (γ := Bool) (gIn true) (da s) ((("insert" : Str), ("delete" : Str)) : (Str × Str)) = Pr.ok (!(decide (s = "insert") || decide (s = "delete"))) := in_w _ h (by
  show ((PyData.eqv (.str "insert") (.str s)) || ((PyData.eqv (.str "delete") (.str s)) || false)) = _
  simp only [PyData.eqv, Bool.or_false]
  congr 1
  · by_cases e : s = "insert"
    · rw [e]; decide +kernel
    · rw [decide_eq_false e]; exact beq_eq_false_iff_ne.mpr fun z => e z.symm
  · by_cases e : s = "delete"
    · rw [e]; decide +kernel
    · rw [decide_eq_false e]; exact beq_eq_false_iff_ne.mpr fun z => e z.symm)
theorem du_c {l : List Da} {k : Int} {c : Cmd} (hi : idx l k = Pr.ok (da c)) (h : SeqAt.shaped (.str c.p1) = true) : duB l k () = Pr.ok (duR k (cmdB c)) := by
  obtain ⟨w, a, b⟩ := c
  have h : SeqAt.shaped (.str w) = true := h
  unfold duB
  rw [hi, Pr.ok_bind, c_tup, lenD_t]
  have l3 : (!decide ((([da w, da a, da b].length : Nat) : Int) = (3 : Int))) = false := rfl
  simp only [ix_t0, ix_t1, ix_t2, Pr.ok_bind, q_w, castI]
  rw [l3]
  simp only [Bool.false_eq_true, if_false]
  rw [in_gen h, Pr.ok_bind]
  unfold cmdB duR
  by_cases e1 : w = "insert"
  · subst e1
    simp only [ins_del, decide_true, decide_false, Bool.true_or, Bool.not_true, Bool.true_and, Bool.false_and, Bool.or_false, if_true, if_false, Bool.false_eq_true, Pr.ok_bind]
    by_cases h1 : a < 0
    · have h2 : ¬ 0 ≤ a := by omega
      simp [h1, h2, Pr.ok_bind]
    · have h2 : 0 ≤ a := by omega
      by_cases h3 : b < 1
      · have h4 : ¬ 1 ≤ b := by omega
        simp [h1, h2, h3, h4, Pr.ok_bind]
      · have h4 : 1 ≤ b := by omega
        simp [h1, h2, h3, h4, Pr.ok_bind]
  · by_cases e2 : w = "delete"
    · subst e2
      simp only [del_ins, decide_true, decide_false, Bool.or_true, Bool.not_true, Bool.true_and, Bool.false_and, Bool.false_or, if_true, if_false, Bool.false_eq_true, Pr.ok_bind]
      by_cases h1 : 0 ≤ a
      · by_cases h3 : a ≤ b <;> simp [h1, h3, Pr.ok_bind]
      · simp [h1, Pr.ok_bind]
    · simp [e1, e2]
theorem du_loop (P : List Da) : ∀ (l : List Da) (gs : List (Option Cmd)) (k : Nat), ShL l gs → (∀ c, some c ∈ gs → SeqAt.shaped (.str c.p1) = true) → P.drop k = l → k + l.length = P.length →
    Pr.flow (Pr.forF (ρ := (Option Int)) (rngI (k : Int) l.length) () (duB P)) (fun (s3 : Unit) => (Pr.ok (none : (Option Int)))) (fun (r59 : (Option Int)) => r59) = Pr.ok ((badC gs k).map fun (j : Nat) => ((j : Nat) : Int))
  | [], [], k, _, _, _, _ => rfl
  | d :: l, g :: gs, k, h, hw, hd, hk => by
    have hlt : k < P.length := by simp at hk; omega
    have e0 := List.drop_eq_getElem_cons hlt
    rw [hd] at e0
    have hi : idx P (k : Int) = Pr.ok d := by
      rw [idx_nat hlt]
      congr 1
      exact (List.cons.inj e0).1.symm
    rw [show (d :: l).length = l.length + 1 from rfl, rngI_cons]
    show Pr.flow ((duB P (k : Int) ()).bind _) _ _ = _
    cases g with
    | none => rw [du_o hi h.1, Pr.ok_bind]; rfl
    | some c =>
      have hdc : d = da c := h.1
      rw [du_c (by rw [← hdc]; exact hi) (hw c (by simp)), Pr.ok_bind]
      cases hs : cmdB c with
      | false => rw [show badC (some c :: gs) k = some k by rw [badC, hs]; rfl]; rfl
      | true =>
        rw [show badC (some c :: gs) k = badC gs (k + 1) by rw [badC, hs]; rfl]
        exact du_loop P l gs (k + 1) h.2 (fun c hc => hw c (by simp [hc])) (List.cons.inj e0).2.symm (by simp at hk; omega)
  | [], _ :: _, _, h, _, _, _ => h.elim
  | _ :: _, [], _, h, _, _, _ => h.elim
theorem due_t {l : List Da} {gs : List (Option Cmd)} (h : ShL l gs) (hw : ∀ c, some c ∈ gs → SeqAt.shaped (.str c.p1) = true) (hn : l.length ≤ 1000) : t__law_due_command l = Pr.ok ((badC gs 0).map fun (j : Nat) => ((j : Nat) : Int)) := by
  unfold t__law_due_command
  rw [need_T (sm_of (by omega) (by omega)), Pr.ok_bind]
  rw [show Int.toNat ((l.length : Nat) : Int) = l.length by omega]
  exact du_loop l l gs 0 h hw rfl (by simp)
end
section
set_option Elab.async false
set_option linter.all false
set_option maxRecDepth 100000
set_option maxHeartbeats 1000000
abbrev tl (x : Str) : List Nat := _root_.TL.tl x
abbrev SS (l : List Nat) : Str := SX.S l
def Asc (t : Str) : Prop := ∀ c ∈ tl t, c < 128
def DigsL (l : List Nat) : Bool := !l.isEmpty && l.all fun c => decide (48 ≤ c) && decide (c ≤ 57)
theorem SS_tl (x : Str) : SS (tl x) = x := _root_.TL.mk_tl x
theorem len_t (x : Str) : x.length = (tl x).length := _root_.TL.len_tl x
theorem digit_c : ∀ c, c < 128 → Unicode.isDigit c = (decide (48 ≤ c) && decide (c ≤ 57)) := by decide +kernel
theorem isdig_t {w : Str} (h : Asc w) : Txt.isdigit w = DigsL (tl w) := by
  have e : w.cps.all Unicode.isDigit = (tl w).all fun c => decide (48 ≤ c) && decide (c ≤ 57) := by
    rw [← Array.all_toList]
    have : ∀ l : List Nat, (∀ c ∈ l, c < 128) → l.all Unicode.isDigit = l.all fun c => decide (48 ≤ c) && decide (c ≤ 57) := by
      intro l
      induction l with
      | nil => exact fun _ => rfl
      | cons c l ih => exact fun h => by rw [List.all_cons, List.all_cons, digit_c c (h c (by simp)), ih fun d hd => h d (by simp [hd])]
    exact this _ h
  unfold Txt.isdigit DigsL
  rw [e, len_t]
  cases hl : tl w with
  | nil => simp
  | cons c l => simp
/-- what both readings of a number say -/
def rnL (l : List Nat) : Option Int := if DigsL l = true ∧ l.length ≤ 18 ∧ ¬ (l.head? = some 48 ∧ 1 < l.length) then some ((NumText.digitsVal l : Nat) : Int) else none
theorem int_t {w : Str} (h : DigsL (tl w) = true) (hl : (tl w).length ≤ 640) : PySem.intText? w = some ((NumText.digitsVal (tl w) : Nat) : Int) := by
  unfold DigsL at h
  rw [Bool.and_eq_true] at h
  have := SX.int_S (a := tl w) h.2 (by intro e; rw [e] at h; simp at h) (by omega)
  rw [show SX.S (tl w) = w from SS_tl w] at this
  exact this
theorem zero_t : tl ("0" : Str) = [48] := by decide +kernel
theorem ix0_t {w : Str} {c : Nat} {l : List Nat} (h : tl w = c :: l) (hl : (tl w).length ≤ 1000) : op2 (α := Str) (β := Int) (γ := Str) gIxS w (0 : Int) = Pr.ok (sgn c) := op2_ok fun M => by
  show (if w.length ≤ 16777216 then (L2.atI w.cps.toList 0).map fun c => (D.str (sgn c), M) else none) = _
  rw [if_pos (by rw [len_t]; omega), show w.cps.toList = c :: l from h, show L2.atI (c :: l) 0 = some c from atI_nat (xs := c :: l) (j := 0) (by simp)]
  rfl
theorem sgn_zero (c : Nat) : (sgn c = ("0" : Str)) ↔ c = 48 := by
  constructor
  · intro e
    have := congrArg tl e
    rw [zero_t] at this
    exact List.head_eq_of_cons_eq this
  · intro e; subst e; decide +kernel
theorem one_t {w : Str} : w = ("0" : Str) ↔ tl w = [48] := by
  constructor
  · intro e; rw [e]; exact zero_t
  · intro e; exact _root_.TL.ext_tl (by rw [show _root_.TL.tl w = [48] from e]; exact zero_t.symm)
theorem need_t {α : Type} {c : Prop} (h : c) (p : Pr α) : Pr.need c p = p := need_ok h p
theorem optP_some {α : Type} (a : α) : optP (some a) = Pr.ok a := rfl
theorem castO (i : Int) : cast (α := Int) (β := (Option Int)) i = Pr.ok (some i) := cast_ok rfl
theorem read_t {w : Str} (ha : Asc w) (hl : (tl w).length ≤ 500) : t_read_number w = Pr.ok (rnL (tl w)) := by
  unfold t_read_number
  rw [isdig_t ha]
  have hlen := len_t w
  cases hd : DigsL (tl w) with
  | false =>
    rw [Bool.not_false, if_pos rfl, Pr.ok_bind, if_pos rfl]
    unfold rnL
    rw [if_neg (by rw [hd]; simp)]
  | true =>
    rw [Bool.not_true, if_neg (by simp), need_t (by omega), Pr.ok_bind, Pr.ok_bind]
    by_cases h18 : (tl w).length ≤ 18
    · rw [decide_eq_false (by omega), if_neg (by simp)]
      obtain ⟨c, l, e⟩ : ∃ c l, tl w = c :: l := by
        cases e : tl w with
        | nil => rw [e] at hd; simp [DigsL] at hd
        | cons c l => exact ⟨c, l, rfl⟩
      rw [ix0_t e (by omega), Pr.ok_bind, Pr.ok_bind]
      by_cases hz : c = 48
      · rw [decide_eq_true ((sgn_zero c).mpr hz), if_pos rfl, Pr.ok_bind]
        by_cases ho : w = ("0" : Str)
        · rw [decide_eq_true ho, Bool.not_true, if_neg (by simp), need_t (c := w.length ≤ 640) (by omega), int_t hd (by omega), optP_some, Pr.ok_bind, castO]
          unfold rnL
          rw [if_pos ⟨hd, h18, fun z => by have := one_t.mp ho; rw [this] at z; simp at z⟩]
        · rw [decide_eq_false ho, Bool.not_false, if_pos rfl]
          unfold rnL
          rw [if_neg]
          intro z
          refine z.2.2 ⟨by rw [e, hz]; rfl, ?_⟩
          rw [e]
          cases l with
          | nil => exact absurd (one_t.mpr (by rw [e, hz])) ho
          | cons d l => simp
      · rw [decide_eq_false (fun z => hz ((sgn_zero c).mp z)), if_neg (by simp), Pr.ok_bind, if_neg (by simp), need_t (c := w.length ≤ 640) (by omega), int_t hd (by omega), optP_some, Pr.ok_bind, castO]
        unfold rnL
        rw [if_pos ⟨hd, h18, fun z => by rw [e] at z; exact hz (Option.some.inj z.1)⟩]
    · rw [decide_eq_true (by omega), if_pos rfl]
      unfold rnL
      rw [if_neg (fun z => h18 z.2.1)]
theorem ten_t : tl ("0123456789" : Str) = [48, 49, 50, 51, 52, 53, 54, 55, 56, 57] := by decide +kernel
theorem in_ten (c : Nat) : op2 (α := Str) (β := Str) (γ := Bool) gInS (sgn c) ("0123456789" : Str) = Pr.ok (decide (48 ≤ c) && decide (c ≤ 57)) := op2_ok fun M => by
  show some (D.bl (decide (c ∈ tl ("0123456789" : Str))), M) = _
  rw [ten_t]
  congr 3
  by_cases h : 48 ≤ c ∧ c ≤ 57
  · rw [decide_eq_true h.1, decide_eq_true h.2]
    refine decide_eq_true ?_
    simp only [List.mem_cons, List.not_mem_nil, or_false]
    omega
  · rw [decide_eq_false (by simp only [List.mem_cons, List.not_mem_nil, or_false]; omega)]
    by_cases h1 : 48 ≤ c
    · rw [decide_eq_false (show ¬ c ≤ 57 from fun z => h ⟨h1, z⟩)]; simp
    · rw [decide_eq_false h1]; rfl
theorem emp_t {w : Str} : w = ("" : Str) ↔ tl w = [] := by
  constructor
  · intro e; rw [e]; rfl
  · intro e; exact _root_.TL.ext_tl (by rw [show _root_.TL.tl w = [] from e]; rfl)
theorem plain_t {w : Str} (hl : (tl w).length ≤ 500) : t__law_plain_number w = Pr.ok (rnL (tl w)) := by
  unfold t__law_plain_number
  have hlen := len_t w
  by_cases he : w = ("" : Str)
  · rw [decide_eq_true he, if_pos rfl, Pr.ok_bind, if_pos rfl]
    unfold rnL
    rw [emp_t.mp he]
    rfl
  · rw [decide_eq_false he, if_neg (by simp), need_t (by omega), Pr.ok_bind, Pr.ok_bind]
    by_cases h18 : (tl w).length ≤ 18
    · rw [decide_eq_false (by omega), if_neg (by simp), Pr.ok_bind, need_t (by unfold sgns; rw [List.length_map]; show (tl w).length ≤ _; omega)]
      have ed : Pr.lcM (sgns w) (fun (x7 : Str) => (Pr.ok true)) (fun (x7 : Str) => (op2 (α := Str) (β := Str) (γ := Bool) gInS x7 ("0123456789" : Str))) = Pr.ok ((tl w).map fun c => (decide (48 ≤ c) && decide (c ≤ 57))) := by
        have := lcM_ok (c := fun (x7 : Str) => (Pr.ok true)) (g := fun (x7 : Str) => (op2 (α := Str) (β := Str) (γ := Bool) gInS x7 ("0123456789" : Str))) (cb := fun _ => true) (gv := fun s => (decide (48 ≤ (tl s).headD 0) && decide ((tl s).headD 0 ≤ 57))) (sgns w) (fun x hx => ⟨rfl, by
          obtain ⟨c, _, rfl⟩ := List.mem_map.mp hx
          exact in_ten c⟩)
        rw [this, filter_T]
        unfold sgns
        rw [List.map_map]
        rfl
      rw [ed, Pr.ok_bind, Pr.ok_bind, Pr.ok_bind]
      obtain ⟨c, l, e⟩ : ∃ c l, tl w = c :: l := by
        cases e : tl w with
        | nil => exact absurd (emp_t.mpr e) he
        | cons c l => exact ⟨c, l, rfl⟩
      have hall : (List.map (fun c => (decide (48 ≤ c) && decide (c ≤ 57))) (tl w)).all id = DigsL (tl w) := by
        unfold DigsL
        rw [List.all_map, e]
        simp
      rw [hall]
      cases hd : DigsL (tl w) with
      | false =>
        rw [Bool.not_false, if_pos rfl]
        unfold rnL
        rw [if_neg (by rw [hd]; simp)]
      | true =>
        rw [Bool.not_true, if_neg (by simp), ix0_t e (by omega), Pr.ok_bind, Pr.ok_bind]
        by_cases hz : c = 48
        · rw [decide_eq_true ((sgn_zero c).mpr hz), if_pos rfl, Pr.ok_bind, Pr.ok_bind]
          by_cases h1 : 1 < (tl w).length
          · rw [decide_eq_true (by omega), if_pos rfl]
            unfold rnL
            rw [if_neg fun z => z.2.2 ⟨by rw [e, hz]; rfl, h1⟩]
          · rw [decide_eq_false (by omega), if_neg (by simp), need_t (c := w.length ≤ 640) (by omega), int_t hd (by omega), optP_some, Pr.ok_bind, castO]
            unfold rnL
            rw [if_pos ⟨hd, h18, fun z => h1 z.2⟩]
        · rw [decide_eq_false (fun z => hz ((sgn_zero c).mp z)), if_neg (by simp), Pr.ok_bind, if_neg (by simp), need_t (c := w.length ≤ 640) (by omega), int_t hd (by omega), optP_some, Pr.ok_bind, castO]
          unfold rnL
          rw [if_pos ⟨hd, h18, fun z => by rw [e] at z; exact hz (Option.some.inj z.1)⟩]
    · rw [decide_eq_true (by omega), if_pos rfl, Pr.ok_bind, if_pos rfl]
      unfold rnL
      rw [if_neg (fun z => h18 z.2.1)]
end
section
set_option Elab.async false
set_option linter.all false
set_option maxRecDepth 100000
set_option maxHeartbeats 1000000
def sp (s : Nat) : List Nat → List Nat → List (List Nat)
  | acc, [] => [acc]
  | acc, c :: r => if c = s then acc :: sp s [] r else sp s (acc ++ [c]) r
theorem spl_sp (s : Nat) : ∀ (l acc : List Nat), _root_.TL.spl [s] 0 acc l = sp s acc l
  | [], acc => rfl
  | c :: r, acc => by
    have e : _root_.TL.pre [s] (c :: r) = decide (c = s) := by
      show ((c :: r).take 1 == [s]) = _
      by_cases h : c = s
      · subst h; simp
      · rw [decide_eq_false h]; simp [h]
    unfold sp
    by_cases h : c = s
    · rw [if_pos h, _root_.TL.spl_hit (by rw [e]; exact decide_eq_true h)]
      show acc :: _root_.TL.spl [s] 0 [] r = _
      rw [spl_sp s r []]
    · rw [if_neg h, _root_.TL.spl_miss (by rw [e]; exact decide_eq_false h), spl_sp s r _]
theorem sp_ne (s : Nat) : ∀ (l acc : List Nat), sp s acc l ≠ []
  | [], acc => by simp [sp]
  | c :: r, acc => by
    unfold sp
    split
    · simp
    · exact sp_ne s r _
theorem sp_mem (s : Nat) : ∀ (l acc p : List Nat), p ∈ sp s acc l → ∀ c ∈ p, c ∈ acc ∨ c ∈ l
  | [], acc, p, h, c, hc => by
    rw [List.mem_singleton.mp h] at hc; exact .inl hc
  | d :: r, acc, p, h, c, hc => by
    unfold sp at h
    split at h
    · rcases List.mem_cons.mp h with h | h
      · rw [h] at hc; exact .inl hc
      · rcases sp_mem s r [] p h c hc with z | z
        · cases z
        · exact .inr (by simp [z])
    · rcases sp_mem s r _ p h c hc with z | z
      · rcases List.mem_append.mp z with z | z
        · exact .inl z
        · exact .inr (by simp [List.mem_singleton.mp z])
      · exact .inr (by simp [z])
theorem sp_len (s : Nat) : ∀ (l acc p : List Nat), p ∈ sp s acc l → p.length ≤ acc.length + l.length
  | [], acc, p, h => by rw [List.mem_singleton.mp h]; simp
  | d :: r, acc, p, h => by
    unfold sp at h
    split at h
    · rcases List.mem_cons.mp h with h | h
      · rw [h]; simp
      · have := sp_len s r [] p h
        simp at this ⊢
        omega
    · have := sp_len s r _ p h
      simp at this ⊢
      omega
theorem sp_many (s : Nat) : ∀ (l acc : List Nat), (sp s acc l).length ≤ l.length + 1
  | [], acc => by simp [sp]
  | d :: r, acc => by
    unfold sp
    split
    · have := sp_many s r []
      simp
      omega
    · have := sp_many s r (acc ++ [d])
      simp
      omega
theorem sp_app (s : Nat) (r : List Nat) : ∀ (p acc : List Nat), s ∉ p → sp s acc (p ++ s :: r) = (acc ++ p) :: sp s [] r
  | [], acc, _ => by
    show (if s = s then acc :: sp s [] r else _) = _
    rw [if_pos rfl, List.append_nil]
  | c :: p, acc, h => by
    have hc : c ≠ s := fun z => h (by simp [z])
    show (if c = s then _ else sp s (acc ++ [c]) (p ++ s :: r)) = _
    rw [if_neg hc, sp_app s r p _ (fun z => h (by simp [z])), List.append_assoc]
    rfl
theorem sp_end (s : Nat) : ∀ (p acc : List Nat), s ∉ p → sp s acc p = [acc ++ p]
  | [], acc, _ => by simp [sp]
  | c :: p, acc, h => by
    have hc : c ≠ s := fun z => h (by simp [z])
    show (if c = s then _ else sp s (acc ++ [c]) p) = _
    rw [if_neg hc, sp_end s p _ (fun z => h (by simp [z])), List.append_assoc]
    rfl
theorem split_c (t y : Str) (s : Nat) (hy : tl y = [s]) (hk : y.cps.all (· < 256) = true) : Txt.split t y = (sp s [] (tl t)).map SS := by
  refine _root_.TL.map_tl_inj ?_
  rw [_root_.TL.split_spl t y (by rw [show _root_.TL.tl y = [s] from hy]; simp) (_root_.TL.kind_ok hk), show _root_.TL.tl y = [s] from hy, spl_sp, List.map_map]
  exact (List.map_id _).symm
theorem split_nl (t : Str) : Txt.split t ("\n" : Str) = (sp 10 [] (tl t)).map SS := split_c t _ 10 (by decide +kernel) (by decide +kernel)
theorem split_sp (t : Str) : Txt.split t (" " : Str) = (sp 32 [] (tl t)).map SS := split_c t _ 32 (by decide +kernel) (by decide +kernel)
theorem splok_nl {t : Str} (h : (tl t).length ≤ 1000000) : splOk t ("\n" : Str) := ⟨by decide +kernel, by rw [len_t]; omega⟩
theorem splok_sp {t : Str} (h : (tl t).length ≤ 1000000) : splOk t (" " : Str) := ⟨by decide +kernel, by rw [len_t]; omega⟩
theorem tl_SS (l : List Nat) : tl (SS l) = l := rfl
def cmd3 (w a b : List Nat) : Option Cmd := match rnL a, rnL b with
  | some x, some y => if cmdB ⟨SS w, x, y⟩ then some ⟨SS w, x, y⟩ else none
  | _, _ => none
def fL (l : List Nat) : Option Cmd := match sp 32 [] l with
  | [w, a, b] => cmd3 w a b
  | _ => none
abbrev T3o := T3 Str (Option Int) (Option Int)
theorem numO (o : Option Int) : t_is_number (da o) = Pr.ok o.isSome := by
  cases o with
  | none => exact number_n
  | some i => exact number_i i
theorem numsO (o1 o2 : Option Int) : t_are_numbers (tupD [da o1, da o2]) 2 = Pr.ok (o1.isSome && o2.isSome) := by
  unfold t_are_numbers
  rw [lenD_t, Pr.ok_bind, Pr.ok_bind]
  rw [show decide ((([da o1, da o2].length : Nat) : Int) = 2) = true from rfl, if_pos rfl, itemsD_t, Pr.ok_bind, need_T (by simp)]
  have e2 : Pr.lcM [da o2] (fun (x7 : Da) => (Pr.ok true)) (fun (x7 : Da) => (t_is_number x7)) = Pr.ok [o2.isSome] := by
    show ((t_is_number (da o2)).bind fun y => (Pr.ok ([] : List Bool)).bind fun ys => Pr.ok (y :: ys)) = _
    rw [numO]
    rfl
  have this : Pr.lcM [da o1, da o2] (fun (x7 : Da) => (Pr.ok true)) (fun (x7 : Da) => (t_is_number x7)) = Pr.ok [o1.isSome, o2.isSome] := by
    show ((t_is_number (da o1)).bind fun y => (Pr.lcM [da o2] (fun (x7 : Da) => (Pr.ok true)) (fun (x7 : Da) => (t_is_number x7))).bind fun ys => Pr.ok (y :: ys)) = _
    rw [numO, e2]
    rfl
  rw [this, Pr.ok_bind]
  simp
theorem is_cmd3 (w : Str) (o1 o2 : Option Int) (h : (o1.isSome && o2.isSome) = false) : t_is_command (da (⟨w, o1, o2⟩ : T3o)) = Pr.ok false := by
  unfold t_is_command
  rw [show (da (⟨w, o1, o2⟩ : T3o)) = tupD [da w, da o1, da o2] from rfl, isi_tt, sl_t1]
  simp only [Pr.ok_bind, Bool.not_true, Bool.false_eq_true, if_false, numsO, h, Bool.not_false, if_true]
theorem asc_p {s : Nat} {t : Str} (h : Asc t) {p : List Nat} (hp : p ∈ sp s [] (tl t)) : Asc (SS p) := fun c hc => by
  rcases sp_mem s (tl t) [] p hp c hc with z | z
  · cases z
  · exact h c z
theorem idx3 {α : Type} (a b c : α) : idx [a, b, c] (0 : Int) = Pr.ok a ∧ idx [a, b, c] (1 : Int) = Pr.ok b ∧ idx [a, b, c] (2 : Int) = Pr.ok c :=
  ⟨idx_nat (l := [a, b, c]) (i := 0) (by simp), idx_nat (l := [a, b, c]) (i := 1) (by simp), idx_nat (l := [a, b, c]) (i := 2) (by simp)⟩
theorem readc_t {t : Str} (ha : Asc t) (hl : (tl t).length ≤ 500) : t_read_command t = Pr.ok (fL (tl t)) := by
  unfold t_read_command
  rw [need_T (splok_sp (by omega)), Pr.ok_bind, split_sp]
  unfold fL
  have hlen := fun p hp => sp_len 32 (tl t) [] p hp
  have hasc := fun p (hp : p ∈ sp 32 [] (tl t)) => asc_p ha hp
  revert hlen hasc
  generalize sp 32 [] (tl t) = L
  intro hlen hasc
  by_cases h3 : L.length = 3
  · obtain ⟨w, a, b, rfl⟩ : ∃ w a b, L = [w, a, b] := by
      match L, h3 with
      | [w, a, b], _ => exact ⟨w, a, b, rfl⟩
    obtain ⟨i0, i1, i2⟩ := idx3 (SS w) (SS a) (SS b)
    have la := hlen a (by simp)
    have lb := hlen b (by simp)
    simp only [List.length_nil, Nat.zero_add] at la lb
    have ra := read_t (hasc a (by simp)) (by rw [tl_SS]; omega)
    have rb := read_t (hasc b (by simp)) (by rw [tl_SS]; omega)
    rw [tl_SS] at ra rb
    show (if (!decide ((([SS w, SS a, SS b].length : Nat) : Int) = (3 : Int))) = true then _ else _) = Pr.ok (cmd3 w a b)
    rw [show (!decide ((([SS w, SS a, SS b].length : Nat) : Int) = (3 : Int))) = false from rfl, if_neg (by simp)]
    show (((idx [SS w, SS a, SS b] (0 : Int)).bind _).bind _) = _
    rw [i0, Pr.ok_bind]
    show ((((idx [SS w, SS a, SS b] (1 : Int)).bind _).bind _).bind _) = _
    rw [i1, Pr.ok_bind, ra, Pr.ok_bind]
    show ((((idx [SS w, SS a, SS b] (2 : Int)).bind _).bind _).bind _) = _
    rw [i2, Pr.ok_bind, rb, Pr.ok_bind, Pr.ok_bind]
    unfold cmd3
    cases ea : rnL a with
    | none => rw [is_cmd3 _ _ _ rfl, Pr.ok_bind, if_neg (by simp)]
    | some x =>
      cases eb : rnL b with
      | none => rw [is_cmd3 _ _ _ rfl, Pr.ok_bind, if_neg (by simp)]
      | some y =>
        rw [show (da (⟨SS w, some x, some y⟩ : T3o)) = da (⟨SS w, x, y⟩ : Cmd) from rfl, is_command_d, Pr.ok_bind]
        simp only
        cases cmdB ⟨SS w, x, y⟩ with
        | true => exact cast_ok rfl
        | false => rfl
  · rw [List.length_map, decide_eq_false (by omega), Bool.not_false, if_pos rfl]
    match L, h3 with
    | [], _ => rfl
    | [_], _ => rfl
    | [_, _], _ => rfl
    | [_, _, _], h => exact absurd rfl h
    | _ :: _ :: _ :: _ :: _, _ => rfl
def fstN : List (Option Cmd) → Nat → Option Nat
  | [], _ => none
  | none :: _, k => some k
  | some _ :: r, k => fstN r (k + 1)
theorem fst_none : ∀ (l : List (Option Cmd)) (k : Nat), fstN l k = none → ∃ cs : List Cmd, l = cs.map some
  | [], _, _ => ⟨[], rfl⟩
  | none :: _, _, h => by cases h
  | some c :: r, k, h => by
    obtain ⟨cs, e⟩ := fst_none r (k + 1) h
    exact ⟨c :: cs, by rw [e]; rfl⟩
theorem fst_map : ∀ (cs : List Cmd) (k : Nat), fstN (cs.map some) k = none
  | [], _ => rfl
  | c :: cs, k => fst_map cs (k + 1)
def okW (l : List (Option Cmd)) : Prop := ∀ c, some c ∈ l → Asc c.p1
theorem str_ok {w : Str} (h : Asc w) : PyData.strOk w = true := by
  unfold PyData.strOk
  rw [← Array.all_toList]
  exact List.all_eq_true.mpr fun c hc => decide_eq_true (Nat.lt_trans (h c hc) (by decide))
theorem shaped_w {w : Str} (h : Asc w) : SeqAt.shaped (.str w) = true := by
  unfold SeqAt.shaped
  rw [show (PyData.str w).canLay0 = true from str_ok h]
  rfl
def pyO : Option Cmd → PyData
  | none => .none
  | some c => .tuple [.str c.p1, .int c.p2, .int c.p3]
theorem py_list : ∀ l : List (Option Cmd), toPys (l.map en) = some (l.map pyO)
  | [] => rfl
  | none :: l => by
    have ih := py_list l
    show (match toPy D.non, toPys (l.map en) with
      | some p, some ps => some (p :: ps)
      | _, _ => none) = _
    rw [ih]; rfl
  | some c :: l => by
    have ih := py_list l
    show (match toPy (D.tup [.str c.p1, .int c.p2, .int c.p3]), toPys (l.map en) with
      | some p, some ps => some (p :: ps)
      | _, _ => none) = _
    rw [ih]; rfl
theorem lay_list : ∀ l : List (Option Cmd), okW l → PyData.canLayAll0 (l.map pyO) = true
  | [], _ => rfl
  | none :: l, h => lay_list l fun c hc => h c (by simp [hc])
  | some c :: l, h => by
    show ((PyData.strOk c.p1 && (true && (true && true))) && PyData.canLayAll0 (l.map pyO)) = true
    rw [str_ok (h c (by simp)), lay_list l fun d hd => h d (by simp [hd])]
    rfl
end
section
set_option Elab.async false
set_option linter.all false
set_option maxRecDepth 100000
set_option maxHeartbeats 1000000
theorem depth_list : ∀ l : List (Option Cmd), PyData.depthAll (l.map pyO) ≤ 1
  | [] => by simp [PyData.depthAll]
  | none :: l => by
    have := depth_list l
    show max 0 (PyData.depthAll (l.map pyO)) ≤ 1
    omega
  | some c :: l => by
    have := depth_list l
    show max (max 0 (max 0 (max 0 0)) + 1) (PyData.depthAll (l.map pyO)) ≤ 1
    omega
theorem shaped_list {l : List (Option Cmd)} (h : okW l) : SeqAt.shaped (.list (l.map pyO)) = true := by
  have := depth_list l
  unfold SeqAt.shaped
  rw [show (PyData.list (l.map pyO)).canLay0 = true from lay_list l h]
  exact decide_eq_true (show PyData.depthAll (l.map pyO) + 1 ≤ 64 by omega)
theorem fst_some : ∀ (l : List (Option Cmd)) (k : Nat), fstN l (k + 1) = (fstN l k).map (· + 1)
  | [], _ => rfl
  | none :: _, _ => rfl
  | some _ :: r, k => fst_some r (k + 1)
theorem any_py : ∀ (l : List (Option Cmd)) (k : Nat), anyD (l.map pyO) .none = (fstN l k).isSome
  | [], _ => rfl
  | none :: _, _ => rfl
  | some c :: r, k => by
    show (false || anyD (r.map pyO) .none) = (fstN r (k + 1)).isSome
    rw [Bool.false_or, any_py r (k + 1)]
theorem find_py : ∀ (l : List (Option Cmd)), (l.map pyO).findIdx? (fun z => PyData.eqv z .none) = fstN l 0
  | [] => rfl
  | none :: _ => by rw [List.map_cons, List.findIdx?_cons]; rfl
  | some c :: r => by
    rw [List.map_cons, List.findIdx?_cons, find_py r]
    show (fstN r 0).map (· + 1) = fstN r 1
    rw [fst_some]
theorem pyM_list (l : List (Option Cmd)) (M : Sto) : pyM (en l) M = some (.list (l.map pyO)) := by
  show (toPys (l.map en)).map PyData.list = _
  rw [py_list]
  rfl
theorem in_none {l : List (Option Cmd)} (h : okW l) : op2 (α := (Option Cmd)) (β := (List (Option Cmd))) (γ := Bool) (gIn false) (none : Option Cmd) l = Pr.ok (fstN l 0).isSome := op2_ok fun M => by
  show (inD (en (none : Option Cmd)) (en l) M).map (fun b => (D.bl (if false then !b else b), M)) = _
  rw [inD_of (p := .none) (qs := l.map pyO) rfl (pyM_list l M) (by decide) (shaped_list h), any_py l 0]
  rfl
theorem idx_none {l : List (Option Cmd)} (h : okW l) {k : Nat} (hk : fstN l 0 = some k) {Q : Int → Prop} {E : Exn → Prop} (q : Q (k : Int)) : opL (α := (List (Option Cmd))) (β := (Option Cmd)) (γ := Int) gIdx l (none : Option Cmd) Q E :=
  ⟨(k : Int), fun M => ⟨rfl, by
    show (match pyM (en l) M, pyM (en (none : Option Cmd)) M with
      | some (.list ds), some d => if SeqAt.shaped (.list ds) && SeqAt.shaped d then (ds.findIdx? fun z => PyData.eqv z d).map fun j => (D.int (j : Nat), M) else none
      | _, _ => none) = _
    rw [pyM_list l M, show pyM (en (none : Option Cmd)) M = some .none from rfl]
    simp only [shaped_list h, show SeqAt.shaped PyData.none = true by decide, Bool.and_self, if_true, find_py, hk]
    rfl⟩, q⟩
def exT (k : Nat) : Exn := ⟨"BadText", ["at", "word"], [.int (k : Nat), .str "BadText"]⟩
structure Ln (t : Str) (I : List (List Nat)) (last : List Nat) : Prop where
  sp : sp 10 [] (tl t) = I ++ [last]
  asc : Asc t
  len : (tl t).length ≤ 100000
  ln : ∀ p ∈ I, p.length ≤ 450
theorem Ln.all {t : Str} {I : List (List Nat)} {last : List Nat} (h : Ln t I last) : Txt.split t ("\n" : Str) = I.map SS ++ [SS last] := by
  rw [split_nl, h.sp, List.map_append]; rfl
theorem Ln.cnt {t : Str} {I : List (List Nat)} {last : List Nat} (h : Ln t I last) : I.length ≤ 100000 := by
  have := sp_many 10 (tl t) []
  rw [h.sp, List.length_append, List.length_singleton] at this
  have := h.len
  omega
theorem Ln.ascp {t : Str} {I : List (List Nat)} {last : List Nat} (h : Ln t I last) {p : List Nat} (hp : p ∈ I) : Asc (SS p) := asc_p (s := 10) h.asc (by rw [h.sp]; simp [hp])
theorem fL_word {l : List Nat} (ha : Asc (SS l)) {c : Cmd} (h : fL l = some c) : Asc c.p1 := by
  unfold fL at h
  split at h
  · rename_i w a b e
    unfold cmd3 at h
    split at h
    · split at h
      · cases h
        exact asc_p (s := 32) (t := SS l) ha (by rw [show tl (SS l) = l from rfl, e]; simp)
      · cases h
    · cases h
  · cases h
theorem Ln.okw {t : Str} {I : List (List Nat)} {last : List Nat} (h : Ln t I last) : okW (I.map fL) := fun c hc => by
  obtain ⟨l, hl, e⟩ := List.mem_map.mp hc
  exact fL_word (h.ascp hl) e
theorem Ln.script {t : Str} {I : List (List Nat)} {last : List Nat} (h : Ln t I last) : Pr.lcM (I.map SS) (fun (x2 : Str) => (Pr.ok true)) (fun (x2 : Str) => (t_read_command x2)) = Pr.ok (I.map fL) := by
  have := lcM_ok (c := fun (x2 : Str) => (Pr.ok true)) (g := fun (x2 : Str) => (t_read_command x2)) (cb := fun _ => true) (gv := fun s => fL (tl s)) (I.map SS) (fun x hx => ⟨rfl, by
    obtain ⟨l, hl, rfl⟩ := List.mem_map.mp hx
    exact readc_t (h.ascp hl) (by have := h.ln l hl; rw [tl_SS]; omega)⟩)
  rw [this, filter_T, List.map_map]
  rfl
theorem last_nil {l : List Nat} : (SS l = ("" : Str)) ↔ l = [] := emp_t
theorem cast_cs (cs : List Cmd) : cast (α := (List (Option Cmd))) (β := (List Cmd)) (cs.map some) = Pr.ok cs := cast_ok (by
  show D.lst _ = D.lst _
  rw [List.map_map]
  rfl)
theorem getl {α : Type} (l : List α) (x : α) : (l ++ [x])[(l ++ [x]).length - 1]? = some x := by simp
theorem parse_i {t : Str} {I : List (List Nat)} {cs : List Cmd} (h : Ln t I []) (hc : I.map fL = cs.map some) {Q : List Cmd → Prop} {E : Exn → Prop} (q : Q cs) : t_parse_script t Q E := by
  have hcnt := h.cnt
  have hn : fstN (I.map fL) 0 = none := by rw [hc]; exact fst_map cs 0
  unfold t_parse_script
  rw [need_T (splok_nl (by have := h.len; omega)), h.all, getl, optP_some, Pr.ok_bind, List.dropLast_concat, Pr.ok_bind, need_T (by rw [List.length_map]; omega), h.script, Pr.ok_bind, in_none h.okw, hn]
  show ((Pr.ok false).bind _) Q E
  rw [Pr.ok_bind, if_neg (by simp), decide_eq_true (last_nil.mpr rfl), if_neg (by simp), hc, cast_cs]
  exact q
theorem okI {k : Nat} (h : k ≤ 1000000) : okIntD (en (α := Int) ((k : Nat) : Int)) = true := by
  refine decide_eq_true ?_
  have : (Int.natAbs ((k : Nat) : Int)) = k := by simp
  rw [this]
  exact log_small h
theorem fst_le : ∀ (l : List (Option Cmd)) (k j : Nat), fstN l k = some j → j < k + l.length
  | none :: r, k, j, h => by cases h; simp
  | some c :: r, k, j, h => by
    have := fst_le r (k + 1) j h
    simp
    omega
theorem xparse_i {t : Str} {I : List (List Nat)} {last : List Nat} (h : Ln t I last) {Q : List Cmd → Prop} {E : Exn → Prop} (e1 : ∀ k, fstN (I.map fL) 0 = some k → E (exT k)) (e2 : fstN (I.map fL) 0 = none → last ≠ [] → E (exT I.length)) (q : ∀ cs : List Cmd, I.map fL = cs.map some → last = [] → Q cs) : tx_parse_script t Q E := by
  have hcnt := h.cnt
  unfold tx_parse_script
  rw [need_T (splok_nl (by have := h.len; omega)), h.all, getl, optP_some, Pr.ok_bind, List.dropLast_concat, Pr.ok_bind, need_T (by rw [List.length_map]; omega), h.script, Pr.ok_bind, in_none h.okw]
  cases hn : fstN (I.map fL) 0 with
  | some k =>
    show ((Pr.ok true).bind _) Q E
    rw [Pr.ok_bind, if_pos rfl]
    refine bind_i (idx_none h.okw hn ?_)
    have := fst_le _ _ _ hn
    rw [List.length_map] at this
    exact need_i (okI (by omega)) (e1 k hn)
  | none =>
    show ((Pr.ok false).bind _) Q E
    rw [Pr.ok_bind, if_neg (by simp)]
    by_cases hl : last = []
    · obtain ⟨cs, hc⟩ := fst_none _ _ hn
      rw [decide_eq_true (last_nil.mpr hl), if_neg (by simp), hc, cast_cs]
      exact q cs hc hl
    · rw [decide_eq_false (fun z => hl (last_nil.mp z)), Bool.not_false, if_pos rfl, List.length_map]
      exact need_i (okI (by omega)) (e2 hn hl)
def resD (I : List (List Nat)) (last : List Nat) : Str × Da := match fstN (I.map fL) 0 with
  | some k => ("BadText", da ((k : Nat) : Int))
  | none => if last = [] then ("told", da ((I.map fL).filterMap id)) else ("BadText", da ((I.length : Nat) : Int))
def lnB (lines_3 : List Str) : Int → List Cmd → Pr (FlT (List Cmd) (Str × Da)) := (fun (x12 : Int) (s11 : (List (T3 Str Int Int))) =>
  (((idx lines_3 x12).bind fun (w19 : Str) => Pr.need (splOk w19 (" " : Str)) (Pr.ok (Txt.split w19 (" " : Str)))).bind fun (words_20 : (List Str)) =>
  (((Pr.ok (cutD words_20 (some (1 : Int)) none)).bind fun (l26 : List Str) => Pr.need (l26.length ≤ 16777216) (Pr.lcM l26 (fun (x23 : Str) => (Pr.ok true)) (fun (x23 : Str) => (t__law_plain_number x23)))).bind fun (number_27 : (List (Option Int))) =>
  (if ((!decide (((words_20.length : Nat) : Int) = (3 : Int))) || (if false then !inT (none : (Option Int)) number_27 else inT (none : (Option Int)) number_27)) then (Pr.ok (FlT.rt ((("BadText" : Str), (da (α := Int) x12)) : (Str × Da)))) else
  (((idx words_20 (0 : Int)).bind fun (a34 : Str) => ((idx number_27 (0 : Int)).bind fun (a37 : (Option Int)) => ((idx number_27 (1 : Int)).bind fun (a40 : (Option Int)) => (Pr.ok ((T3.mk a34 a37 a40) : (T3 Str (Option Int) (Option Int))))))).bind fun (comman_43 : (T3 Str (Option Int) (Option Int))) =>
  (((t__law_due_command ([(da (α := (T3 Str (Option Int) (Option Int))) comman_43)] : (List Da))).bind fun (a48 : (Option Int)) => (Pr.ok a48.isSome)).bind fun c => if c then (Pr.ok (FlT.rt ((("BadText" : Str), (da (α := Int) x12)) : (Str × Da)))) else
  ((cast (α := (T3 Str (Option Int) (Option Int))) (β := (T3 Str Int Int)) comman_43).bind fun (a56 : (T3 Str Int Int)) => Pr.need (s11.length < 16777216)
  (Pr.ok (FlT.nx (s11 ++ [a56]))))))))))
theorem castC3 (w : Str) (x y : Int) : cast (α := (T3 Str (Option Int) (Option Int))) (β := (T3 Str Int Int)) ⟨w, some x, some y⟩ = Pr.ok ⟨w, x, y⟩ := cast_ok rfl
theorem due1 {c : Cmd} (h : Asc c.p1) : t__law_due_command [da c] = Pr.ok (if cmdB c then none else some 0) := by
  rw [due_t (l := [da c]) (gs := [some c]) ⟨rfl, trivial⟩ (fun d hd => by simp only [List.mem_singleton, Option.some.injEq] at hd; subst hd; exact shaped_w h) (by simp)]
  show Pr.ok (((if cmdB c then (none : Option Nat) else some 0)).map _) = _
  cases cmdB c <;> rfl
theorem ln_step {ls : List Str} {k : Nat} {l : List Nat} {acc : List Cmd} (hi : idx ls (k : Int) = Pr.ok (SS l)) (ha : Asc (SS l)) (hl : l.length ≤ 450) (hacc : acc.length ≤ 1000000) : lnB ls (k : Int) acc = Pr.ok (match fL l with
    | some c => FlT.nx (acc ++ [c])
    | none => FlT.rt (("BadText" : Str), da (α := Int) (k : Int))) := by
  have hw := fun c (h : fL l = some c) => fL_word ha h
  unfold lnB
  rw [hi, Pr.ok_bind, need_T (splok_sp (by rw [tl_SS]; omega)), Pr.ok_bind, split_sp, tl_SS]
  unfold fL at hw ⊢
  have hlen := fun p hp => sp_len 32 l [] p hp
  have hmany := sp_many 32 l []
  have hasc := fun p (hp : p ∈ sp 32 [] l) => asc_p (t := SS l) (s := 32) ha hp
  revert hw hlen hasc hmany
  generalize sp 32 [] l = L
  intro hw hlen hmany hasc
  have hnum : Pr.lcM ((L.map SS).drop 1) (fun (x23 : Str) => (Pr.ok true)) (fun (x23 : Str) => (t__law_plain_number x23)) = Pr.ok ((L.drop 1).map rnL) := by
    have := lcM_ok (c := fun (x23 : Str) => (Pr.ok true)) (g := fun (x23 : Str) => (t__law_plain_number x23)) (cb := fun _ => true) (gv := fun s => rnL (tl s)) ((L.map SS).drop 1) (fun x hx => ⟨rfl, by
      obtain ⟨p, hp, rfl⟩ := List.mem_map.mp (List.mem_of_mem_drop hx)
      exact plain_t (by have := hlen p hp; simp at this; rw [tl_SS]; omega)⟩)
    rw [this, filter_T, ← List.map_drop, List.map_map]
    rfl
  have hcut : cutD (L.map SS) (some (1 : Int)) none = (L.map SS).drop 1 := cut_drop' _ _ (by omega)
  rw [hcut, Pr.ok_bind, need_T (by rw [List.length_drop, List.length_map]; omega), hnum, Pr.ok_bind]
  by_cases h3 : L.length = 3
  · obtain ⟨w, a, b, rfl⟩ : ∃ w a b, L = [w, a, b] := by
      match L, h3 with
      | [w, a, b], _ => exact ⟨w, a, b, rfl⟩
    obtain ⟨i0, _, _⟩ := idx3 (SS w) (SS a) (SS b)
    rw [show (List.drop 1 [w, a, b]).map rnL = [rnL a, rnL b] from rfl]
    have j0 : idx [rnL a, rnL b] (0 : Int) = Pr.ok (rnL a) := idx_nat (l := [rnL a, rnL b]) (i := 0) (by simp)
    have j1 : idx [rnL a, rnL b] (1 : Int) = Pr.ok (rnL b) := idx_nat (l := [rnL a, rnL b]) (i := 1) (by simp)
    show (if ((!decide ((([SS w, SS a, SS b].length : Nat) : Int) = (3 : Int))) || inT (none : (Option Int)) [rnL a, rnL b]) = true then _ else _) = Pr.ok (match cmd3 w a b with
      | some c => _
      | none => _)
    rw [show (!decide ((([SS w, SS a, SS b].length : Nat) : Int) = (3 : Int))) = false from rfl, Bool.false_or]
    have hw' : ∀ c, cmd3 w a b = some c → Asc c.p1 := hw
    unfold cmd3 at hw' ⊢
    cases ea : rnL a with
    | none => rw [show inT (none : Option Int) [none, rnL b] = true from decide_eq_true (by simp), if_pos rfl]
    | some x =>
      cases eb : rnL b with
      | none => rw [show inT (none : Option Int) [some x, none] = true from decide_eq_true (by simp), if_pos rfl]
      | some y =>
        rw [ea, eb] at j0 j1
        rw [show inT (none : Option Int) [some x, some y] = false from decide_eq_false (by simp), if_neg (by simp)]
        show (((idx [SS w, SS a, SS b] (0 : Int)).bind _).bind _) = _
        rw [i0, Pr.ok_bind]
        rw [j0, Pr.ok_bind, j1, Pr.ok_bind, Pr.ok_bind]
        rw [show ([(da (α := (T3 Str (Option Int) (Option Int))) ⟨SS w, some x, some y⟩)] : List Da) = [da (⟨SS w, x, y⟩ : Cmd)] from rfl, due1 (c := ⟨SS w, x, y⟩) (hasc w (by simp)), Pr.ok_bind, Pr.ok_bind]
        simp only
        cases hc : cmdB ⟨SS w, x, y⟩ with
        | true =>
          simp only [if_true, Option.isSome_none, Bool.false_eq_true, if_false]
          rw [castC3, Pr.ok_bind, need_T (by omega)]
        | false => rfl
  · rw [List.length_map, decide_eq_false (by omega), Bool.not_false, Bool.true_or, if_pos rfl]
    match L, h3 with
    | [], _ => rfl
    | [_], _ => rfl
    | [_, _], _ => rfl
    | [_, _, _], h => exact absurd rfl h
    | _ :: _ :: _ :: _ :: _, _ => rfl
theorem ln_loop {ls : List Str} : ∀ (r : List (List Nat)) (k : Nat) (acc : List Cmd), (ls.drop k).take r.length = r.map SS → k + r.length ≤ ls.length → (∀ p ∈ r, Asc (SS p) ∧ p.length ≤ 450) → acc.length + r.length ≤ 1000000 →
    Pr.forF (ρ := (Str × Da)) (rngI (k : Int) r.length) acc (lnB ls) = Pr.ok (match fstN (r.map fL) k with
      | some j => FlT.rt (("BadText" : Str), da (α := Int) ((j : Nat) : Int))
      | none => FlT.nx (acc ++ (r.map fL).filterMap id))
  | [], k, acc, _, _, _, _ => by
    show Pr.ok (FlT.nx acc) = _
    simp [fstN]
  | p :: r, k, acc, hd, hk, hp, hacc => by
    simp only [List.length_cons] at hk hacc hd
    have hlt : k < ls.length := by omega
    have e0 := List.drop_eq_getElem_cons hlt
    rw [e0, List.take_succ_cons, List.map_cons] at hd
    obtain ⟨e1, e2⟩ := List.cons.inj hd
    have hi : idx ls (k : Int) = Pr.ok (SS p) := by rw [idx_nat hlt, e1]
    rw [show (p :: r).length = r.length + 1 from rfl, rngI_cons]
    show ((lnB ls (k : Int) acc).bind _) = _
    rw [ln_step hi (hp p (by simp)).1 (hp p (by simp)).2 (by omega), Pr.ok_bind]
    have ih := fun acc' h => ln_loop r (k + 1) acc' e2 (by omega) (fun q hq => hp q (by simp [hq])) h
    rw [List.map_cons]
    cases ef : fL p with
    | none => rfl
    | some c =>
      show Pr.forF (rngI ((k : Int) + 1) r.length) (acc ++ [c]) (lnB ls) = _
      rw [show ((k : Int) + 1) = ((k + 1 : Nat) : Int) by omega, ih (acc ++ [c]) (by simp; omega)]
      show _ = Pr.ok (match fstN (r.map fL) (k + 1) with
        | some j => _
        | none => _)
      cases fstN (r.map fL) (k + 1) with
      | some j => rfl
      | none => simp
theorem lines_t {t : Str} {I : List (List Nat)} {last : List Nat} (h : Ln t I last) : t__law_lines_due t = Pr.ok (resD I last) := by
  have hcnt := h.cnt
  unfold t__law_lines_due
  rw [need_T (splok_nl (by have := h.len; omega)), Pr.ok_bind, h.all]
  have el : ((((I.map SS ++ [SS last]).length : Nat) : Int) - 1) = ((I.length : Nat) : Int) := by simp
  rw [el, need_T (sm_of (by omega) (by omega)), Pr.ok_bind, show Int.toNat ((I.length : Nat) : Int) = I.length by omega]
  show (Pr.flow (Pr.forF (ρ := (Str × Da)) (rngI ((0 : Nat) : Int) I.length) ([] : List Cmd) (lnB (I.map SS ++ [SS last]))) _ _) = _
  rw [ln_loop I 0 [] (by rw [List.drop_zero, List.take_left' (by simp)]) (by simp) (fun p hp => ⟨h.ascp hp, h.ln p hp⟩) (by simp; omega)]
  unfold resD
  cases fstN (I.map fL) 0 with
  | some j => rfl
  | none =>
    show (((idx (I.map SS ++ [SS last]) (-(1 : Int))).bind _).bind _) = _
    rw [idx_last, Pr.ok_bind, Pr.ok_bind]
    by_cases hl : last = []
    · rw [decide_eq_true (last_nil.mpr hl), if_pos rfl, if_pos hl]
      rfl
    · rw [decide_eq_false (fun z => hl (last_nil.mp z)), if_neg (by simp), if_neg hl]
end
section
set_option Elab.async false
set_option linter.all false
set_option maxRecDepth 100000
set_option maxHeartbeats 1000000
abbrev numL (n : Nat) : List Nat := _root_.TL.numL n
theorem add_t {a b : Str} (h : (tl a).length + (tl b).length ≤ 16777216) : op2 (α := Str) (β := Str) (γ := Str) gAdd a b = Pr.ok (a ++ b) := op2_ok fun M => by
  have h' : a.length + b.length ≤ 16777216 := by rw [len_t, len_t]; exact h
  show orG (gStr fun s t => s ++ t) (orG gCat gCatT) (.str a) (.str b) M = _
  simp [orG, gStr, h']
  rfl
theorem tl_add (a b : Str) : tl (a ++ b) = tl a ++ tl b := _root_.TL.tl_append a b
theorem tl_emp : tl (Str.empty) = [] := rfl
theorem tl_sp : tl (" " : Str) = [32] := by decide +kernel
theorem tl_nl : tl ("\n" : Str) = [10] := by decide +kernel
theorem tl_strI {i : Int} (h : 0 ≤ i) : tl (strI i) = numL i.toNat := by
  obtain ⟨n, rfl⟩ : ∃ n : Nat, i = n := ⟨i.toNat, by omega⟩
  rw [Int.toNat_natCast]
  exact _root_.TL.tl_num n
def body (c : Cmd) : List Nat := tl c.p1 ++ 32 :: (numL c.p2.toNat ++ 32 :: numL c.p3.toNat)
def lineS (c : Cmd) : Str := (((((Str.empty ++ c.p1) ++ (" " : Str)) ++ strI c.p2) ++ (" " : Str)) ++ strI c.p3) ++ ("\n" : Str)
structure GoodC (c : Cmd) : Prop where
  ok : cmdB c = true
  w : c.p1 = "insert" ∨ c.p1 = "delete"
  a : 0 ≤ c.p2
  a' : c.p2 < 1000000000000000000
  b : 0 ≤ c.p3
  b' : c.p3 < 1000000000000000000
theorem tl_line {c : Cmd} (h : GoodC c) : tl (lineS c) = body c ++ [10] := by
  unfold lineS body
  simp only [tl_add, tl_emp, tl_sp, tl_nl, tl_strI h.a, tl_strI h.b]
  simp
theorem num_len {i : Int} (h0 : 0 ≤ i) (h : i < 1000000000000000000) : (numL i.toNat).length ≤ 18 := _root_.TL.numL_len (by decide) (by
  have : (10 : Nat) ^ 18 = 1000000000000000000 := by decide
  omega)
theorem w_facts {w : Str} (h : w = "insert" ∨ w = "delete") : (tl w).length = 6 ∧ 32 ∉ tl w ∧ 10 ∉ tl w ∧ Asc w := by
  rcases h with rfl | rfl
  · exact ⟨by decide +kernel, by decide +kernel, by decide +kernel, by
      have : (tl ("insert" : Str)).all (fun c => decide (c < 128)) = true := by decide +kernel
      exact fun c hc => of_decide_eq_true (List.all_eq_true.mp this c hc)⟩
  · exact ⟨by decide +kernel, by decide +kernel, by decide +kernel, by
      have : (tl ("delete" : Str)).all (fun c => decide (c < 128)) = true := by decide +kernel
      exact fun c hc => of_decide_eq_true (List.all_eq_true.mp this c hc)⟩
theorem body_len {c : Cmd} (h : GoodC c) : (body c).length ≤ 44 := by
  unfold body
  have := (w_facts h.w).1
  have := num_len h.a h.a'
  have := num_len h.b h.b'
  simp only [List.length_append, List.length_cons]
  omega
theorem num_dig {n c : Nat} (h : c ∈ numL n) : 48 ≤ c ∧ c ≤ 57 := _root_.TL.numL_digits n c h
theorem body_nl {c : Cmd} (h : GoodC c) : 10 ∉ body c := by
  unfold body
  simp only [List.mem_append, List.mem_cons]
  rintro (z | z | z | z | z)
  · exact (w_facts h.w).2.2.1 z
  · cases z
  · have := num_dig z; omega
  · cases z
  · have := num_dig z; omega
theorem body_asc {c : Cmd} (h : GoodC c) : ∀ d ∈ body c, d < 128 := by
  unfold body
  simp only [List.mem_append, List.mem_cons]
  rintro d (z | z | z | z | z)
  · exact (w_facts h.w).2.2.2 d z
  · omega
  · have := num_dig z; omega
  · omega
  · have := num_dig z; omega
theorem num_head : ∀ n : Nat, 1 ≤ n → ∃ c l, numL n = c :: l ∧ c ≠ 48 := by
  intro n
  induction n using Nat.strongRecOn with
  | _ n ih =>
    intro h
    by_cases h10 : n < 10
    · exact ⟨48 + n, [], _root_.TL.numL_lt h10, by omega⟩
    · obtain ⟨c, l, e, hc⟩ := ih (n / 10) (by omega) (by omega)
      refine ⟨c, l ++ [48 + n % 10], ?_, hc⟩
      rw [show numL n = numL (n / 10) ++ [48 + n % 10] from _root_.TL.numL_step (by omega), e]
      rfl
theorem rn_num {i : Int} (h0 : 0 ≤ i) (h : i < 1000000000000000000) : rnL (numL i.toNat) = some i := by
  unfold rnL
  have hd : DigsL (numL i.toNat) = true := by
    unfold DigsL
    rw [Bool.and_eq_true]
    refine ⟨?_, List.all_eq_true.mpr fun c hc => by have := num_dig hc; simp [this.1, this.2]⟩
    cases e : numL i.toNat with
    | nil => exact absurd e (_root_.TL.numL_ne _)
    | cons c l => rfl
  have hx : ¬ ((numL i.toNat).head? = some 48 ∧ 1 < (numL i.toNat).length) := by
    rintro ⟨z1, z2⟩
    by_cases hz : i.toNat = 0
    · rw [hz] at z2
      have : (numL 0).length = 1 := by decide
      omega
    · obtain ⟨c, l, e, hc⟩ := num_head i.toNat (by omega)
      rw [e] at z1
      exact hc (Option.some.inj z1)
  rw [if_pos ⟨hd, num_len h0 h, hx⟩, show NumText.digitsVal (numL i.toNat) = i.toNat from _root_.TL.numL_val _]
  congr 1
  omega
theorem fL_body {c : Cmd} (h : GoodC c) : fL (body c) = some c := by
  have n32 : ∀ n : Nat, 32 ∉ numL n := fun n z => by have := num_dig z; omega
  unfold fL body
  rw [sp_app 32 _ _ [] (w_facts h.w).2.1, sp_app 32 _ _ [] (n32 _), sp_end 32 _ [] (n32 _)]
  simp only [List.nil_append]
  unfold cmd3
  rw [rn_num h.a h.a', rn_num h.b h.b']
  simp only
  rw [SS_tl]
  have : (⟨c.p1, c.p2, c.p3⟩ : Cmd) = c := rfl
  rw [this, h.ok]
  try rfl
def Tx (cs : List Cmd) : List Nat := (cs.map fun c => body c ++ [10]).flatten
theorem Tx_cons (c : Cmd) (cs : List Cmd) : Tx (c :: cs) = body c ++ 10 :: Tx cs := by
  unfold Tx
  simp
theorem sp_Tx : ∀ {cs : List Cmd}, (∀ c ∈ cs, GoodC c) → sp 10 [] (Tx cs) = cs.map body ++ [[]]
  | [], _ => rfl
  | c :: cs, h => by
    rw [Tx_cons, sp_app 10 _ _ [] (body_nl (h c (by simp))), sp_Tx fun d hd => h d (by simp [hd])]
    rfl
theorem Tx_len : ∀ {cs : List Cmd}, (∀ c ∈ cs, GoodC c) → (Tx cs).length ≤ 45 * cs.length
  | [], _ => by simp [Tx]
  | c :: cs, h => by
    have h1 := body_len (h c (by simp))
    have h2 := Tx_len (cs := cs) fun d hd => h d (by simp [hd])
    rw [Tx_cons]
    simp only [List.length_append, List.length_cons]
    omega
theorem Tx_asc : ∀ {cs : List Cmd}, (∀ c ∈ cs, GoodC c) → Asc (SS (Tx cs))
  | [], _ => fun c hc => by cases hc
  | c :: cs, h => by
    have h2 := Tx_asc (cs := cs) fun d hd => h d (by simp [hd])
    intro d hd
    have hd : d ∈ Tx (c :: cs) := hd
    rw [Tx_cons] at hd
    rcases List.mem_append.mp hd with z | z
    · exact body_asc (h c (by simp)) d z
    · rcases List.mem_cons.mp z with z | z
      · omega
      · exact h2 d z
theorem ln_Tx {cs : List Cmd} (h : ∀ c ∈ cs, GoodC c) (hn : cs.length ≤ 1000) : Ln (SS (Tx cs)) (cs.map body) [] :=
  ⟨sp_Tx h, Tx_asc h, by have := Tx_len h; rw [tl_SS]; omega, fun p hp => by
    obtain ⟨c, hc, rfl⟩ := List.mem_map.mp hp
    have := body_len (h c hc)
    omega⟩
theorem fL_all {cs : List Cmd} (h : ∀ c ∈ cs, GoodC c) : (cs.map body).map fL = cs.map some := by
  rw [List.map_map]
  exact List.map_congr_left fun c hc => fL_body (h c hc)
theorem forM_all {α : Type} {b : α → Unit → Pr Unit} : ∀ (l : List α), (∀ x ∈ l, b x () = Pr.ok ()) → Pr.forM l () b = Pr.ok ()
  | [], _ => rfl
  | x :: l, h => by
    show ((b x ()).bind _) = _
    rw [h x (by simp), Pr.ok_bind]
    exact forM_all l fun y hy => h y (by simp [hy])
theorem enumI_m {α : Type} : ∀ {l : List α} {k : Nat} {x : Int × α}, x ∈ enumI k l → x.2 ∈ l
  | y :: l, k, x, h => by
    rcases List.mem_cons.mp h with h | h
    · rw [h]; simp
    · exact List.mem_cons_of_mem _ (enumI_m h)
theorem check_ok {cs : List Cmd} (h : ∀ c ∈ cs, GoodC c) (hn : cs.length ≤ 1000) : t_check_script cs = Pr.ok () := by
  unfold t_check_script
  rw [lim_ok (by omega), Pr.ok_bind, Pr.ok_bind, forM_all (enumI 0 cs) (fun x hx => by
    rw [is_command_d, (h x.2 (enumI_m hx)).ok, Pr.ok_bind, Pr.ok_bind]
    rfl)]
  rfl
theorem log_i {i : Int} (h0 : 0 ≤ i) (h : i < 1000000000000000000) : i.natAbs.log2 < 1920 := by
  by_cases z : i.natAbs = 0
  · rw [z]; decide
  · have : i.natAbs < 2 ^ 60 := by omega
    have := (Nat.log2_lt z).mpr this
    omega
theorem line_t {c : Cmd} (h : GoodC c) : ((Pr.ok c.p1).bind fun (i9 : Str) => Pr.need (i9.length ≤ 16777216 ∧ (Str.empty ++ i9).length ≤ 16777216) (Pr.need (((Str.empty ++ i9) ++ (" " : Str)).length ≤ 16777216) ((Pr.ok c.p2).bind fun (i10 : Int) => Pr.need (i10.natAbs.log2 < 1920 ∧ (((Str.empty ++ i9) ++ (" " : Str)) ++ strI i10).length ≤ 16777216) (Pr.need (((((Str.empty ++ i9) ++ (" " : Str)) ++ strI i10) ++ (" " : Str)).length ≤ 16777216) ((Pr.ok c.p3).bind fun (i11 : Int) => Pr.need (i11.natAbs.log2 < 1920 ∧ (((((Str.empty ++ i9) ++ (" " : Str)) ++ strI i10) ++ (" " : Str)) ++ strI i11).length ≤ 16777216) (Pr.need (((((((Str.empty ++ i9) ++ (" " : Str)) ++ strI i10) ++ (" " : Str)) ++ strI i11) ++ ("\n" : Str)).length ≤ 16777216) (Pr.ok ((((((Str.empty ++ i9) ++ (" " : Str)) ++ strI i10) ++ (" " : Str)) ++ strI i11) ++ ("\n" : Str))))))))) = Pr.ok (lineS c) := by
  have h1 := (w_facts h.w).1
  have h2 := num_len h.a h.a'
  have h3 := num_len h.b h.b'
  simp only [Pr.ok_bind]
  rw [need_T, need_T, need_T, need_T, need_T, need_T]
  · rfl
  all_goals simp only [len_t, tl_add, tl_emp, tl_sp, tl_nl, tl_strI h.a, tl_strI h.b, List.length_append, List.length_nil, List.length_cons]
  · omega
  · exact ⟨log_i h.b h.b', by omega⟩
  · omega
  · exact ⟨log_i h.a h.a', by omega⟩
  · omega
  · exact ⟨by omega, by omega⟩
theorem joinL_nil : ∀ l : List (List Nat), _root_.TL.joinL [] l = l.flatten
  | [] => rfl
  | [p] => by simp [_root_.TL.joinL]
  | p :: q :: r => by
    show p ++ ([] ++ _root_.TL.joinL [] (q :: r)) = _
    rw [joinL_nil (q :: r)]
    simp
theorem join_t {cs : List Cmd} (h : ∀ c ∈ cs, GoodC c) : Txt.join ("" : Str) (cs.map lineS) = SS (Tx cs) := by
  refine _root_.TL.ext_tl ?_
  rw [_root_.TL.join_eq, _root_.TL.tl_join, show _root_.TL.tl ("" : Str) = [] from rfl, joinL_nil, List.map_map]
  show _ = Tx cs
  unfold Tx
  congr 1
  exact List.map_congr_left fun c hc => tl_line (h c hc)
theorem sum_len : ∀ {cs : List Cmd}, (∀ c ∈ cs, GoodC c) → ((cs.map lineS).map (·.length)).sum ≤ 45 * cs.length
  | [], _ => by simp
  | c :: cs, h => by
    have h1 := body_len (h c (by simp))
    have h2 := sum_len (cs := cs) fun d hd => h d (by simp [hd])
    simp only [List.map_cons, List.sum_cons, List.length_cons]
    rw [len_t, tl_line (h c (by simp)), List.length_append, List.length_singleton]
    omega
theorem text_t {cs : List Cmd} (h : ∀ c ∈ cs, GoodC c) (hn : cs.length ≤ 1000) : t_script_text cs = Pr.ok (SS (Tx cs)) := by
  unfold t_script_text
  rw [check_ok h hn, Pr.ok_bind, need_T (by omega)]
  rw [lcM_ok (cb := fun _ => true) (gv := lineS) cs (fun x hx => ⟨rfl, line_t (h x hx)⟩), filter_T, Pr.ok_bind, need_T (by
    unfold joiOk
    have := sum_len h
    rw [show ("" : Str).length = 0 from rfl]
    omega), join_t h]
def stS : Cmd → Str → Pr Str := (fun (x47 : (T3 Str Int Int)) (s46 : Str) =>
  (((((((op2 (α := Str) (β := Str) (γ := Str) gAdd s46 x47.p1).bind fun (a53 : Str) => (op2 (α := Str) (β := Str) (γ := Str) gAdd a53 (" " : Str))).bind fun (a57 : Str) => (Pr.need (x47.p2.natAbs.log2 < 1920) (Pr.ok (strI x47.p2))).bind fun (b58 : Str) => (op2 (α := Str) (β := Str) (γ := Str) gAdd a57 b58)).bind fun (a59 : Str) => (op2 (α := Str) (β := Str) (γ := Str) gAdd a59 (" " : Str))).bind fun (a63 : Str) => (Pr.need (x47.p3.natAbs.log2 < 1920) (Pr.ok (strI x47.p3))).bind fun (b64 : Str) => (op2 (α := Str) (β := Str) (γ := Str) gAdd a63 b64)).bind fun (a65 : Str) => (op2 (α := Str) (β := Str) (γ := Str) gAdd a65 ("\n" : Str))).bind fun (text_67 : Str) =>
  (Pr.ok text_67)))
theorem st_step {c : Cmd} (h : GoodC c) {s : Str} (hl : (tl s).length ≤ 10000) : stS c s = Pr.ok (SS (tl s ++ (body c ++ [10]))) := by
  have h1 := (w_facts h.w).1
  have h2 := num_len h.a h.a'
  have h3 := num_len h.b h.b'
  have e : ((((((s ++ c.p1) ++ (" " : Str)) ++ strI c.p2) ++ (" " : Str)) ++ strI c.p3) ++ ("\n" : Str)) = SS (tl s ++ (body c ++ [10])) := by
    refine _root_.TL.ext_tl ?_
    show tl _ = tl s ++ (body c ++ [10])
    unfold body
    simp only [tl_add, tl_sp, tl_nl, tl_strI h.a, tl_strI h.b]
    simp
  unfold stS
  rw [add_t, Pr.ok_bind, add_t, Pr.ok_bind, need_T (log_i h.a h.a'), Pr.ok_bind, add_t, Pr.ok_bind, add_t, Pr.ok_bind, need_T (log_i h.b h.b'), Pr.ok_bind, add_t, Pr.ok_bind, add_t, Pr.ok_bind, e]
  all_goals try simp only [tl_add, tl_sp, tl_nl, tl_strI h.a, tl_strI h.b, List.length_append, List.length_cons, List.length_nil]
  all_goals omega
theorem st_loop : ∀ {cs : List Cmd} {s : Str}, (∀ c ∈ cs, GoodC c) → (tl s).length + 45 * cs.length ≤ 10000 → Pr.forM cs s stS = Pr.ok (SS (tl s ++ Tx cs))
  | [], s, _, _ => by
    show Pr.ok s = _
    unfold Tx
    rw [List.map_nil, List.flatten_nil, List.append_nil, SS_tl]
  | c :: cs, s, h, hl => by
    have h1 := body_len (h c (by simp))
    simp only [List.length_cons] at hl
    show ((stS c s).bind _) = _
    rw [st_step (h c (by simp)) (by omega), Pr.ok_bind]
    have := st_loop (cs := cs) (s := SS (tl s ++ (body c ++ [10]))) (fun d hd => h d (by simp [hd])) (by rw [tl_SS]; simp only [List.length_append, List.length_singleton]; omega)
    refine this.trans ?_
    rw [tl_SS, Tx_cons]
    simp
end
section
set_option Elab.async false
set_option linter.all false
set_option maxRecDepth 100000
set_option maxHeartbeats 1000000
theorem ok_app_h {α : Type} (a : α) (Q : α → Prop) (E : Exn → Prop) : (Pr.ok a) Q E = Q a := rfl
theorem castDa {α : Type} [Enc α] (a : α) : cast (α := α) (β := Da) a = Pr.ok (da a) := cast_ok rfl
def signsB : List Str := [("" : Str), (" " : Str), ("\n" : Str), ("0" : Str), ("1" : Str), ("-" : Str), ("i" : Str), ("insert 1 2\n" : Str), ("delete 2 1\n" : Str), ("+" : Str)]
theorem sign_f : ∀ s ∈ signsB, Asc s ∧ (tl s).length ≤ 11 := by
  have h : (signsB.all fun s => (tl s).all (fun c => decide (c < 128)) && decide ((tl s).length ≤ 11)) = true := by decide +kernel
  intro s hs
  have := List.all_eq_true.mp h s hs
  rw [Bool.and_eq_true] at this
  exact ⟨fun c hc => of_decide_eq_true (List.all_eq_true.mp this.1 c hc), of_decide_eq_true this.2⟩
theorem cut_hi (t : Str) (a : Nat) : (∀ c ∈ tl (cutS t none (some (a : Int))), c ∈ tl t) ∧ (tl (cutS t none (some (a : Int)))).length ≤ min a (tl t).length := by
  have e : tl (cutS t none (some (a : Int))) = ((tl t).drop 0).take (HT.sIx t.length t.length (some (a : Int)) - 0) := rfl
  rw [HT.sIx_nat, List.drop_zero, Nat.sub_zero, len_t] at e
  rw [e]
  exact ⟨fun c hc => List.mem_of_mem_take hc, by rw [List.length_take]; omega⟩
theorem cut_lo (t : Str) (a : Nat) : (∀ c ∈ tl (cutS t (some (a : Int)) none), c ∈ tl t) ∧ (tl (cutS t (some (a : Int)) none)).length ≤ (tl t).length - min a (tl t).length := by
  have e : tl (cutS t (some (a : Int)) none) = ((tl t).drop (HT.sIx t.length 0 (some (a : Int)))).take (t.length - HT.sIx t.length 0 (some (a : Int))) := rfl
  rw [HT.sIx_nat, len_t] at e
  rw [e]
  exact ⟨fun c hc => List.mem_of_mem_drop (List.mem_of_mem_take hc), by rw [List.length_take, List.length_drop]; omega⟩
theorem bent_any {t : Str} {n : Nat} (ha : Asc t) (hl : (tl t).length ≤ n) (hn : n ≤ 1000) {Q : Str → Prop} {E : Exn → Prop} (q : ∀ t', Asc t' → (tl t').length ≤ n + 11 → Q t') : t__law_bent_text t signsB Q E := by
  have hlen := len_t t
  unfold t__law_bent_text
  rw [need_T (c := t.length ≤ 16777216) (by omega), Pr.ok_bind, Pr.ok_bind]
  refine bind_i (pull_i (by omega) (by omega) fun v v0 v1 => ?_)
  obtain ⟨a, rfl⟩ : ∃ a : Nat, v = a := ⟨v.toNat, by omega⟩
  obtain ⟨c1, c2⟩ := cut_hi t a
  refine bind_i (pull_i (E := E) (by omega) (by omega) fun w w0 w1 => ?_)
  show (if decide (w = 0) = true then _ else _ : Pr Str) Q E
  by_cases hw : w = 0
  · rw [if_pos (by simpa using hw), need_T (by omega)]
    exact q _ (fun c hc => ha c (c1 c hc)) (by omega)
  · rw [if_neg (by simpa using hw), need_T (by omega), Pr.ok_bind]
    refine bind_i (bind_i (of_i (by simp [signsB]) (by simp [signsB]) fun s hs => ?_))
    obtain ⟨s1, s2⟩ := sign_f s hs
    rw [add_t (by omega)]
    show (((Pr.bind _ _).bind _) : Pr Str) Q E
    refine bind_i (bind_i (bind_i (bind_i (pull_i (by omega) (by omega) fun u u0 u1 => ?_))))
    obtain ⟨b, rfl⟩ : ∃ b : Nat, u = b := ⟨u.toNat, by omega⟩
    show (Pr.need (t.length ≤ 16777216) (Pr.ok (cutS t (some ((a : Int) + (b : Int))) none))) _ E
    rw [show ((a : Int) + (b : Int)) = ((a + b : Nat) : Int) by omega]
    obtain ⟨d1, d2⟩ := cut_lo t (a + b)
    refine need_i (by omega) ?_
    show (op2 (α := Str) (β := Str) (γ := Str) gAdd (cutS t none (some (a : Int)) ++ s) (cutS t (some ((a + b : Nat) : Int)) none)) Q E
    rw [add_t (by rw [tl_add, List.length_append]; omega)]
    refine q _ (fun c hc => ?_) ?_
    · rw [tl_add, tl_add] at hc
      rcases List.mem_append.mp hc with z | z
      · rcases List.mem_append.mp z with z | z
        · exact ha c (c1 c z)
        · exact s1 c z
      · exact ha c (d1 c z)
    · rw [tl_add, tl_add, List.length_append, List.length_append]
      omega
theorem forM_k {α σ : Type} {b : α → σ → Pr σ} {E : Exn → Prop} (I : Nat → σ → Prop) : ∀ (l : List α) (n : Nat) (s : σ) (Q : σ → Prop), (∀ x k s (Q : σ → Prop), n ≤ k → k < n + l.length → I k s → (∀ s', I (k + 1) s' → Q s') → b x s Q E) → I n s → (∀ s', I (n + l.length) s' → Q s') → Pr.forM l s b Q E
  | [], n, s, Q, _, h, q => q s (by simpa using h)
  | x :: l, n, s, Q, hb, h, q => by
    simp only [List.length_cons] at hb q
    refine hb x n s _ (by omega) (by omega) h fun s' h' => ?_
    exact forM_k I l (n + 1) s' Q (fun x k s Q h1 h2 => hb x k s Q (by omega) (by omega)) h' fun s'' h'' => q s'' (by rw [show n + (l.length + 1) = n + 1 + l.length by omega]; exact h'')
theorem ln_any {t : Str} (ha : Asc t) (hl : (tl t).length ≤ 450) : ∃ I last, Ln t I last := by
  rcases List.eq_nil_or_concat (sp 10 [] (tl t)) with z | ⟨I, last, z⟩
  · exact absurd z (sp_ne 10 _ _)
  · rw [List.concat_eq_append] at z
    refine ⟨I, last, z, ha, by omega, fun p hp => ?_⟩
    have := sp_len 10 (tl t) [] p (by rw [z]; simp [hp])
    simp only [List.length_nil, Nat.zero_add] at this
    omega
theorem told_parse {t : Str} {I : List (List Nat)} {last : List Nat} (h : Ln t I last) {Q : Str × Da → Prop} {E : Exn → Prop} (q : Q (resD I last)) : Pr.told (α := (List (T3 Str Int Int))) ["BadText", "BadCommand"] (tx_parse_script t) Q E := by
  refine xparse_i h (fun k hk => ?_) (fun hk hl => ?_) fun cs hc hl => ?_
  · unfold resD at q
    rw [hk] at q
    exact ⟨by simp [exT], "BadText", da ((k : Nat) : Int), rfl, rfl, q⟩
  · unfold resD at q
    rw [hk] at q
    simp only [if_neg hl] at q
    exact ⟨by simp [exT], "BadText", da ((I.length : Nat) : Int), rfl, rfl, q⟩
  · unfold resD at q
    rw [hc, fst_map] at q
    simp only [if_pos hl] at q
    have e : (cs.map some).filterMap id = cs := by
      rw [List.filterMap_map]
      exact List.filterMap_some ..
    rw [e] at q
    exact q
theorem lk_cmds (k : Nat) : ∀ cs : List Cmd, lkDs (k + 2) (cs.map en) = true
  | [] => by unfold lkDs; rfl
  | c :: cs => by
    have ih := lk_cmds k cs
    rw [List.map_cons]
    unfold lkDs
    rw [ih, Bool.and_true]
    show lkD (k + 2) (.tup [.str c.p1, .int c.p2, .int c.p3]) = true
    simp [lkD, lkDs]
theorem lk_cs (k : Nat) {cs : List Cmd} (h : cs.length ≤ 1000) : lkD (k + 3) (en cs) = true := by
  show lkD (k + 3) (.lst (cs.map en)) = true
  have := lk_cmds k cs
  simp only [lkD, Bool.and_eq_true, decide_eq_true_eq, List.length_map]
  exact ⟨h, this⟩
theorem lk_res {t : Str} {I : List (List Nat)} {last : List Nat} (h : Ln t I last) (hn : I.length ≤ 1000) : lkD 4 (en (resD I last)) = true := by
  have hb : ∀ i : Int, lkD 4 (en ((("BadText" : Str), da i) : Str × Da)) = true := fun i => by
    show lkD 4 (.tup [.str "BadText", .int i]) = true
    simp [lkD, lkDs]
  unfold resD
  split
  · exact hb _
  · split
    · have h3 := lk_cs 0 (cs := (I.map fL).filterMap id) (by
        have := List.length_filterMap_le id (I.map fL)
        rw [List.length_map] at this
        omega)
      show lkD 4 (.tup [.str "told", en ((I.map fL).filterMap id)]) = true
      simp only [lkD, lkDs, Bool.and_true, Bool.true_and, Bool.and_eq_true, decide_eq_true_eq]
      exact ⟨by simp, h3⟩
    · exact hb _
def OddD (d : Da) : Prop := (∃ c : Cmd, d = da c ∧ SeqAt.shaped (.str c.p1) = true ∧ cmdB c = false) ∨ d ∈ oddC
theorem odd_i {Q : Da → Prop} {E : Exn → Prop} (q : ∀ d, OddD d → Q d) : t__law_odd_command Q E := by
  unfold t__law_odd_command
  refine need_i (by simp) (need_i (by simp) (of_i (by simp) (by simp) fun d hd => q d ?_))
  simp only [List.mem_append, List.mem_cons, List.not_mem_nil, or_false] at hd
  rcases hd with ((rfl | rfl | rfl | rfl | rfl | rfl) | (rfl | rfl | rfl | rfl | rfl | rfl)) | rfl
  all_goals first
    | exact .inl ⟨T3.mk _ _ _, rfl, by decide +kernel, by decide +kernel⟩
    | exact .inr (List.Mem.head _)
    | exact .inr (List.Mem.tail _ (List.Mem.head _))
    | exact .inr (List.Mem.tail _ (List.Mem.tail _ (List.Mem.head _)))
    | exact .inr (List.Mem.tail _ (List.Mem.tail _ (List.Mem.tail _ (List.Mem.head _))))
theorem shl_good : ∀ {cs : List Cmd}, ShL (cs.map da) (cs.map some)
  | [] => trivial
  | c :: cs => ⟨rfl, shl_good (cs := cs)⟩
theorem good_shaped {c : Cmd} (h : GoodC c) : SeqAt.shaped (.str c.p1) = true := shaped_w (w_facts h.w).2.2.2
theorem gs_at {d : Da} (hd : OddD d) {cs2 : List Cmd} (h2 : ∀ c ∈ cs2, GoodC c) : ∀ {cs : List Cmd} (k : Nat), (∀ c ∈ cs, GoodC c) → ∃ gs, ShL (cs.map da ++ [d] ++ cs2.map da) gs ∧ badC gs k = some (k + cs.length) ∧ ∀ c, some c ∈ gs → SeqAt.shaped (.str c.p1) = true
  | [], k, _ => by
    rcases hd with ⟨c, e, hs, hb⟩ | e
    · refine ⟨some c :: cs2.map some, ⟨e, shl_good⟩, by unfold badC; rw [hb]; rfl, fun x hx => ?_⟩
      rcases List.mem_cons.mp hx with hx | hx
      · cases hx; exact hs
      · obtain ⟨y, hy, ey⟩ := List.mem_map.mp hx
        cases ey
        exact good_shaped (h2 _ hy)
    · refine ⟨none :: cs2.map some, ⟨e, shl_good⟩, rfl, fun x hx => ?_⟩
      rcases List.mem_cons.mp hx with hx | hx
      · cases hx
      · obtain ⟨y, hy, ey⟩ := List.mem_map.mp hx
        cases ey
        exact good_shaped (h2 _ hy)
  | c :: cs, k, h => by
    obtain ⟨gs, g1, g2, g3⟩ := gs_at hd h2 (cs := cs) (k + 1) fun x hx => h x (by simp [hx])
    refine ⟨some c :: gs, ⟨rfl, g1⟩, ?_, fun x hx => ?_⟩
    · unfold badC
      rw [(h c (by simp)).ok, if_pos rfl, g2, List.length_cons]
      congr 1
      omega
    · rcases List.mem_cons.mp hx with hx | hx
      · cases hx; exact good_shaped (h c (by simp))
      · exact g3 x hx
theorem told_cmd {l : List Da} {gs : List (Option Cmd)} {j : Nat} (h : ShL l gs) (hn : l.length ≤ 1000) (hb : badC gs 0 = some j) {Q : Str × Da → Prop} {E : Exn → Prop} (q : Q ("BadCommand", da ((j : Nat) : Int))) : Pr.told (α := Str) ["BadText", "BadCommand"] (tx_script_text l) Q E := by
  unfold tx_script_text
  show (Pr.bind (tx_check_script l) _) _ _
  refine bind_i (xcheck_i h hn (fun i hi => ?_) fun z => by rw [hb] at z; cases z)
  rw [hb] at hi
  cases hi
  exact ⟨by simp [exBad], "BadCommand", da ((j : Nat) : Int), rfl, rfl, q⟩
theorem wi_q (w : Str) (hw : PyData.strOk w = true) (n : Bool) (j : Int) (M : Sto) : gEq n (.tup [.str w, .int j]) (.tup [.str w, .int j]) M = some (.bl (!n), M) := by
  unfold gEq eqD
  rw [show toV (.tup [.str w, .int j]) = none from rfl, show pyM (.tup [.str w, .int j]) M = some (.tuple [.str w, .int j]) from rfl]
  simp only [show SeqAt.shaped (.tuple [.str w, .int j]) = true by unfold SeqAt.shaped; simp [PyData.canLay0, PyData.canLayAll0, PyData.depth, PyData.depthAll, hw], show PyData.eqv (.tuple [.str w, .int j]) (.tuple [.str w, .int j]) = true by simp [PyData.eqv, PyData.eqvAll], Bool.and_self, if_true, Option.map_some]
  cases n <;> rfl
theorem sOkC : PyData.strOk (Str.ofString "BadCommand") = true := by decide +kernel
theorem sOkB : PyData.strOk (Str.ofString "BadText") = true := by decide +kernel
theorem bc_ne (j : Int) : op2 (α := (Str × Da)) (β := (Str × Da)) (γ := Bool) (gEq true) ("BadCommand", da j) ("BadCommand", da (α := Option Int) (some j)) = Pr.ok false := op2_ok fun M => wi_q _ sOkC true j M
theorem bt_eq (j : Int) : op2 (α := (Str × Da)) (β := (Str × Da)) (γ := Bool) (gEq false) ("BadText", da j) ("BadText", da j) = Pr.ok true := op2_ok fun M => wi_q _ sOkB false j M
theorem sp_Tx' (r : List Nat) : ∀ {cs : List Cmd}, (∀ c ∈ cs, GoodC c) → sp 10 [] (Tx cs ++ r) = cs.map body ++ sp 10 [] r
  | [], _ => rfl
  | c :: cs, h => by
    rw [Tx_cons, List.append_assoc, List.cons_append, sp_app 10 _ _ [] (body_nl (h c (by simp))), sp_Tx' r fun d hd => h d (by simp [hd])]
    rfl
def c31 : Cmd := ⟨"insert", 3, 1⟩
theorem good31 : GoodC c31 := ⟨by decide +kernel, .inl rfl, by decide, by decide, by decide, by decide⟩
theorem line31 : tl ("insert 3 1\n" : Str) = body c31 ++ [10] := by decide +kernel
theorem fold_arr : ∀ (n : Nat) (x : Array Nat) (a : Array Nat), ((List.replicate n x).foldl (· ++ ·) a).toList = a.toList ++ (List.replicate n x.toList).flatten
  | 0, x, a => by simp
  | n + 1, x, a => by
    rw [List.replicate_succ, List.foldl_cons, fold_arr n x (a ++ x), List.replicate_succ, List.flatten_cons, Array.toList_append, List.append_assoc]
theorem mul_t {n : Nat} (h1 : 2 ≤ n) : Txt.mul ("insert 3 1\n" : Str) (n : Int) = SS (Tx (List.replicate n c31)) := by
  refine _root_.TL.ext_tl ?_
  unfold Txt.mul
  rw [if_neg (by omega), if_neg (by
    rw [Bool.or_eq_true]
    rintro (z | z)
    · have := eq_of_beq z; omega
    · have := eq_of_beq z
      rw [len_t, line31] at this
      simp at this)]
  show ((List.replicate (n : Int).toNat ("insert 3 1\n" : Str).cps).foldl (· ++ ·) #[]).toList = Tx (List.replicate n c31)
  rw [fold_arr, Int.toNat_natCast, show ("insert 3 1\n" : Str).cps.toList = body c31 ++ [10] from line31]
  unfold Tx
  rw [List.map_replicate]
  rfl
theorem fst_app : ∀ (cs : List Cmd) (k : Nat), fstN (cs.map some ++ [none]) k = some (k + cs.length)
  | [], k => rfl
  | c :: cs, k => by
    show fstN (cs.map some ++ [none]) (k + 1) = _
    rw [fst_app cs (k + 1), List.length_cons]
    congr 1
    omega
theorem fx_none : fL [120] = none := by decide +kernel
theorem long_i {Q : Bool → Prop} {E : Exn → Prop} (q : Q true) : t__law_long_text_right Q E := by
  unfold t__law_long_text_right
  refine bind_i (bind_i (pull_i (by omega) (by omega) fun v v0 v1 => ?_))
  obtain ⟨n, hn⟩ : ∃ n : Nat, (201 : Int) + v = n := ⟨((201 : Int) + v).toNat, by omega⟩
  have n1 : 201 ≤ n := by omega
  have n2 : n ≤ 400 := by omega
  rw [ok_app_h, hn]
  have hg : ∀ c ∈ List.replicate n c31, GoodC c := fun c hc => by rw [(List.mem_replicate.mp hc).2]; exact good31
  have hT := Tx_len hg
  rw [List.length_replicate] at hT
  have em : op2 (α := Str) (β := Int) (γ := Str) gMulS ("insert 3 1\n" : Str) ((n : Nat) : Int) = Pr.ok (SS (Tx (List.replicate n c31))) := op2_ok fun M => by
    show (if mulOkB ("insert 3 1\n" : Str) (n : Int) then some (D.str (Txt.mul ("insert 3 1\n" : Str) (n : Int)), M) else none) = _
    rw [if_pos (by
      unfold mulOkB
      rw [len_t, line31]
      have := body_len good31
      simp only [Bool.and_eq_true, decide_eq_true_eq, List.length_append, List.length_singleton]
      omega), mul_t (by omega)]
    rfl
  rw [em, Pr.ok_bind]
  have h1 := ln_Tx hg (by rw [List.length_replicate]; omega)
  refine bind_i (bind_i (bind_i (parse_i h1 (fL_all hg) ?_)))
  show (((rep [c31] (n : Int)).bind fun a22 => lk (α := List Cmd) (β := List Cmd) 4 (List.replicate n c31) a22) : Pr Bool) _ E
  rw [rep_one c31 (n : Int) (by omega) (by omega), Int.toNat_natCast, Pr.ok_bind]
  refine lk_i rfl (lk_cs 1 (by rw [List.length_replicate]; omega)) ?_
  refine ok_i ?_
  simp only [Bool.not_true, Bool.false_eq_true, if_false]
  have ex : tl ("x\n" : Str) = [120, 10] := by decide +kernel
  rw [add_t (by rw [tl_SS, ex]; simp only [List.length_cons, List.length_nil]; omega), Pr.ok_bind]
  have et : SS (Tx (List.replicate n c31)) ++ ("x\n" : Str) = SS (Tx (List.replicate n c31) ++ [120, 10]) := _root_.TL.ext_tl (by
    show tl _ = _
    rw [tl_add, tl_SS, ex])
  have h2 : Ln (SS (Tx (List.replicate n c31)) ++ ("x\n" : Str)) ((List.replicate n c31).map body ++ [[120]]) [] := by
    refine ⟨?_, fun c hc => ?_, ?_, fun p hp => ?_⟩
    · rw [et, tl_SS, sp_Tx' _ hg, List.append_assoc]
      rfl
    · rw [et, tl_SS] at hc
      rcases List.mem_append.mp hc with z | z
      · exact Tx_asc hg c z
      · simp only [List.mem_cons, List.not_mem_nil, or_false] at z
        omega
    · rw [et, tl_SS, List.length_append]
      simp only [List.length_cons, List.length_nil]
      omega
    · rcases List.mem_append.mp hp with z | z
      · obtain ⟨c, hc, rfl⟩ := List.mem_map.mp z
        have := body_len (hg c hc)
        omega
      · rw [List.mem_singleton.mp z]; simp
  refine bind_i (told_parse h2 ?_)
  have er : resD ((List.replicate n c31).map body ++ [[120]]) [] = (("BadText" : Str), da ((n : Nat) : Int)) := by
    unfold resD
    rw [List.map_append, fL_all hg, show ([[120]] : List (List Nat)).map fL = [none] by rw [List.map_cons, fx_none]; rfl, fst_app, List.length_replicate]
    simp
  rw [er, bt_eq]
  exact q
theorem near_good {c : Cmd} (h : near c) : GoodC c := by
  obtain ⟨h1, h2, h3, h4⟩ := h
  have hB : cmdB c = true := by
    unfold cmdB
    simp only [Bool.or_eq_true, Bool.and_eq_true, decide_eq_true_eq]
    rcases h1 with ⟨a, b, d⟩ | ⟨a, b, d⟩
    · exact .inl ⟨a, b, d⟩
    · exact .inr ⟨a, b, d⟩
  rcases h1 with ⟨a, b, d⟩ | ⟨a, b, d⟩
  · have := h4 a
    exact ⟨hB, .inl a, b, by omega, by omega, by omega⟩
  · have := h3 a
    exact ⟨hB, .inr a, b, by omega, by omega, by omega⟩
theorem far_good {f v : Int} (h0 : 0 ≤ f) (h1 : f < 100000000000000000) (h2 : 0 ≤ v) (h3 : v < 100000000000000000) : GoodC ⟨"delete", f, f + v⟩ := by
  refine ⟨?_, .inr rfl, h0, by show f < _; omega, by show 0 ≤ f + v; omega, by show f + v < _; omega⟩
  unfold cmdB
  simp only [Bool.or_eq_true, Bool.and_eq_true, decide_eq_true_eq]
  exact .inr ⟨trivial, h0, by omega⟩
theorem pullB_i {n : Int} {Q : Int → Prop} {E : Exn → Prop} (h0 : 0 < n) (h1 : n < 1000000000000000000) (h : ∀ v, 0 ≤ v → v < n → Q v) : Pr.pullB n Q E := ⟨h0, h1, h⟩
theorem lkL_i {cs : List Cmd} {t : Str} (h : cs.length ≤ 1000) {Q : Bool → Prop} {E : Exn → Prop} (q : Q true) : lkL (α := Da) (β := Str) (γ := (T3 Str Int Int)) 4 [da t, da t, da cs] ([t, t] : List Str) cs Q E := by
  refine ⟨rfl, ?_, q⟩
  show lkD 4 (.lst [.str t, .str t, en cs]) = true
  have := lk_cs 0 h
  simp only [lkD, lkDs, Bool.and_true, Bool.true_and, Bool.and_eq_true, decide_eq_true_eq]
  exact ⟨by simp, this⟩
theorem fin_q (M : Sto) : gEq false (.lst [.tup [.str "BadText", .int 0], .tup [.str "BadText", .int 1]]) (.lst [.tup [.str "BadText", .int 0], .tup [.str "BadText", .int 1]]) M = some (.bl true, M) := by
  unfold gEq eqD
  rw [show toV (.lst [.tup [.str "BadText", .int 0], .tup [.str "BadText", .int 1]]) = none from rfl, show pyM (.lst [.tup [.str "BadText", .int 0], .tup [.str "BadText", .int 1]]) M = some (.list [.tuple [.str "BadText", .int 0], .tuple [.str "BadText", .int 1]]) from rfl]
  simp only [show SeqAt.shaped (.list [.tuple [.str "BadText", .int 0], .tuple [.str "BadText", .int 1]]) = true by decide +kernel, show PyData.eqv (.list [.tuple [.str "BadText", .int 0], .tuple [.str "BadText", .int 1]]) (.list [.tuple [.str "BadText", .int 0], .tuple [.str "BadText", .int 1]]) = true by decide +kernel, Bool.and_self, if_true, Option.map_some]
  rfl
theorem emp_q (M : Sto) : gEq false (.lst []) (.lst []) M = some (.bl true, M) := by
  unfold gEq eqD
  rw [show toV (.lst []) = none from rfl, show pyM (.lst []) M = some (.list []) from rfl]
  simp only [show SeqAt.shaped (.list []) = true by decide +kernel, show PyData.eqv (.list []) (.list []) = true by decide +kernel, Bool.and_self, if_true, Option.map_some]
  rfl
theorem ln_1 : Ln ("insert 1 2" : Str) [] (tl ("insert 1 2" : Str)) := ⟨by decide +kernel, by
  have : (tl ("insert 1 2" : Str)).all (fun c => decide (c < 128)) = true := by decide +kernel
  exact fun c hc => of_decide_eq_true (List.all_eq_true.mp this c hc), by decide +kernel, fun p hp => by cases hp⟩
theorem ln_2 : Ln ("insert 1 2\n\n" : Str) [tl ("insert 1 2" : Str), []] [] := ⟨by decide +kernel, by
  have : (tl ("insert 1 2\n\n" : Str)).all (fun c => decide (c < 128)) = true := by decide +kernel
  exact fun c hc => of_decide_eq_true (List.all_eq_true.mp this c hc), by decide +kernel, by
  have : ([tl ("insert 1 2" : Str), []] : List (List Nat)).all (fun p => decide (p.length ≤ 450)) = true := by decide +kernel
  exact fun p hp => of_decide_eq_true (List.all_eq_true.mp this p hp)⟩
theorem res_1 : resD [] (tl ("insert 1 2" : Str)) = (("BadText" : Str), da (0 : Int)) := by
  unfold resD
  rw [show fstN (([] : List (List Nat)).map fL) 0 = none from rfl]
  simp only
  rw [if_neg (by decide +kernel)]
  rfl
theorem res_2 : resD [tl ("insert 1 2" : Str), []] [] = (("BadText" : Str), da (1 : Int)) := by
  unfold resD
  rw [show fstN (([tl ("insert 1 2" : Str), []] : List (List Nat)).map fL) 0 = some 1 by decide +kernel]
  rfl
theorem turn_i {cs : List Cmd} (hg : ∀ c ∈ cs, GoodC c) (hl : cs.length ≤ 9) {Q : FlT Unit Bool → Prop} {E : Exn → Prop} (q : Q (FlT.nx ())) :
    (((lim cs).bind fun (l70 : List (T3 Str Int Int)) => Pr.forM l70 ("" : Str) stS).bind fun (s46 : Str) =>
  (Pr.flow ((Pr.need (sm (2 : Int)) (Pr.ok (rngI 0 (Int.toNat (2 : Int))))).bind fun (l105 : List Int) => Pr.forF (ρ := Bool) l105 () (fun (x73 : Int) (s72 : Unit) =>
  (((t_script_text cs).bind fun (a78 : Str) => cast (α := Str) (β := Da) a78).bind fun (a87 : Da) => (((t_script_text ((Sq.mk true cs)).l).bind fun (a83 : Str) => cast (α := Str) (β := Da) a83).bind fun (a90 : Da) => (((t_parse_script s46).bind fun (a86 : (List (T3 Str Int Int))) => cast (α := (List (T3 Str Int Int))) (β := Da) a86).bind fun (a93 : Da) => (((lkL (α := Da) (β := Str) (γ := (T3 Str Int Int)) 4 [a87, a90, a93] ([s46, s46] : List Str) cs).bind fun b => Pr.ok (!b)).bind fun c => if c then (Pr.ok (FlT.rt false)) else
  (Pr.ok (FlT.nx ())))))))) (fun (s72 : Unit) =>
  (((((Pr.pull (2 : Int)).bind fun (b110 : Int) => (Pr.ok ((1 : Int) + b110))).bind fun (n111 : Int) => Pr.need (sm n111) (Pr.ok (rngI 0 (Int.toNat n111)))).bind fun (l120 : List Int) => Pr.forM l120 s46 (fun (x113 : Int) (s112 : Str) =>
  ((t__law_bent_text s112 signsB).bind fun (text_117 : Str) =>
  (Pr.ok text_117)))).bind fun (s112 : Str) =>
  ((((Pr.told (α := (List (T3 Str Int Int))) ["BadText", "BadCommand"] (tx_parse_script s112)).bind fun (a130 : (Str × Da)) => ((t__law_lines_due s112).bind fun (a133 : (Str × Da)) => (lk (α := (Str × Da)) (β := (Str × Da)) 4 a130 a133))).bind fun b => Pr.ok (!b)).bind fun c => if c then (Pr.ok (FlT.rt false)) else
  ((Pr.pull ((((List.map da cs).length : Nat) : Int) + (1 : Int))).bind fun (i151 : Int) => (t__law_odd_command).bind fun (a152 : Da) => Pr.need ((0 ≤ i151 ∧ i151 < 16777216) ∧ (List.map da cs).length < 16777216)
  (((Pr.told (α := Str) ["BadText", "BadCommand"] (tx_script_text ((List.map da cs).take (Int.toNat i151) ++ [a152] ++ (List.map da cs).drop (Int.toNat i151)))).bind fun (a165 : (Str × Da)) => (((t__law_due_command ((List.map da cs).take (Int.toNat i151) ++ [a152] ++ (List.map da cs).drop (Int.toNat i151))).bind fun (a159 : (Option Int)) => cast (α := (Option Int)) (β := Da) a159).bind fun (a162 : Da) => (Pr.ok ((("BadCommand" : Str), a162) : (Str × Da)))).bind fun (b166 : (Str × Da)) => (op2 (α := (Str × Da)) (β := (Str × Da)) (γ := Bool) (gEq true) a165 b166)).bind fun c => if c then (Pr.ok (FlT.rt false)) else
  (Pr.ok (FlT.nx ()))))))) (fun (r171 : Bool) => (FlT.rt r171)))) Q E := by
  have hT := Tx_len hg
  have ln := ln_Tx hg (by omega)
  rw [lim_ok (by omega), Pr.ok_bind, st_loop hg (by rw [show tl ("" : Str) = [] from rfl]; simp only [List.length_nil]; omega), Pr.ok_bind, show tl ("" : Str) ++ Tx cs = Tx cs from rfl, need_T (sm_of (by omega) (by omega)), Pr.ok_bind]
  refine flow_i (fun x _ Q' q' => ?_) ?_
  · have ht := text_t hg (by omega)
    simp only [ht, Pr.ok_bind, castDa]
    refine bind_i (bind_i (parse_i ln (fL_all hg) ?_))
    refine ok_i ?_
    refine bind_i (bind_i (lkL_i (by omega) ?_))
    refine ok_i ?_
    simp only [Bool.not_true, Bool.false_eq_true, if_false]
    exact q'
  · refine bind_i (bind_i (bind_i (bind_i (pull_i (by omega) (by omega) fun v v0 v1 => ?_))))
    refine ok_i (need_i (sm_of (by omega) (by omega)) (ok_i ?_))
    refine forM_k (fun n (s : Str) => Asc s ∧ (tl s).length ≤ 405 + 11 * n) _ 0 _ _ (fun x k s Q' h1 h2 h3 h4 => ?_) ⟨Tx_asc hg, by rw [tl_SS]; omega⟩ fun s hs => ?_
    · rw [rngI_len] at h2
      refine bind_i (bent_any h3.1 h3.2 (by omega) fun t' a1 a2 => h4 _ ⟨a1, by omega⟩)
    · obtain ⟨s1, s2⟩ := hs
      rw [rngI_len] at s2
      obtain ⟨I, last, hI⟩ := ln_any s1 (by omega)
      have hIc : I.length ≤ 1000 := by
        have := sp_many 10 (tl s) []
        rw [hI.sp, List.length_append, List.length_singleton] at this
        omega
      refine bind_i (bind_i (bind_i (told_parse hI ?_)))
      rw [lines_t hI, Pr.ok_bind]
      refine lk_i rfl (lk_res hI hIc) (ok_i ?_)
      simp only [Bool.not_true, Bool.false_eq_true, if_false]
      refine bind_i (pull_i (by omega) (by rw [List.length_map]; omega) fun u u0 u1 => ?_)
      rw [List.length_map] at u1
      obtain ⟨i, rfl⟩ : ∃ i : Nat, u = i := ⟨u.toNat, by omega⟩
      refine bind_i (odd_i fun d hd => ?_)
      refine need_i ⟨⟨by omega, by omega⟩, by rw [List.length_map]; omega⟩ ?_
      rw [Int.toNat_natCast, ← List.map_take, ← List.map_drop]
      obtain ⟨gs, g1, g2, g3⟩ := gs_at hd (cs2 := cs.drop i) (fun c hc => hg c (List.mem_of_mem_drop hc)) (cs := cs.take i) 0 (fun c hc => hg c (List.mem_of_mem_take hc))
      rw [Nat.zero_add, List.length_take, show min i cs.length = i by omega] at g2
      have hlen : ((cs.take i).map da ++ [d] ++ (cs.drop i).map da).length ≤ 1000 := by
        simp only [List.length_append, List.length_map, List.length_take, List.length_drop, List.length_singleton]
        omega
      refine bind_i (bind_i (told_cmd g1 hlen g2 ?_))
      rw [due_t g1 g3 hlen, g2, Pr.ok_bind, Option.map_some, castDa, Pr.ok_bind, Pr.ok_bind, bc_ne]
      refine ok_i ?_
      simp only [Bool.false_eq_true, if_false]
      exact q
theorem law_holds : t_law (fun b => b = true) (fun _ => False) := by
  unfold t_law
  rw [need_T (sm_of (by omega) (by omega)), Pr.ok_bind]
  refine flow_i (fun x _ Q q => ?_) ?_
  · refine bind_i (script_any 8 (by omega) _ fun cs hl hn => ?_)
    have hg : ∀ c ∈ cs, GoodC c := fun c hc => near_good (hn c hc)
    refine bind_i (bind_i (bind_i (pull_i (by omega) (by omega) fun v v0 v1 => ?_)))
    refine ok_i ?_
    by_cases hv : v = 0
    · rw [decide_eq_true hv, if_pos rfl]
      refine bind_i (pullB_i (by omega) (by omega) fun f f0 f1 => ?_)
      refine bind_i (bind_i (bind_i (pullB_i (by omega) (by omega) fun u u0 u1 => ?_)))
      refine ok_i (ok_i (need_i (by omega) (ok_i ?_)))
      refine turn_i (cs := cs ++ [⟨"delete", f, f + u⟩]) (fun c hc => ?_) (by simp; omega) q
      rcases List.mem_append.mp hc with z | z
      · exact hg c z
      · rw [List.mem_singleton.mp z]; exact far_good f0 f1 u0 u1
    · rw [decide_eq_false hv, if_neg (by simp)]
      refine ok_i ?_
      exact turn_i (cs := cs) hg (by omega) q
  · refine bind_i (bind_i (long_i ?_))
    refine ok_i ?_
    simp only [Bool.not_true, Bool.false_eq_true, if_false]
    refine bind_i (bind_i (told_parse ln_1 ?_))
    rw [res_1, castDa]
    refine ok_i ?_
    refine bind_i (bind_i (told_parse ln_2 ?_))
    rw [res_2, castDa]
    refine ok_i (need_i (by simp) ?_)
    rw [Pr.ok_bind]
    rw [show op2 (α := (List Da)) (β := (List Da)) (γ := Bool) (gEq false) ([da (("BadText" : Str), da (0 : Int))] ++ [da (("BadText" : Str), da (1 : Int))]) ([(da (α := (Str × Int)) ((("BadText" : Str), (0 : Int)) : (Str × Int))), (da (α := (Str × Int)) ((("BadText" : Str), (1 : Int)) : (Str × Int)))] : (List Da)) = Pr.ok true from op2_ok fun M => fin_q M, Pr.ok_bind, if_pos rfl]
    have h0 : Ln ("" : Str) [] [] := ⟨rfl, fun c hc => (by cases hc), by decide, fun p hp => by cases hp⟩
    refine bind_i (bind_i (parse_i (cs := []) h0 rfl ?_))
    rw [show op2 (α := (List (T3 Str Int Int))) (β := (List (T3 Str Int Int))) (γ := Bool) (gEq false) [] ([] : (List (T3 Str Int Int))) = Pr.ok true from op2_ok fun M => emp_q M]
    refine ok_i ?_
    simp only [if_true]
    rw [text_t (cs := []) (fun c hc => by cases hc) (by simp), Pr.ok_bind, decide_eq_true (emp_t.mpr rfl)]
    rfl
theorem law_ok (ns : List Int) (h : ns.length ≤ 63) : ∃ M, F_law [.scr ns] [] = .ok (.bl true) M := law_of law_holds ns h
end
end T
namespace T
open PySem L2 Ip
theorem main : Main := fun ns h => law_ok ns h
end T
open PySem PySem.W PyProof.Rows in
set_option maxRecDepth 100000 in
set_option maxHeartbeats 0 in
theorem PySem.Challenge.cw_spanrows_k58_whole_scripts_and_their_tex_holds : PySem.Challenge.rw_spanrows_k58_whole_scripts_and_their_tex.Holds := by
  w_on; o_law; k_head; (case hw => w_witness2)
  k_fill
  refine T.walk (l := PySem.Challenge.rw_spanrows_k58_whole_scripts_and_their_tex) rfl rfl (fun w h Y => by first | exact PySem.W.km_in_of Y | exact PySem.W.kIn_of Y) ?F
  case F =>
    intro w mg fa h Y KX G hmg
    refine' T.all_mk T.main KX G hmg ?z_all ?z_bool ?z_enumerate ?z_int ?z_isinstance ?z_len ?z_list ?z_range ?z_str ?z_tuple ?gp_MOST_DIGITS ?a__law_bag ?l__law_bag ?c__law_bag ?k__law_bag ?a__law_pull ?l__law_pull ?c__law_pull ?k__law_pull ?a__law_of ?l__law_of ?c__law_of ?k__law_of ?a__law_command ?l__law_command ?c__law_command ?k__law_command ?a__law_script ?l__law_script ?c__law_script ?k__law_script ?a_is_number ?l_is_number ?c_is_number ?k_is_number ?a_are_numbers ?l_are_numbers ?c_are_numbers ?k_are_numbers ?a_is_command ?l_is_command ?c_is_command ?k_is_command ?a_check_script ?l_check_script ?c_check_script ?k_check_script ?a_script_text ?l_script_text ?c_script_text ?k_script_text ?a_read_number ?l_read_number ?c_read_number ?k_read_number ?a_read_command ?l_read_command ?c_read_command ?k_read_command ?a_parse_script ?l_parse_script ?c_parse_script ?k_parse_script ?a__law_like ?l__law_like ?c__law_like ?k__law_like ?a__law_bent_text ?l__law_bent_text ?c__law_bent_text ?k__law_bent_text ?a__law_plain_number ?l__law_plain_number ?c__law_plain_number ?k__law_plain_number ?a__law_due_command ?l__law_due_command ?c__law_due_command ?k__law_due_command ?a__law_lines_due ?l__law_lines_due ?c__law_lines_due ?k__law_lines_due ?a__law_odd_command ?l__law_odd_command ?c__law_odd_command ?k__law_odd_command ?a__law_long_text_right ?l__law_long_text_right ?c__law_long_text_right ?k__law_long_text_right ?a_law ?l_law ?c_law ?k_law ?aC_SpanError ?rd_SpanError ?ga_SpanError ?sb_SpanError ?kl_SpanError ?ty_SpanError ?ci_SpanError ?l_SpanError ?c_SpanError ?k_SpanError ?zV ?vV ?aC_BadText ?xo_BadText ?rv_BadText ?sa_BadText ?ex_BadText ?tc_BadText ?kk_BadText ?xg_BadText ?xh_BadText ?xd_BadText ?xn_word_BadText ?xn_number_BadText ?xn_at_BadText ?xn_name_BadText ?xn_cell_BadText ?xn_most_BadText ?xn_label_BadText ?xn_other_BadText ?em_BadText ?in_BadText ?ti_BadText ?l_BadText ?c_BadText ?k_BadText ?aC_BadCommand ?xo_BadCommand ?rv_BadCommand ?sa_BadCommand ?ex_BadCommand ?tc_BadCommand ?kk_BadCommand ?xg_BadCommand ?xh_BadCommand ?xd_BadCommand ?xn_word_BadCommand ?xn_number_BadCommand ?xn_at_BadCommand ?xn_name_BadCommand ?xn_cell_BadCommand ?xn_most_BadCommand ?xn_label_BadCommand ?xn_other_BadCommand ?em_BadCommand ?in_BadCommand ?ti_BadCommand ?l_BadCommand ?c_BadCommand ?k_BadCommand ?a__law_field ?l__law_field ?c__law_field ?k__law_field ?a__law_told ?l__law_told ?c__law_told ?k__law_told ?kc_law ?kv_law ?kn_law ?kh_law ?kc__law_long_text_right ?kv__law_long_text_right ?kn__law_long_text_right ?kh__law_long_text_right ?ht_law ?ht__law_long_text_right ?dj_law__law_long_text_right
    (case z_all => k_is)
    (case z_bool => k_is)
    (case z_enumerate => k_is)
    (case z_int => k_is)
    (case z_isinstance => k_is)
    (case z_len => k_is)
    (case z_list => k_is)
    (case z_range => k_is)
    (case z_str => k_is)
    (case z_tuple => k_is)
    (case gp_MOST_DIGITS => k_is)
    (case a__law_bag => k_is)
    (case l__law_bag => k_is)
    (case c__law_bag => k_is)
    (case k__law_bag => k_is)
    (case a__law_pull => k_is)
    (case l__law_pull => k_is)
    (case c__law_pull => k_is)
    (case k__law_pull => k_is)
    (case a__law_of => k_is)
    (case l__law_of => k_is)
    (case c__law_of => k_is)
    (case k__law_of => k_is)
    (case a__law_command => k_is)
    (case l__law_command => k_is)
    (case c__law_command => k_is)
    (case k__law_command => k_is)
    (case a__law_script => k_is)
    (case l__law_script => k_is)
    (case c__law_script => k_is)
    (case k__law_script => k_is)
    (case a_is_number => k_is)
    (case l_is_number => k_is)
    (case c_is_number => k_is)
    (case k_is_number => k_is)
    (case a_are_numbers => k_is)
    (case l_are_numbers => k_is)
    (case c_are_numbers => k_is)
    (case k_are_numbers => k_is)
    (case a_is_command => k_is)
    (case l_is_command => k_is)
    (case c_is_command => k_is)
    (case k_is_command => k_is)
    (case a_check_script => k_is)
    (case l_check_script => k_is)
    (case c_check_script => k_is)
    (case k_check_script => k_is)
    (case a_script_text => k_is)
    (case l_script_text => k_is)
    (case c_script_text => k_is)
    (case k_script_text => k_is)
    (case a_read_number => k_is)
    (case l_read_number => k_is)
    (case c_read_number => k_is)
    (case k_read_number => k_is)
    (case a_read_command => k_is)
    (case l_read_command => k_is)
    (case c_read_command => k_is)
    (case k_read_command => k_is)
    (case a_parse_script => k_is)
    (case l_parse_script => k_is)
    (case c_parse_script => k_is)
    (case k_parse_script => k_is)
    (case a__law_like => k_is)
    (case l__law_like => k_is)
    (case c__law_like => k_is)
    (case k__law_like => k_is)
    (case a__law_bent_text => k_is)
    (case l__law_bent_text => k_is)
    (case c__law_bent_text => k_is)
    (case k__law_bent_text => k_is)
    (case a__law_plain_number => k_is)
    (case l__law_plain_number => k_is)
    (case c__law_plain_number => k_is)
    (case k__law_plain_number => k_is)
    (case a__law_due_command => k_is)
    (case l__law_due_command => k_is)
    (case c__law_due_command => k_is)
    (case k__law_due_command => k_is)
    (case a__law_lines_due => k_is)
    (case l__law_lines_due => k_is)
    (case c__law_lines_due => k_is)
    (case k__law_lines_due => k_is)
    (case a__law_odd_command => k_is)
    (case l__law_odd_command => k_is)
    (case c__law_odd_command => k_is)
    (case k__law_odd_command => k_is)
    (case a__law_long_text_right => k_is)
    (case l__law_long_text_right => k_is)
    (case c__law_long_text_right => k_is)
    (case k__law_long_text_right => k_is)
    (case a_law => k_is)
    (case l_law => k_is)
    (case c_law => k_is)
    (case k_law => k_is)
    (case aC_SpanError => k_is)
    (case rd_SpanError => k_is)
    (case ga_SpanError => k_is)
    (case sb_SpanError => k_is)
    (case kl_SpanError => k_is)
    (case ty_SpanError => k_is)
    (case ci_SpanError => k_is)
    (case l_SpanError => k_is)
    (case c_SpanError => k_is)
    (case k_SpanError => k_is)
    (case zV => k_is)
    (case vV => k_is)
    (case aC_BadText => k_is)
    (case xo_BadText => k_is)
    (case rv_BadText => first | k_is | exact rfl | decide +kernel)
    (case sa_BadText => k_is)
    (case ex_BadText => k_is)
    (case tc_BadText => k_is)
    (case kk_BadText => k_is)
    (case xg_BadText => k_is)
    (case xh_BadText => k_is)
    (case xd_BadText => k_is)
    (case xn_word_BadText => k_is)
    (case xn_number_BadText => k_is)
    (case xn_at_BadText => k_is)
    (case xn_name_BadText => k_is)
    (case xn_cell_BadText => k_is)
    (case xn_most_BadText => k_is)
    (case xn_label_BadText => k_is)
    (case xn_other_BadText => k_is)
    (case em_BadText => k_is)
    (case in_BadText => k_is)
    (case ti_BadText => k_is)
    (case l_BadText => k_is)
    (case c_BadText => k_is)
    (case k_BadText => k_is)
    (case aC_BadCommand => k_is)
    (case xo_BadCommand => k_is)
    (case rv_BadCommand => first | k_is | exact rfl | decide +kernel)
    (case sa_BadCommand => k_is)
    (case ex_BadCommand => k_is)
    (case tc_BadCommand => k_is)
    (case kk_BadCommand => k_is)
    (case xg_BadCommand => k_is)
    (case xh_BadCommand => k_is)
    (case xd_BadCommand => k_is)
    (case xn_word_BadCommand => k_is)
    (case xn_number_BadCommand => k_is)
    (case xn_at_BadCommand => k_is)
    (case xn_name_BadCommand => k_is)
    (case xn_cell_BadCommand => k_is)
    (case xn_most_BadCommand => k_is)
    (case xn_label_BadCommand => k_is)
    (case xn_other_BadCommand => k_is)
    (case em_BadCommand => k_is)
    (case in_BadCommand => k_is)
    (case ti_BadCommand => k_is)
    (case l_BadCommand => k_is)
    (case c_BadCommand => k_is)
    (case k_BadCommand => k_is)
    (case a__law_field => k_is)
    (case l__law_field => k_is)
    (case c__law_field => k_is)
    (case k__law_field => k_is)
    (case a__law_told => k_is)
    (case l__law_told => k_is)
    (case c__law_told => k_is)
    (case k__law_told => k_is)
    (case kc_law => k_is)
    (case kv_law => first | k_is | exact rfl | decide +kernel)
    (case kn_law => first | k_is | exact rfl | decide +kernel)
    (case kh_law => first | k_is | exact rfl | decide +kernel)
    (case kc__law_long_text_right => k_is)
    (case kv__law_long_text_right => first | k_is | exact rfl | decide +kernel)
    (case kn__law_long_text_right => first | k_is | exact rfl | decide +kernel)
    (case kh__law_long_text_right => first | k_is | exact rfl | decide +kernel)
    (case ht_law => exact PySem.W.km_tabs_of Y _ (by first | k_mem | decide))
    (case ht__law_long_text_right => exact PySem.W.km_tabs_of Y _ (by first | k_mem | decide))
    (case dj_law__law_long_text_right => decide)

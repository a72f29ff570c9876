import PyProof.Rows.All
import Wide.All
import OpenK.AllK
import Wide.FinOn
import HandS.ForMost
import HandS.ForExc
import HandS.IsInst
import HandS.Wide
import HandS.Flow
import HandS.TupAny
import HandS.Lambda
import HandS.EndOwn
import HandS.Style
import HandS.Text
import HandS.Flt
import HandS.FStr
import HandS.New0
import PyProof.InstSpecial
import KE.GoesMore
import KE.GoesEnum
import HandS.ClsMeth
import HandS.Property
import HandS.More
import HandS.OwnEq
import HandS.Defaults
import HandS.Star
import HandS.TryOnly
import HandS.ExcInit
import HandS.ExcOwn
import HandS.ExcField
import HandS.WordsExc
import HandS.HotCalls
import HandS.TryMany
import KE.KNestM
import PySem.Challenge.RW_spanrows_k03_too_many_pieces
set_option Elab.async false
set_option linter.all false
set_option maxRecDepth 100000
section
set_option Elab.async false
set_option linter.all false
set_option maxRecDepth 100000
set_option maxHeartbeats 4000000
set_option autoImplicit false
/-! An interpreter of plain data over the hand layer: what a value is worth as a tree, and what stands in the heap for it. -/
namespace Ip
open PySem L2
inductive D where
  | non | bl (b : Bool) | int (i : Int) | str (s : Str)
  | tup (l : List D) | lst (l : List D)
  | scr (ns : List Int)
  | ty (n : String)
  | ref (n : Nat)
  | obj (c : Str) (ks : List Str) (vs : List D)
  | cls (c : Str)
inductive Cell where
  | lst (xs : List D)
  | ins (c : Str) (ks : List Str) (vs : List D)
abbrev Sto := List Cell
abbrev En := List (Option D)
/-- where the cells stand; what must not be touched meanwhile -/
structure Rho where
  c : List Addr
  t : List Addr
instance : Membership Addr Rho := ⟨fun ρ a => a ∈ ρ.c ∨ a ∈ ρ.t⟩
theorem Rho.inl {ρ : Rho} {a : Addr} (h : a ∈ ρ.c) : a ∈ ρ := Or.inl h
theorem Rho.inr {ρ : Rho} {a : Addr} (h : a ∈ ρ.t) : a ∈ ρ := Or.inr h
theorem Rho.cases {ρ : Rho} {a : Addr} (h : a ∈ ρ) : a ∈ ρ.c ∨ a ∈ ρ.t := h
structure Gx where
  K : PySem.W.Frag
  cl : Str → Option Addr
mutual
inductive RV (G : Gx) (H : Hp) (ρ : Rho) : D → V → Prop
  | non : RV G H ρ .non .non
  | bl (b : Bool) : RV G H ρ (.bl b) (.bl b)
  | int (i : Int) : RV G H ρ (.int i) (.int i)
  | str (s : Str) : RV G H ρ (.str s) (.str s)
  | ty (n : String) : RV G H ρ (.ty n) (.ty n)
  | tup {a : Addr} {vs : List V} {ds : List D} : SqT G.K H a vs → RVs G H ρ ds vs → RV G H ρ (.tup ds) (.ref a)
  | lst {a : Addr} {vs : List V} {ds : List D} : H a = some (.lst vs) → a ∉ ρ → RVs G H ρ ds vs → RV G H ρ (.lst ds) (.ref a)
  | scr {a : Addr} {ns : List Int} : (Rd H a (.lst (ns.map V.int)) ∧ a ∉ ρ) ∨ (∀ H', SqL G.K H' a (ns.map V.int)) → RV G H ρ (.scr ns) (.ref a)
  | ref {n : Nat} {a : Addr} : ρ.c[n]? = some a → RV G H ρ (.ref n) (.ref a)
  | obj {c : Str} {C a dx : Addr} {ks : List Str} {ds : List D} {vs : List V} : G.cl c = some C → H a = some (.ins C dx (ks.zip vs)) → ks.length = vs.length → a ∉ ρ → RVs G H ρ ds vs → RV G H ρ (.obj c ks ds) (.ref a)
  | cls {c : Str} {C : Addr} : G.cl c = some C → RV G H ρ (.cls c) (.ref C)
inductive RVs (G : Gx) (H : Hp) (ρ : Rho) : List D → List V → Prop
  | nil : RVs G H ρ [] []
  | cons {d : D} {v : V} {ds : List D} {vs : List V} : RV G H ρ d v → RVs G H ρ ds vs → RVs G H ρ (d :: ds) (v :: vs)
end
/-- objects that trees speak of -/
def plainO (o : HO) : Prop := (∃ xs, o = .lst xs) ∨ (∃ C dx fs, o = .ins C dx fs) ∨ ∃ q u, o = .frz q u
theorem plainO.l {xs : List V} : plainO (.lst xs) := .inl ⟨_, rfl⟩
theorem plainO.i {C dx : Addr} {fs : List (Str × V)} : plainO (.ins C dx fs) := .inr (.inl ⟨_, _, _, rfl⟩)
theorem plainO.f {q : Obj} {u : HO} : plainO (.frz q u) := .inr (.inr ⟨_, _, rfl⟩)
theorem plainO.tbl {o : HO} (h : plainO o) (ps : Array Value) : o ≠ .tbl ps := fun z => by rcases h with ⟨_, h⟩ | ⟨_, _, _, h⟩ | ⟨_, _, h⟩ <;> rw [h] at z <;> cases z
/-- trees stay what they are -/
structure Mo (G : Gx) (H : Hp) (ρ : Rho) (H' : Hp) (ρ' : Rho) : Prop where
  pre : ∀ (n : Nat) (a : Addr), ρ.c[n]? = some a → ρ'.c[n]? = some a
  tup : ∀ a xs, SqT G.K H a xs → SqT G.K H' a xs
  keep : ∀ (a : Addr) (o : HO), a ∉ ρ → plainO o → H a = some o → H' a = some o ∧ a ∉ ρ'
/-- the heap goes on: the cells stay where they are, what is no cell stays as it is -/
structure Ext (G : Gx) (H : Hp) (ρ : Rho) (H' : Hp) (ρ' : Rho) : Prop where
  pre : ∀ (n : Nat) (a : Addr), ρ.c[n]? = some a → ρ'.c[n]? = some a
  res : ρ'.t = ρ.t
  same : ∀ a, a ∈ ρ.t → H' a = H a
  tup : ∀ a xs, SqT G.K H a xs → SqT G.K H' a xs
  keep : ∀ (a : Addr) (o : HO), a ∉ ρ → (∀ ps, o ≠ .tbl ps) → H a = some o → H' a = some o ∧ a ∉ ρ'
theorem Ext.mo {G : Gx} {H H' : Hp} {ρ ρ' : Rho} (e : Ext G H ρ H' ρ') : Mo G H ρ H' ρ' := ⟨e.pre, e.tup, fun a o n p h => e.keep a o n p.tbl h⟩
theorem Ext.refl {G : Gx} {H : Hp} {ρ : Rho} : Ext G H ρ H ρ := ⟨fun _ _ h => h, rfl, fun _ _ => rfl, fun _ _ h => h, fun _ _ h1 _ h2 => ⟨h2, h1⟩⟩
theorem Ext.trans {G : Gx} {H H1 H2 : Hp} {ρ ρ1 ρ2 : Rho} (a : Ext G H ρ H1 ρ1) (b : Ext G H1 ρ1 H2 ρ2) : Ext G H ρ H2 ρ2 :=
  ⟨fun n c h => b.pre n c (a.pre n c h), b.res.trans a.res, fun c hc => (b.same c (by rw [a.res]; exact hc)).trans (a.same c hc), fun c xs h => b.tup c xs (a.tup c xs h), fun c o h1 h3 h2 => b.keep c o (a.keep c o h1 h3 h2).2 h3 (a.keep c o h1 h3 h2).1⟩
mutual
theorem RV.mo {G : Gx} {H H' : Hp} {ρ ρ' : Rho} (e : Mo G H ρ H' ρ') : ∀ {d : D} {v : V}, RV G H ρ d v → RV G H' ρ' d v
  | _, _, .non => .non
  | _, _, .bl b => .bl b
  | _, _, .int i => .int i
  | _, _, .str s => .str s
  | _, _, .ty s => .ty s
  | _, _, .tup h r => .tup (e.tup _ _ h) (RVs.mo e r)
  | _, _, .lst h n r => .lst (e.keep _ _ n .l h).1 (e.keep _ _ n .l h).2 (RVs.mo e r)
  | _, _, .scr h => .scr (by
      rcases h with ⟨h | ⟨o, h⟩, n⟩ | h
      · exact .inl ⟨.inl (e.keep _ _ n .l h).1, (e.keep _ _ n .l h).2⟩
      · exact .inl ⟨.inr ⟨o, (e.keep _ _ n .f h).1⟩, (e.keep _ _ n .f h).2⟩
      · exact .inr h)
  | _, _, .ref h => .ref (e.pre _ _ h)
  | _, _, .obj c h l n r => .obj c (e.keep _ _ n .i h).1 l (e.keep _ _ n .i h).2 (RVs.mo e r)
  | _, _, .cls h => .cls h
theorem RVs.mo {G : Gx} {H H' : Hp} {ρ ρ' : Rho} (e : Mo G H ρ H' ρ') : ∀ {ds : List D} {vs : List V}, RVs G H ρ ds vs → RVs G H' ρ' ds vs
  | _, _, .nil => .nil
  | _, _, .cons a b => .cons (RV.mo e a) (RVs.mo e b)
end
theorem RV.mono {G : Gx} {H H' : Hp} {ρ ρ' : Rho} (e : Ext G H ρ H' ρ') {d : D} {v : V} (h : RV G H ρ d v) : RV G H' ρ' d v := h.mo e.mo
theorem RVs.mono {G : Gx} {H H' : Hp} {ρ ρ' : Rho} (e : Ext G H ρ H' ρ') {d : List D} {v : List V} (h : RVs G H ρ d v) : RVs G H' ρ' d v := h.mo e.mo
section
variable {G : Gx} {H : Hp} {ρ : Rho}
theorem RVs.length : ∀ {ds : List D} {vs : List V}, RVs G H ρ ds vs → vs.length = ds.length
  | _, _, .nil => rfl
  | _, _, .cons _ t => by simp [RVs.length t]
theorem RVs.get : ∀ {ds : List D} {vs : List V} {i : Nat} {d : D}, RVs G H ρ ds vs → ds[i]? = some d → ∃ v, vs[i]? = some v ∧ RV G H ρ d v
  | _, _, _, _, .nil, h => by simp at h
  | _, _, 0, _, .cons r _, h => by simp at h; subst h; exact ⟨_, rfl, r⟩
  | _, _, i + 1, _, .cons _ t, h => by
    obtain ⟨v, h1, h2⟩ := RVs.get (i := i) t (by simpa using h)
    exact ⟨v, by simpa using h1, h2⟩
theorem RVs.getV : ∀ {ds : List D} {vs : List V} {i : Nat} {v : V}, RVs G H ρ ds vs → vs[i]? = some v → ∃ d, ds[i]? = some d ∧ RV G H ρ d v
  | _, _, _, _, .nil, h => by simp at h
  | _, _, 0, _, .cons r _, h => by simp at h; subst h; exact ⟨_, rfl, r⟩
  | _, _, i + 1, _, .cons _ t, h => by
    obtain ⟨v, h1, h2⟩ := RVs.getV (i := i) t (by simpa using h)
    exact ⟨v, by simpa using h1, h2⟩
theorem RVs.append : ∀ {ds es : List D} {vs ws : List V}, RVs G H ρ ds vs → RVs G H ρ es ws → RVs G H ρ (ds ++ es) (vs ++ ws)
  | _, _, _, _, .nil, b => b
  | _, _, _, _, .cons r t, b => .cons r (RVs.append t b)
theorem RVs.take : ∀ {ds : List D} {vs : List V} (n : Nat), RVs G H ρ ds vs → RVs G H ρ (ds.take n) (vs.take n)
  | _, _, 0, _ => .nil
  | _, _, _ + 1, .nil => .nil
  | _, _, n + 1, .cons r t => .cons r (RVs.take n t)
theorem RVs.drop : ∀ {ds : List D} {vs : List V} (n : Nat), RVs G H ρ ds vs → RVs G H ρ (ds.drop n) (vs.drop n)
  | _, _, 0, h => h
  | _, _, _ + 1, .nil => .nil
  | _, _, n + 1, .cons _ t => RVs.drop n t
theorem RVs.set {d : D} {v : V} (r : RV G H ρ d v) : ∀ {ds : List D} {vs : List V} (i : Nat), RVs G H ρ ds vs → RVs G H ρ (ds.set i d) (vs.set i v)
  | _, _, _, .nil => .nil
  | _, _, 0, .cons _ t => .cons r t
  | _, _, i + 1, .cons q t => .cons q (RVs.set r i t)
theorem RVs.rep {ds : List D} {vs : List V} (h : RVs G H ρ ds vs) : ∀ k : Nat, RVs G H ρ (List.replicate k ds).flatten (List.replicate k vs).flatten
  | 0 => .nil
  | k + 1 => by
    rw [List.replicate_succ, List.replicate_succ, List.flatten_cons, List.flatten_cons]
    exact RVs.append h (RVs.rep h k)
theorem RVs.ints : ∀ (ns : List Int), RVs G H ρ (ns.map D.int) (ns.map V.int)
  | [] => .nil
  | n :: ns => .cons (.int n) (RVs.ints ns)
theorem RVs.one {d : D} {v : V} (h : RV G H ρ d v) : RVs G H ρ [d] [v] := .cons h .nil
theorem RVs.two {d e : D} {v w : V} (h : RV G H ρ d v) (h2 : RV G H ρ e w) : RVs G H ρ [d, e] [v, w] := .cons h (.cons h2 .nil)
def COk (G : Gx) (H : Hp) (ρ : Rho) (a : Addr) : Cell → Prop
  | .lst ds => ∃ vs, H a = some (.lst vs) ∧ RVs G H ρ ds vs
  | .ins c ks ds => ∃ C dx vs, G.cl c = some C ∧ H a = some (.ins C dx (ks.zip vs)) ∧ ks.length = vs.length ∧ RVs G H ρ ds vs
def isCO (o : HO) : Prop := (∃ xs, o = .lst xs) ∨ ∃ C dx fs, o = .ins C dx fs
theorem isCO.tup {o : HO} (h : isCO o) (xs : List V) : o ≠ .tup xs := fun z => by rcases h with ⟨_, h⟩ | ⟨_, _, _, h⟩ <;> rw [h] at z <;> cases z
theorem isCO.frz {o : HO} (h : isCO o) (q : Obj) (u : HO) : o ≠ .frz q u := fun z => by rcases h with ⟨_, h⟩ | ⟨_, _, _, h⟩ <;> rw [h] at z <;> cases z
theorem isCO.tbl {o : HO} (h : isCO o) (ps : Array Value) : o ≠ .tbl ps := fun z => by rcases h with ⟨_, h⟩ | ⟨_, _, _, h⟩ <;> rw [h] at z <;> cases z
theorem isCO.code {o : HO} (h : isCO o) {c : Addr} {q : Str} : o ≠ LamX.CodeO c q := fun z => by unfold LamX.CodeO at z; rcases h with ⟨_, h⟩ | ⟨_, _, _, h⟩ <;> rw [h] at z <;> cases z
/-- the name of a lambda -/
def lamQ (q : Str) : Bool := q.cps.toList.getLast? == some 62
/-- the tables of code objects that are told of -/
def TabR (G : Gx) (H : Hp) : Prop := ∀ (q : Str) (P : Addr), lamQ q = true → G.cl q = some P → LamX.TabS H P q
theorem TabR.keeps {H H' : Hp} (t : TabR G H) (e : ∀ b o, H b = some o → ¬ isCO o → H' b = some o) : TabR G H' := fun q P hq hc => by
  obtain ⟨ps, h1, h2, h3⟩ := t q P hq hc
  refine ⟨ps, e _ _ h1 (fun z => z.tbl ps rfl), h2, fun pos cv hcv => ?_⟩
  obtain ⟨c, e1, e2⟩ := h3 pos cv hcv
  exact ⟨c, e1, e _ _ e2 (fun z => z.code rfl)⟩
structure RS (G : Gx) (H : Hp) (ρ : Rho) (M : Sto) : Prop where
  len : ρ.c.length = M.length
  nd : ρ.c.Nodup
  dis : ∀ a, a ∈ ρ.c → a ∉ ρ.t
  trt : ∀ a, a ∈ ρ.t → ∃ o, H a = some o ∧ isCO o
  at_ : ∀ (n : Nat) (c : Cell), M[n]? = some c → ∃ a, ρ.c[n]? = some a ∧ COk G H ρ a c
  tb : TabR G H
theorem RS.trk {M : Sto} (S : RS G H ρ M) {a : Addr} (h : a ∈ ρ.c) : ∃ (n : Nat) (c : Cell), ρ.c[n]? = some a ∧ M[n]? = some c ∧ COk G H ρ a c := by
  obtain ⟨n, hn, e⟩ := List.getElem_of_mem h
  have hm : n < M.length := by rw [← S.len]; exact hn
  obtain ⟨b, hb, q⟩ := S.at_ n M[n] (List.getElem?_eq_getElem hm)
  have hb' : ρ.c[n]? = some a := by rw [List.getElem?_eq_getElem hn, e]
  rw [hb'] at hb
  cases hb
  exact ⟨n, M[n], hb', List.getElem?_eq_getElem hm, q⟩
theorem COk.has {a : Addr} {c : Cell} (h : COk G H ρ a c) : ∃ o, H a = some o ∧ isCO o := by
  cases c with
  | lst ds => obtain ⟨vs, e, _⟩ := h; exact ⟨_, e, .inl ⟨_, rfl⟩⟩
  | ins c ks ds => obtain ⟨C, dx, vs, _, e, _⟩ := h; exact ⟨_, e, .inr ⟨_, _, _, rfl⟩⟩
theorem COk.mo {H' : Hp} {ρ' : Rho} {a : Addr} {c : Cell} (e : Mo G H ρ H' ρ') (hk : H' a = H a) (h : COk G H ρ a c) : COk G H' ρ' a c := by
  cases c with
  | lst ds => obtain ⟨vs, q, r⟩ := h; exact ⟨vs, hk.trans q, r.mo e⟩
  | ins c ks ds => obtain ⟨C, dx, vs, hc, q, l, r⟩ := h; exact ⟨C, dx, vs, hc, hk.trans q, l, r.mo e⟩
theorem COk.mono {H' : Hp} {ρ' : Rho} {a : Addr} {c : Cell} (e : Ext G H ρ H' ρ') (hk : H' a = H a) (h : COk G H ρ a c) : COk G H' ρ' a c := by
  cases c with
  | lst ds => obtain ⟨vs, q, r⟩ := h; exact ⟨vs, hk.trans q, r.mono e⟩
  | ins c ks ds => obtain ⟨C, dx, vs, hc, q, l, r⟩ := h; exact ⟨C, dx, vs, hc, hk.trans q, l, r.mono e⟩
theorem RS.has {M : Sto} (S : RS G H ρ M) {a : Addr} (h : a ∈ ρ) : ∃ o, H a = some o ∧ isCO o := by
  rcases h with h | h
  · obtain ⟨_, _, _, _, q⟩ := S.trk h
    exact q.has
  · exact S.trt a h
theorem RS.fresh {M : Sto} (S : RS G H ρ M) {p : Addr} (hp : H p = none) : p ∉ ρ := fun hm => by
  obtain ⟨o, e, _⟩ := S.has hm
  rw [hp] at e; cases e
theorem sqT_upd {p : Addr} {o : HO} {a : Addr} {xs : List V} (h : SqT G.K H a xs) (hn : ∀ u, H p = some u → (∀ ys, u ≠ .tup ys) ∧ (∀ q w, u ≠ .frz q w)) : SqT G.K (upd H p o) a xs := by
  rcases h with (h | ⟨q, h⟩) | h
  · have : a ≠ p := fun z => by subst z; exact (hn _ h).1 _ rfl
    exact .inl (.inl (by rw [upd_ne this]; exact h))
  · have : a ≠ p := fun z => by subst z; exact (hn _ h).2 _ _ rfl
    exact .inl (.inr ⟨q, by rw [upd_ne this]; exact h⟩)
  · exact .inr h
theorem RS.ne_new {M : Sto} (S : RS G H ρ M) {p a : Addr} (hp : H p = none) (h : a ∈ ρ) : a ≠ p := fun z => by subst z; exact S.fresh hp h
/-- a new thing that is no cell -/
theorem Ext.new {M : Sto} (S : RS G H ρ M) {p : Addr} {o : HO} (hp : H p = none) : Ext G H ρ (upd H p o) ρ :=
  ⟨fun _ _ h => h, rfl, fun a h => upd_ne (S.ne_new hp (.inr h)), fun a xs h => sqT_upd h (fun u z => by rw [hp] at z; cases z), fun a u h1 _ h2 => ⟨by rw [upd_ne (ne_of_none h2 hp)]; exact h2, h1⟩⟩
theorem RS.ext {M : Sto} (S : RS G H ρ M) {H' : Hp} (e : Ext G H ρ H' ρ) (hk : ∀ a, a ∈ ρ.c → H' a = H a) (ht : TabR G H') : RS G H' ρ M :=
  ⟨S.len, S.nd, S.dis, fun a h => by rw [e.same a h]; exact S.trt a h, fun n c h => by
    obtain ⟨a, ha, q⟩ := S.at_ n c h
    exact ⟨a, ha, q.mono e (hk a (List.mem_of_getElem? ha))⟩, ht⟩
theorem RS.new {M : Sto} (S : RS G H ρ M) {p : Addr} {o : HO} (hp : H p = none) : RS G (upd H p o) ρ M :=
  S.ext (Ext.new S hp) (fun a ha => upd_ne (S.ne_new hp (.inl ha))) (S.tb.keeps fun b u z _ => by rw [upd_ne (ne_of_none z hp)]; exact z)
def Rho.add (ρ : Rho) (p : Addr) : Rho := ⟨ρ.c ++ [p], ρ.t⟩
/-- a new cell -/
theorem Ext.cell {M : Sto} (S : RS G H ρ M) {p : Addr} {o : HO} (hp : H p = none) : Ext G H ρ (upd H p o) (ρ.add p) :=
  ⟨fun n a h => by show (ρ.c ++ [p])[n]? = some a; rw [List.getElem?_append_left (List.getElem?_eq_some_iff.mp h).1]; exact h, rfl, fun a h => upd_ne (S.ne_new hp (.inr h)), fun a xs h => sqT_upd h (fun u z => by rw [hp] at z; cases z),
   fun a u h1 _ h2 => ⟨by rw [upd_ne (ne_of_none h2 hp)]; exact h2, fun z => by
     rcases z with z | z
     · rcases List.mem_append.mp z with z | z
       · exact h1 (.inl z)
       · exact ne_of_none h2 hp (by simpa using z)
     · exact h1 (.inr z)⟩⟩
theorem RS.cell {M : Sto} (S : RS G H ρ M) {p : Addr} {o : HO} {c : Cell} (hp : H p = none) (hc : COk G (upd H p o) (ρ.add p) p c) : RS G (upd H p o) (ρ.add p) (M ++ [c]) :=
  ⟨by show (ρ.c ++ [p]).length = _; simp [S.len], List.nodup_append.mpr ⟨S.nd, by simp, fun a ha b hb => by
      have : b = p := by simpa using hb
      subst this
      exact S.ne_new hp (.inl ha)⟩,
   fun a ha hb => by
      rcases List.mem_append.mp ha with z | z
      · exact S.dis a z hb
      · exact S.ne_new hp (.inr hb) (by simpa using z),
   fun a h => by rw [upd_ne (S.ne_new hp (.inr h))]; exact S.trt a h,
   fun n c' h => by
    by_cases hn : n < M.length
    · rw [List.getElem?_append_left hn] at h
      obtain ⟨a, ha, q⟩ := S.at_ n c' h
      refine ⟨a, ?_, q.mono (Ext.cell S hp) (upd_ne (S.ne_new hp (.inl (List.mem_of_getElem? ha))))⟩
      show (ρ.c ++ [p])[n]? = some a
      rw [List.getElem?_append_left (by rw [S.len]; exact hn)]; exact ha
    · have e : n = M.length := by
        have := (List.getElem?_eq_some_iff.mp h).1
        simp at this; omega
      subst e
      simp at h
      subst h
      exact ⟨p, by show (ρ.c ++ [p])[M.length]? = some p; rw [← S.len]; simp, hc⟩, S.tb.keeps fun b u z _ => by rw [upd_ne (ne_of_none z hp)]; exact z⟩
/-- a cell is written -/
theorem Ext.write {M : Sto} (S : RS G H ρ M) {n : Nat} {a : Addr} {o : HO} (ha : ρ.c[n]? = some a) : Ext G H ρ (upd H a o) ρ :=
  ⟨fun _ _ h => h, rfl, fun b h => upd_ne (fun z => by subst z; exact S.dis b (List.mem_of_getElem? ha) h), fun b xs h => sqT_upd h (fun u z => by
      obtain ⟨w, e, q⟩ := S.has (.inl (List.mem_of_getElem? ha))
      rw [e] at z; cases z; exact ⟨q.tup, q.frz⟩),
    fun b u h1 _ h2 => ⟨by rw [upd_ne (fun z => h1 (by rw [z]; exact .inl (List.mem_of_getElem? ha)))]; exact h2, h1⟩⟩
theorem nodup_at : ∀ {l : List Addr}, l.Nodup → ∀ {n m : Nat} {a : Addr}, l[n]? = some a → l[m]? = some a → n = m
  | [], _, _, _, _, h, _ => by simp at h
  | x :: l, nd, 0, 0, _, _, _ => rfl
  | x :: l, nd, 0, m + 1, a, h1, h2 => by
    have e : x = a := by simpa using h1
    subst e
    exact absurd (List.mem_of_getElem? (by simpa using h2)) (List.nodup_cons.mp nd).1
  | x :: l, nd, n + 1, 0, a, h1, h2 => by
    have e : x = a := by simpa using h2
    subst e
    exact absurd (List.mem_of_getElem? (by simpa using h1)) (List.nodup_cons.mp nd).1
  | x :: l, nd, n + 1, m + 1, a, h1, h2 => by
    rw [nodup_at (List.nodup_cons.mp nd).2 (n := n) (m := m) (a := a) (by simpa using h1) (by simpa using h2)]
theorem RS.write {M : Sto} (S : RS G H ρ M) {n : Nat} {a : Addr} {o : HO} {c : Cell} (ha : ρ.c[n]? = some a) (hc : COk G (upd H a o) ρ a c) : RS G (upd H a o) ρ (M.set n c) :=
  ⟨by simp [S.len], S.nd, S.dis, fun b h => by rw [(Ext.write S ha).same b h]; exact S.trt b h, fun m c' h => by
    by_cases hm : m = n
    · subst hm
      have hl : m < M.length := by rw [← S.len]; exact (List.getElem?_eq_some_iff.mp ha).1
      rw [List.getElem?_set_self hl] at h
      cases h
      exact ⟨a, ha, hc⟩
    · rw [List.getElem?_set_ne (Ne.symm hm)] at h
      obtain ⟨b, hb, q⟩ := S.at_ m c' h
      exact ⟨b, hb, q.mono (Ext.write S ha) (upd_ne fun z => by subst z; exact hm (nodup_at S.nd hb ha))⟩, S.tb.keeps fun b u z nz => by
    rw [upd_ne fun e => ?_]
    · exact z
    · obtain ⟨w, e1, q⟩ := S.has (.inl (List.mem_of_getElem? ha))
      rw [e, e1] at z
      cases z
      exact nz q⟩
end
def RE (G : Gx) (H : Hp) (ρ : Rho) (env : En) (σ : L2.St) : Prop := env.length = σ.length ∧ ∀ (i : Nat) (d : D), env[i]? = some (some d) → ∃ v, σ[i]? = some (some v) ∧ RV G H ρ d v
theorem RE.mo {G : Gx} {H H' : Hp} {ρ ρ' : Rho} {env : En} {σ : L2.St} (e : Mo G H ρ H' ρ') (h : RE G H ρ env σ) : RE G H' ρ' env σ :=
  ⟨h.1, fun i d q => let ⟨v, a, b⟩ := h.2 i d q; ⟨v, a, b.mo e⟩⟩
theorem RE.mono {G : Gx} {H H' : Hp} {ρ ρ' : Rho} {env : En} {σ : L2.St} (e : Ext G H ρ H' ρ') (h : RE G H ρ env σ) : RE G H' ρ' env σ :=
  ⟨h.1, fun i d q => let ⟨v, a, b⟩ := h.2 i d q; ⟨v, a, b.mono e⟩⟩
theorem RE.set {G : Gx} {H : Hp} {ρ : Rho} {env : En} {σ : L2.St} {d : D} {v : V} (i : Nat) (h : RE G H ρ env σ) (r : RV G H ρ d v) : RE G H ρ (env.set i (some d)) (σ.set i (some v)) :=
  ⟨by simp [h.1], fun j d' q => by
    by_cases hj : j = i
    · subst hj
      have hl : j < env.length := by
        have := (List.getElem?_eq_some_iff.mp q).1
        simpa using this
      rw [List.getElem?_set_self hl] at q
      cases q
      exact ⟨v, List.getElem?_set_self (by rw [← h.1]; exact hl), r⟩
    · rw [List.getElem?_set_ne (Ne.symm hj)] at q
      obtain ⟨w, a, b⟩ := h.2 j d' q
      exact ⟨w, by rw [List.getElem?_set_ne (Ne.symm hj)]; exact a, b⟩⟩
/-! ### outcomes -/
structure Exn where
  c : Str
  ks : List Str
  vs : List D
inductive Out (α : Type) where
  | ok (a : α) (M : Sto)
  | exc (e : Exn) (env : En) (M : Sto)
  | bad
def Out.post {α : Type} (o : Out α) (Q : α → Sto → Prop) (E : Exn → En → Sto → Prop) : Prop :=
  match o with
  | .ok a M => Q a M
  | .exc e env M => E e env M
  | .bad => False
def Out.bind {α β : Type} (o : Out α) (k : α → Sto → Out β) : Out β :=
  match o with
  | .ok a M => k a M
  | .exc e env M => .exc e env M
  | .bad => .bad
def lift {α : Type} (o : Option α) (M : Sto) : Out α :=
  match o with
  | some a => .ok a M
  | none => .bad
theorem post_bind {α β : Type} {o : Out α} {k : α → Sto → Out β} {Q : β → Sto → Prop} {E : Exn → En → Sto → Prop} (h : (o.bind k).post Q E) : o.post (fun a M => (k a M).post Q E) E := by
  cases o <;> exact h
theorem Out.post.imp {α : Type} {o : Out α} {Q Q' : α → Sto → Prop} {E E' : Exn → En → Sto → Prop} (h : o.post Q E) (hq : ∀ a M, Q a M → Q' a M) (he : ∀ e env M, E e env M → E' e env M) : o.post Q' E' := by
  cases o with
  | ok a M => exact hq _ _ h
  | exc e env M => exact he _ _ _ h
  | bad => exact h
def eP (G : Gx) (W : WX) (H : Hp) (ρ : Rho) : Exn → En → Sto → Prop := fun e env M' =>
  ∀ ρ' H' σ' C d vs, Ext G H ρ H' ρ' → RS G H' ρ' M' → RE G H' ρ' env σ' → G.cl e.c = some C → H' d = some (.xd (e.ks.zip vs)) → d ∉ ρ' → e.ks.length = vs.length → RVs G H' ρ' e.vs vs → W (.ref C) (some d) σ' H'
def oP (G : Gx) (H : Hp) (ρ : Rho) (Q : VK) : D → Sto → Prop := fun d M' => ∀ ρ' v H', Ext G H ρ H' ρ' → RS G H' ρ' M' → RV G H' ρ' d v → Q v H'
def bP (G : Gx) (H : Hp) (ρ : Rho) (Q : Bool → Hp → Prop) : Bool → Sto → Prop := fun b M' => ∀ ρ' H', Ext G H ρ H' ρ' → RS G H' ρ' M' → Q b H'
def aP (G : Gx) (H : Hp) (ρ : Rho) (Q : List V → Hp → Prop) : List D → Sto → Prop := fun ds M' => ∀ ρ' vs H', Ext G H ρ H' ρ' → RS G H' ρ' M' → RVs G H' ρ' ds vs → Q vs H'
section
variable {G : Gx} {W : WX} {H H1 : Hp} {ρ ρ1 : Rho}
theorem eP.sh (x : Ext G H ρ H1 ρ1) {e : Exn} {env : En} {M : Sto} (h : eP G W H ρ e env M) : eP G W H1 ρ1 e env M :=
  fun ρ' H' σ' C d vs a b c e1 e2 e3 e4 e5 => h ρ' H' σ' C d vs (x.trans a) b c e1 e2 e3 e4 e5
theorem oP.sh (x : Ext G H ρ H1 ρ1) {Q : VK} {d : D} {M : Sto} (h : oP G H ρ Q d M) : oP G H1 ρ1 Q d M := fun ρ' v H' a b c => h ρ' v H' (x.trans a) b c
theorem bP.sh (x : Ext G H ρ H1 ρ1) {Q : Bool → Hp → Prop} {d : Bool} {M : Sto} (h : bP G H ρ Q d M) : bP G H1 ρ1 Q d M := fun ρ' H' a b => h ρ' H' (x.trans a) b
theorem aP.sh (x : Ext G H ρ H1 ρ1) {Q : List V → Hp → Prop} {d : List D} {M : Sto} (h : aP G H ρ Q d M) : aP G H1 ρ1 Q d M := fun ρ' v H' a b c => h ρ' v H' (x.trans a) b c
end
abbrev DE := En → Sto → Out D
abbrev DA := En → Sto → Out (List D)
abbrev DT := En → Sto → Out Bool
def dE (G : Gx) (W : WX) (f : DE) : TE := fun σ H Q => ∃ ρ env M, RE G H ρ env σ ∧ RS G H ρ M ∧ (f env M).post (oP G H ρ Q) (eP G W H ρ)
def dA (G : Gx) (W : WX) (f : DA) : TA := fun σ H Q => ∃ ρ env M, RE G H ρ env σ ∧ RS G H ρ M ∧ (f env M).post (aP G H ρ Q) (eP G W H ρ)
def dT (G : Gx) (W : WX) (f : DT) : TT := fun σ H Q => ∃ ρ env M, RE G H ρ env σ ∧ RS G H ρ M ∧ (f env M).post (bP G H ρ Q) (eP G W H ρ)
end Ip
end
section
set_option Elab.async false
set_option linter.all false
set_option maxRecDepth 100000
set_option maxHeartbeats 4000000
set_option autoImplicit false
namespace Ip
open PySem L2
theorem PEweak {X : Cx} {e : Expr} {t t' : TE} (h : PE X e t) (w : ∀ σ H Q, t' σ H Q → t σ H Q) : PE X e t' := ⟨fun pins s σ H Q I z => h.run pins s σ H Q I (w σ H Q z)⟩
theorem PTweak {X : Cx} {e : Expr} {t t' : TT} (h : PT X e t) (w : ∀ σ H Q, t' σ H Q → t σ H Q) : PT X e t' := ⟨fun pins s σ H Q I z => h.run pins s σ H Q I (w σ H Q z)⟩
theorem PWweak {X : Cx} {e : Expr} {t t' : TT} (h : PW X e t) (w : ∀ σ H Q, t' σ H Q → t σ H Q) : PW X e t' := ⟨fun wh pins s σ H Q I z => h.run wh pins s σ H Q I (w σ H Q z)⟩
theorem PAweak {X : Cx} {e : List Expr} {t t' : TA} (h : PA X e t) (w : ∀ σ H Q, t' σ H Q → t σ H Q) : PA X e t' := ⟨fun pos pins s σ H Q I z => h.run pos pins s σ H Q I (w σ H Q z)⟩
theorem PSweak {X : Cx} {e : Stmt} {t t' : TS} (h : PS X e t) (w : ∀ D σ H, t' D σ H → t D σ H) : PS X e t' := ⟨fun pins s σ H D I z => h.run pins s σ H D I (w D σ H z)⟩
theorem PSsweak {X : Cx} {e : List Stmt} {t t' : TS} (h : PSs X e t) (w : ∀ D σ H, t' D σ H → t D σ H) : PSs X e t' := ⟨fun pins s σ H D I z => h.run pins s σ H D I (w D σ H z)⟩
theorem PIweak {X : Cx} {tg e : Expr} {t t' : TI} (h : PI X tg e t) (w : ∀ σ H Q, t' σ H Q → t σ H Q) : PI X tg e t' := ⟨fun pins s σ H Q I z => h.run pins s σ H Q I (w σ H Q z)⟩
theorem PTsweak {X : Cx} {e : List Expr} {t t' : TT} (h : PTs X e t) (w : ∀ σ H Q, t' σ H Q → t σ H Q) : PTs X e t' := ⟨fun pins s σ H Q I z => h.run pins s σ H Q I (w σ H Q z)⟩
theorem POweak {X : Cx} {e : Option Expr} {t t' : TO} (h : PO X e t) (w : ∀ σ H Q, t' σ H Q → t σ H Q) : PO X e t' := ⟨fun pins s σ H Q I z => h.run pins s σ H Q I (w σ H Q z)⟩
abbrev gx (X : Cx) (cl : Str → Option Addr) : Gx := ⟨X.K, cl⟩
def SE (X : Cx) (cl : Str → Option Addr) (W : WX) (e : Expr) (f : DE) : Prop := PE X e (dE (gx X cl) W f)
def SA (X : Cx) (cl : Str → Option Addr) (W : WX) (es : List Expr) (f : DA) : Prop := PA X es (dA (gx X cl) W f)
def ST (X : Cx) (cl : Str → Option Addr) (W : WX) (e : Expr) (f : DT) : Prop := PT X e (dT (gx X cl) W f)
def SW (X : Cx) (cl : Str → Option Addr) (W : WX) (e : Expr) (f : DT) : Prop := PW X e (dT (gx X cl) W f)
/-! ### denotations of expressions -/
def dVar (i : Nat) : DE := fun env M => match env[i]? with
  | some (some d) => .ok d M
  | _ => .bad
def dC (d : D) : DE := fun _ M => .ok d M
def liftM (o : Option (D × Sto)) : Out D := match o with
  | some p => .ok p.1 p.2
  | none => .bad
abbrev G2 := D → D → Sto → Option (D × Sto)
def dBin (g : G2) (fa fb : DE) : DE := fun env M => (fa env M).bind fun x M1 => (fb env M1).bind fun y M2 => liftM (g x y M2)
def dUn (g : D → Sto → Option (D × Sto)) (fa : DE) : DE := fun env M => (fa env M).bind fun x M1 => liftM (g x M1)
def dNilA : DA := fun _ M => .ok [] M
def dConsA (fa : DE) (fr : DA) : DA := fun env M => (fa env M).bind fun x M1 => (fr env M1).bind fun xs M2 => .ok (x :: xs) M2
def dTup (fa : DA) : DE := fun env M => (fa env M).bind fun xs M1 => if xs.length ≤ 16777216 then .ok (.tup xs) M1 else .bad
def dLst (fa : DA) : DE := fun env M => (fa env M).bind fun xs M1 => if xs.length ≤ 16777216 then .ok (.lst xs) M1 else .bad
def dLstC (fa : DA) : DE := fun env M => (fa env M).bind fun xs M1 => if xs.length ≤ 16777216 then .ok (.ref M1.length) (M1 ++ [.lst xs]) else .bad
def dCallB (g : List D → Sto → Option (D × Sto)) (fa : DA) : DE := fun env M => (fa env M).bind fun xs M1 => liftM (g xs M1)
def dIfE (ft : DT) (fa fb : DE) : DE := fun env M => (ft env M).bind fun c M1 => if c then fa env M1 else fb env M1
def dAndV (fa fb : DE) : DE := fun env M => (fa env M).bind fun x M1 => match x with
  | .bl true => fb env M1
  | .bl false => .ok (.bl false) M1
  | _ => .bad
def dOrV (fa fb : DE) : DE := fun env M => (fa env M).bind fun x M1 => match x with
  | .bl true => .ok (.bl true) M1
  | .bl false => fb env M1
  | _ => .bad
def dNotV (fa : DE) : DE := fun env M => (fa env M).bind fun x M1 => match x with
  | .bl b => .ok (.bl (!b)) M1
  | _ => .bad
def dAnd (fa fb : DT) : DT := fun env M => (fa env M).bind fun c M1 => if c then fb env M1 else .ok false M1
def dOr (fa fb : DT) : DT := fun env M => (fa env M).bind fun c M1 => if c then .ok true M1 else fb env M1
def dNot (fa : DT) : DT := fun env M => (fa env M).bind fun c M1 => .ok (!c) M1
/-- the truth of a value that is no object -/
def truD (x : D) (M : Sto) : Option Bool := match x with
  | .non => some false
  | .bl b => some b
  | .int i => some (i != 0)
  | .lst l => some (!l.isEmpty)
  | .tup l => some (!l.isEmpty)
  | .ref n => match M[n]? with
    | some (.lst l) => some (!l.isEmpty)
    | _ => none
  | _ => none
def dTru (fa : DE) : DT := fun env M => (fa env M).bind fun x M1 => match truD x M1 with
  | some b => .ok b M1
  | none => .bad
def dChain (g g' : G2) (fa fb fc : DE) : DE := fun env M => (fa env M).bind fun x M1 => (fb env M1).bind fun y M2 => (liftM (g x y M2)).bind fun z M3 => match z with
  | .bl true => (fc env M3).bind fun w M4 => liftM (g' y w M4)
  | .bl false => .ok (.bl false) M3
  | _ => .bad
/-! ### rules by values -/
def OpS (G : Gx) (r : R2) (g : G2) : Prop := ∀ (H : Hp) (ρ : Rho) (M : Sto) (x y : V) (dx dy d : D) (M' : Sto) (Q : VK), RS G H ρ M → RV G H ρ dx x → RV G H ρ dy y → g dx dy M = some (d, M') → oP G H ρ Q d M' → r x y H Q
def UnS (G : Gx) (r : V → Hp → VK → Prop) (g : D → Sto → Option (D × Sto)) : Prop := ∀ (H : Hp) (ρ : Rho) (M : Sto) (x : V) (dx d : D) (M' : Sto) (Q : VK), RS G H ρ M → RV G H ρ dx x → g dx M = some (d, M') → oP G H ρ Q d M' → r x H Q
def CallS (G : Gx) (r : List V → Hp → VK → Prop) (g : List D → Sto → Option (D × Sto)) : Prop := ∀ (H : Hp) (ρ : Rho) (M : Sto) (xs : List V) (ds : List D) (d : D) (M' : Sto) (Q : VK), RS G H ρ M → RVs G H ρ ds xs → g ds M = some (d, M') → oP G H ρ Q d M' → r xs H Q
section
variable {X : Cx} {cl : Str → Option Addr} {W : WX} {G : Gx}
theorem lift_some {o : Option (D × Sto)} {Q : D → Sto → Prop} {E : Exn → En → Sto → Prop} (h : (liftM o).post Q E) : ∃ d M, o = some (d, M) ∧ Q d M := by
  cases o with
  | none => exact h.elim
  | some p => exact ⟨p.1, p.2, rfl, h⟩
theorem two {r : R2} {g : G2} {fa fb : DE} {σ : L2.St} {H : Hp} {Q : VK} {ρ : Rho} {env : En} {M : Sto} (hg : OpS G r g) (hE : RE G H ρ env σ) (hS : RS G H ρ M) (h : (dBin g fa fb env M).post (oP G H ρ Q) (eP G W H ρ)) : tOp r (dE G W fa) (dE G W fb) σ H Q := by
  refine ⟨ρ, env, M, hE, hS, (post_bind h).imp (fun x M1 hx ρ1 v H1 e1 S1 r1 => ?_) (fun _ _ _ z => z)⟩
  refine ⟨ρ1, env, M1, hE.mono e1, S1, (post_bind hx).imp (fun y M2 hy ρ2 w H2 e2 S2 r2 => ?_) (fun _ _ _ z => eP.sh e1 z)⟩
  obtain ⟨d, M', e, q⟩ := lift_some hy
  exact hg H2 ρ2 M2 v w x y d M' Q S2 (r1.mono e2) r2 e (oP.sh (e1.trans e2) q)
theorem se_var {i : Nat} {x : Str} {pos : Pos} (hN : X.N[i]? = some x) (hv : Vis X.env.scope x) (hd : (x == ("__debug__" : Str)) = false := by decide) (hcd : (x == ("__classdict__" : Str)) = false := by decide) : SE X cl W (.Name x pos) (dVar i) := by
  refine PEweak (pe_var hN hv hd hcd) fun σ H Q ⟨ρ, env, M, hE, hS, h⟩ => ?_
  unfold dVar at h
  split at h
  · rename_i d hd'
    obtain ⟨v, e, r⟩ := hE.2 i d hd'
    exact ⟨v, e, h ρ v H .refl hS r⟩
  · exact h.elim
theorem se_const {e : Expr} {d : D} {v : V} (h : PE X e (tC v)) (hr : ∀ H ρ, RV (gx X cl) H ρ d v) : SE X cl W e (dC d) :=
  PEweak h fun σ H Q ⟨ρ, env, M, hE, hS, q⟩ => q ρ v H .refl hS (hr H ρ)
theorem se_int {i j pos} : SE X cl W (.Constant (.int i) j pos) (dC (.int i)) := se_const pe_int fun _ _ => .int i
theorem se_bl {b j pos} : SE X cl W (.Constant (.bool b) j pos) (dC (.bl b)) := se_const pe_bl fun _ _ => .bl b
theorem se_non {j pos} : SE X cl W (.Constant .none j pos) (dC .non) := se_const pe_non fun _ _ => .non
theorem se_str {x j pos} : SE X cl W (.Constant (.str x) j pos) (dC (.str x)) := se_const pe_str fun _ _ => .str x
theorem se_bin {op : Operator} {r : R2} {g : G2} {a b : Expr} {fa fb : DE} {pos : Pos} (ho : OpR X (binaryOp op) r) (hg : OpS (gx X cl) r g) (ha : SE X cl W a fa) (hb : SE X cl W b fb) : SE X cl W (.BinOp a op b pos) (dBin g fa fb) :=
  PEweak (pe_op ho ha hb) fun _ _ _ ⟨_, _, _, hE, hS, h⟩ => two hg hE hS h
theorem se_cmp {op : CmpOp} {r : R2} {g : G2} {a b : Expr} {fa fb : DE} {pos : Pos} (ho : OpR X (compareOp op) r) (hg : OpS (gx X cl) r g) (ha : SE X cl W a fa) (hb : SE X cl W b fb) (hm : behindInMarks op b = false) : SE X cl W (.Compare a [op] [b] pos) (dBin g fa fb) :=
  PEweak (pe_cmpR ho ha hb hm) fun _ _ _ ⟨_, _, _, hE, hS, h⟩ => two hg hE hS h
theorem se_ix {r : R2} {g : G2} {a b : Expr} {fa fb : DE} {pos : Pos} (ho : IxR X r) (hg : OpS (gx X cl) r g) (ha : SE X cl W a fa) (hb : SE X cl W b fb) (hs : PlainIx b) : SE X cl W (.Subscript a b pos) (dBin g fa fb) :=
  PEweak (pe_ix ho ha hb hs) fun _ _ _ ⟨_, _, _, hE, hS, h⟩ => two hg hE hS h
theorem se_un {op : UnaryOp} {r : V → Hp → VK → Prop} {g : D → Sto → Option (D × Sto)} {a : Expr} {fa : DE} {pos : Pos} (ho : UnR X (unaryOp op) r) (hg : UnS (gx X cl) r g) (ha : SE X cl W a fa) : SE X cl W (.UnaryOp op a pos) (dUn g fa) :=
  PEweak (pe_un ho ha) fun σ H Q ⟨ρ, env, M, hE, hS, h⟩ => by
    refine ⟨ρ, env, M, hE, hS, (post_bind h).imp (fun x M1 hx ρ1 v H1 e1 S1 r1 => ?_) (fun _ _ _ z => z)⟩
    obtain ⟨d, M', e, q⟩ := lift_some hx
    exact hg H1 ρ1 M1 v x d M' Q S1 r1 e (oP.sh e1 q)
theorem sa_nil : SA X cl W [] dNilA := PAweak pa_nil fun σ H Q ⟨ρ, env, M, hE, hS, h⟩ => h ρ [] H .refl hS .nil
theorem sa_cons {e : Expr} {es : List Expr} {fe : DE} {fr : DA} (he : SE X cl W e fe) (hr : SA X cl W es fr) (hs : starEach (e :: es) X.env = (false, eval e X.env) :: starEach es X.env := by rfl) : SA X cl W (e :: es) (dConsA fe fr) :=
  PAweak (pa_cons he hr hs) fun σ H Q ⟨ρ, env, M, hE, hS, h⟩ => by
    refine ⟨ρ, env, M, hE, hS, (post_bind h).imp (fun x M1 hx ρ1 v H1 e1 S1 r1 => ?_) (fun _ _ _ z => z)⟩
    refine ⟨ρ1, env, M1, hE.mono e1, S1, (post_bind hx).imp (fun y M2 hy ρ2 w H2 e2 S2 r2 => ?_) (fun _ _ _ z => eP.sh e1 z)⟩
    exact hy ρ2 (v :: w) H2 (e1.trans e2) S2 (.cons (r1.mono e2) r2)
theorem line_of {n : Nat} (h : n ≤ 16777216) : n ≤ sizeLine := by rw [sizeLine_eq]; exact h
theorem se_tup {es : List Expr} {fa : DA} {k : Nat} {pos : Pos} (ha : SA X cl W es fa) : SE X cl W (.Tuple es k pos) (dTup fa) :=
  PEweak (pe_tup ha) fun σ H Q ⟨ρ, env, M, hE, hS, h⟩ => by
    refine ⟨ρ, env, M, hE, hS, (post_bind h).imp (fun x M1 hx ρ1 v H1 e1 S1 r1 => ?_) (fun _ _ _ z => z)⟩
    split at hx
    · rename_i hl
      exact ⟨by rw [r1.length]; exact line_of hl, fun p hp => hx ρ1 _ _ (e1.trans (Ext.new S1 hp)) (S1.new hp) (.tup (SqT.of upd_same) (r1.mono (Ext.new S1 hp)))⟩
    · exact hx.elim
theorem se_lst {es : List Expr} {fa : DA} {pos : Pos} (ha : SA X cl W es fa) : SE X cl W (.List es pos) (dLst fa) :=
  PEweak (pe_lst ha) fun σ H Q ⟨ρ, env, M, hE, hS, h⟩ => by
    refine ⟨ρ, env, M, hE, hS, (post_bind h).imp (fun x M1 hx ρ1 v H1 e1 S1 r1 => ?_) (fun _ _ _ z => z)⟩
    split at hx
    · rename_i hl
      exact ⟨by rw [r1.length]; exact line_of hl, fun p hp => hx ρ1 _ _ (e1.trans (Ext.new S1 hp)) (S1.new hp) (.lst upd_same (S1.fresh hp) (r1.mono (Ext.new S1 hp)))⟩
    · exact hx.elim
theorem RS.newLst {H : Hp} {ρ : Rho} {M : Sto} {ds : List D} {vs : List V} {p : Addr} (S : RS G H ρ M) (hp : H p = none) (r : RVs G H ρ ds vs) : RS G (upd H p (.lst vs)) (ρ.add p) (M ++ [.lst ds]) :=
  S.cell hp ⟨vs, upd_same, r.mono (Ext.cell S hp)⟩
theorem RS.at_new {H : Hp} {ρ : Rho} {M : Sto} {p : Addr} (S : RS G H ρ M) : (ρ.add p).c[M.length]? = some p := by show (ρ.c ++ [p])[M.length]? = some p; rw [← S.len]; simp
theorem se_lstC {es : List Expr} {fa : DA} {pos : Pos} (ha : SA X cl W es fa) : SE X cl W (.List es pos) (dLstC fa) :=
  PEweak (pe_lst ha) fun σ H Q ⟨ρ, env, M, hE, hS, h⟩ => by
    refine ⟨ρ, env, M, hE, hS, (post_bind h).imp (fun x M1 hx ρ1 v H1 e1 S1 r1 => ?_) (fun _ _ _ z => z)⟩
    split at hx
    · rename_i hl
      exact ⟨by rw [r1.length]; exact line_of hl, fun p hp => hx _ _ _ (e1.trans (Ext.cell S1 hp)) (S1.newLst hp r1) (.ref S1.at_new)⟩
    · exact hx.elim
theorem se_callB {id : String} {r : List V → Hp → VK → Prop} {g : List D → Sto → Option (D × Sto)} {x : Str} {e : Expr} {es : List Expr} {fa : DA} {p pos : Pos} (hc : CallR X (.builtin id) r) (hg' : CallS (gx X cl) r g) (hg : Gl X x) (hm : X.mg x = none) (hv : bootBuiltins x = some (.builtin id)) (ha : SA X cl W (e :: es) fa)
    (hn : x ≠ "__name__" := by decide) (hdb : (x == ("__debug__" : Str)) = false := by decide)
    (he : starEach (e :: es) X.env = (false, eval e X.env) :: starEach es X.env := by rfl) (hpl : (backTo pos (starEach es X.env)).any (·.1) = false := by rfl) : SE X cl W (.Call (.Name x p) (e :: es) [] pos) (dCallB g fa) :=
  PEweak (pe_callB hc hg hm hv ha hn hdb he hpl) fun σ H Q ⟨ρ, env, M, hE, hS, h⟩ => by
    refine ⟨ρ, env, M, hE, hS, (post_bind h).imp (fun x M1 hx ρ1 v H1 e1 S1 r1 => ?_) (fun _ _ _ z => z)⟩
    obtain ⟨d, M', e, q⟩ := lift_some hx
    exact hg' H1 ρ1 M1 v x d M' Q S1 r1 e (oP.sh e1 q)
theorem se_callTy {T : String} {r : List V → Hp → VK → Prop} {g : List D → Sto → Option (D × Sto)} {x : Str} {e : Expr} {es : List Expr} {fa : DA} {p pos : Pos} (hc : CallR X (.type T) r) (hg' : CallS (gx X cl) r g) (hg : Gl X x) (hm : X.mg x = none) (hv : bootBuiltins x = some (.type T)) (ha : SA X cl W (e :: es) fa)
    (hn : x ≠ "__name__" := by decide) (hdb : (x == ("__debug__" : Str)) = false := by decide)
    (he : starEach (e :: es) X.env = (false, eval e X.env) :: starEach es X.env := by rfl) (hpl : (backTo pos (starEach es X.env)).any (·.1) = false := by rfl) : SE X cl W (.Call (.Name x p) (e :: es) [] pos) (dCallB g fa) :=
  PEweak (pe_callTy hc hg hm hv ha hn hdb he hpl) fun σ H Q ⟨ρ, env, M, hE, hS, h⟩ => by
    refine ⟨ρ, env, M, hE, hS, (post_bind h).imp (fun x M1 hx ρ1 v H1 e1 S1 r1 => ?_) (fun _ _ _ z => z)⟩
    obtain ⟨d, M', e, q⟩ := lift_some hx
    exact hg' H1 ρ1 M1 v x d M' Q S1 r1 e (oP.sh e1 q)
theorem tru_ok' {H : Hp} {ρ : Rho} {M : Sto} {d : D} {v : V} {b : Bool} (S : RS G H ρ M) (r : RV G H ρ d v) (h : truD d M = some b) : TruV G.K v H b := by
  cases r with
  | non => cases h; rfl
  | bl c => cases h; rfl
  | int i => cases h; rfl
  | str s => cases h
  | ty s => cases h
  | tup hs rs => cases h; exact .inr (.inl ⟨_, hs, by cases rs <;> rfl⟩)
  | lst hs hn rs => cases h; exact .inl ⟨_, SqL.of hs, by cases rs <;> rfl⟩
  | scr hs => cases h
  | obj => cases h
  | cls => cases h
  | ref hn =>
    rename_i n a
    have h' : (match M[n]? with
      | some (.lst l) => some (!l.isEmpty)
      | _ => none) = some b := h
    split at h'
    · rename_i l hl
      cases h'
      obtain ⟨b, hb, vs, hv, rs⟩ := S.at_ _ _ hl
      rw [hn] at hb; cases hb
      exact .inl ⟨_, SqL.of hv, by cases rs <;> rfl⟩
    · cases h'
theorem st_val {e : Expr} {fe : DE} (he : SE X cl W e fe) (ht : ∀ whole, isTrue e X.env whole = (do let v ← whole; standAt e.pos; holding [v] (truthy v)) := by intro _; rfl) : ST X cl W e (dTru fe) :=
  PTweak (pt_truth he ht) fun σ H Q ⟨ρ, env, M, hE, hS, h⟩ => by
    refine ⟨ρ, env, M, hE, hS, (post_bind h).imp (fun x M1 hx ρ1 v H1 e1 S1 r1 => ?_) (fun _ _ _ z => z)⟩
    split at hx
    · rename_i b hb
      exact ⟨b, tru_ok' S1 r1 hb, hx ρ1 H1 e1 S1⟩
    · exact hx.elim
def dB (fe : DE) : DT := fun env M => (fe env M).bind fun x M1 => match x with
  | .bl b => .ok b M1
  | _ => .bad
theorem dB_ok {fe : DE} {σ : L2.St} {H : Hp} {Q : Bool → Hp → Prop} (h : dT G W (dB fe) σ H Q) : dE G W fe σ H fun x H' => ∃ k, x = .bl k ∧ Q k H' := by
  obtain ⟨ρ, env, M, hE, hS, h⟩ := h
  refine ⟨ρ, env, M, hE, hS, (post_bind h).imp (fun x M1 hx ρ1 v H1 e1 S1 r1 => ?_) (fun _ _ _ z => z)⟩
  cases r1 with
  | bl b => exact ⟨b, rfl, hx ρ1 H1 e1 S1⟩
  | _ => exact hx.elim
theorem st_cmp {op : CmpOp} {r : R2} {g : G2} {a b : Expr} {fa fb : DE} {pos : Pos} (ho : OpR X (compareOp op) r) (hg : OpS (gx X cl) r g) (ha : SE X cl W a fa) (hb : SE X cl W b fb) (hm : behindInMarks op b = false) : ST X cl W (.Compare a [op] [b] pos) (dB (dBin g fa fb)) :=
  PTweak (pt_cmpR ho ha hb hm) fun σ H Q h => by
    obtain ⟨ρ, env, M, hE, hS, h⟩ := dB_ok h
    exact two hg hE hS h
theorem sw_and1 {a : Expr} {fa : DT} {pos : Pos} (ha : ST X cl W a fa) : SW X cl W (.BoolOp .And [a] pos) fa := pw_and1 ha
theorem sw_or1 {a : Expr} {fa : DT} {pos : Pos} (ha : ST X cl W a fa) : SW X cl W (.BoolOp .Or [a] pos) fa := pw_or1 ha
theorem sw_and {a b : Expr} {rest : List Expr} {fa fb : DT} {pos : Pos} (ha : ST X cl W a fa) (hb : SW X cl W (.BoolOp .And (b :: rest) pos) fb) : SW X cl W (.BoolOp .And (a :: b :: rest) pos) (dAnd fa fb) :=
  PWweak (pw_and ha hb) fun σ H Q ⟨ρ, env, M, hE, hS, h⟩ => by
    refine ⟨ρ, env, M, hE, hS, (post_bind h).imp (fun c M1 hx ρ1 H1 e1 S1 => ?_) (fun _ _ _ z => z)⟩
    cases c with
    | true => exact ⟨ρ1, env, M1, hE.mono e1, S1, Out.post.imp hx (fun _ _ z => bP.sh e1 z) (fun _ _ _ z => eP.sh e1 z)⟩
    | false => exact hx ρ1 H1 e1 S1
theorem sw_or {a b : Expr} {rest : List Expr} {fa fb : DT} {pos : Pos} (ha : ST X cl W a fa) (hb : SW X cl W (.BoolOp .Or (b :: rest) pos) fb) : SW X cl W (.BoolOp .Or (a :: b :: rest) pos) (dOr fa fb) :=
  PWweak (pw_or ha hb) fun σ H Q ⟨ρ, env, M, hE, hS, h⟩ => by
    refine ⟨ρ, env, M, hE, hS, (post_bind h).imp (fun c M1 hx ρ1 H1 e1 S1 => ?_) (fun _ _ _ z => z)⟩
    cases c with
    | false => exact ⟨ρ1, env, M1, hE.mono e1, S1, Out.post.imp hx (fun _ _ z => bP.sh e1 z) (fun _ _ _ z => eP.sh e1 z)⟩
    | true => exact hx ρ1 H1 e1 S1
theorem SW.st {e : Expr} {f : DT} (h : SW X cl W e f) : ST X cl W e f := PW.pt h
theorem st_not {a : Expr} {fa : DT} {pos : Pos} (ha : ST X cl W a fa) : ST X cl W (.UnaryOp .Not a pos) (dNot fa) :=
  PTweak (pt_not ha) fun σ H Q ⟨ρ, env, M, hE, hS, h⟩ => ⟨ρ, env, M, hE, hS, (post_bind h).imp (fun c M1 hx ρ1 H1 e1 S1 => hx ρ1 H1 e1 S1) (fun _ _ _ z => z)⟩
theorem se_one {op : BoolOp} {a : Expr} {fa : DE} {pos : Pos} (ha : SE X cl W a fa) : SE X cl W (.BoolOp op [a] pos) fa := pe_one ha
theorem se_and {a b : Expr} {rest : List Expr} {fa fb : DE} {pos : Pos} (ha : SE X cl W a fa) (hb : SE X cl W (.BoolOp .And (b :: rest) pos) fb) : SE X cl W (.BoolOp .And (a :: b :: rest) pos) (dAndV fa fb) :=
  PEweak (pe_and ha hb) fun σ H Q ⟨ρ, env, M, hE, hS, h⟩ => by
    refine ⟨ρ, env, M, hE, hS, (post_bind h).imp (fun c M1 hx ρ1 v H1 e1 S1 r1 => ?_) (fun _ _ _ z => z)⟩
    cases r1 with
    | bl b =>
      cases b with
      | true => exact ⟨true, rfl, ρ1, env, M1, hE.mono e1, S1, Out.post.imp hx (fun _ _ z => oP.sh e1 z) (fun _ _ _ z => eP.sh e1 z)⟩
      | false => exact ⟨false, rfl, hx ρ1 _ H1 e1 S1 (.bl false)⟩
    | _ => exact hx.elim
theorem se_or {a b : Expr} {rest : List Expr} {fa fb : DE} {pos : Pos} (ha : SE X cl W a fa) (hb : SE X cl W (.BoolOp .Or (b :: rest) pos) fb) : SE X cl W (.BoolOp .Or (a :: b :: rest) pos) (dOrV fa fb) :=
  PEweak (pe_or ha hb) fun σ H Q ⟨ρ, env, M, hE, hS, h⟩ => by
    refine ⟨ρ, env, M, hE, hS, (post_bind h).imp (fun c M1 hx ρ1 v H1 e1 S1 r1 => ?_) (fun _ _ _ z => z)⟩
    cases r1 with
    | bl b =>
      cases b with
      | false => exact ⟨false, rfl, ρ1, env, M1, hE.mono e1, S1, Out.post.imp hx (fun _ _ z => oP.sh e1 z) (fun _ _ _ z => eP.sh e1 z)⟩
      | true => exact ⟨true, rfl, hx ρ1 _ H1 e1 S1 (.bl true)⟩
    | _ => exact hx.elim
theorem se_not {a : Expr} {fa : DE} {pos : Pos} (ha : SE X cl W a fa) : SE X cl W (.UnaryOp .Not a pos) (dNotV fa) :=
  PEweak (pe_not ha) fun σ H Q ⟨ρ, env, M, hE, hS, h⟩ => by
    refine ⟨ρ, env, M, hE, hS, (post_bind h).imp (fun c M1 hx ρ1 v H1 e1 S1 r1 => ?_) (fun _ _ _ z => z)⟩
    cases r1 with
    | bl b => exact ⟨b, rfl, hx ρ1 _ H1 e1 S1 (.bl _)⟩
    | _ => exact hx.elim
theorem se_if {c a b : Expr} {fc : DT} {fa fb : DE} {pos : Pos} (hc : ST X cl W c fc) (ha : SE X cl W a fa) (hb : SE X cl W b fb) : SE X cl W (.IfExp c a b pos) (dIfE fc fa fb) :=
  PEweak (pe_ifExp hc ha hb) fun σ H Q ⟨ρ, env, M, hE, hS, h⟩ => by
    refine ⟨ρ, env, M, hE, hS, (post_bind h).imp (fun c M1 hx ρ1 H1 e1 S1 => ?_) (fun _ _ _ z => z)⟩
    cases c with
    | true => exact ⟨ρ1, env, M1, hE.mono e1, S1, Out.post.imp hx (fun _ _ z => oP.sh e1 z) (fun _ _ _ z => eP.sh e1 z)⟩
    | false => exact ⟨ρ1, env, M1, hE.mono e1, S1, Out.post.imp hx (fun _ _ z => oP.sh e1 z) (fun _ _ _ z => eP.sh e1 z)⟩
theorem se_chain {op op' : CmpOp} {r r' : R2} {g g' : G2} {a b c : Expr} {fa fb fc : DE} {pos : Pos} (ho : OpR X (compareOp op) r) (hg : OpS (gx X cl) r g) (ho' : OpR X (compareOp op') r') (hg' : OpS (gx X cl) r' g') (ha : SE X cl W a fa) (hb : SE X cl W b fb) (hc : SE X cl W c fc)
    (hm : lastMarks [op, op'] [b, c] = false := by with_unfolding_all rfl) : SE X cl W (.Compare a [op, op'] [b, c] pos) (dChain g g' fa fb fc) :=
  PEweak (pe_chain ho ho' ha hb hc hm) fun σ H Q ⟨ρ, env, M, hE, hS, h⟩ => by
    refine ⟨ρ, env, M, hE, hS, (post_bind h).imp (fun x M1 hx ρ1 v H1 e1 S1 r1 => ?_) (fun _ _ _ z => z)⟩
    refine ⟨ρ1, env, M1, hE.mono e1, S1, (post_bind hx).imp (fun y M2 hy ρ2 w H2 e2 S2 r2 => ?_) (fun _ _ _ z => eP.sh e1 z)⟩
    obtain ⟨d, M3, e, q⟩ := lift_some (post_bind hy)
    refine hg H2 ρ2 M2 v w x y d M3 _ S2 (r1.mono e2) r2 e fun ρ3 z H3 e3 S3 r3 => ?_
    cases r3 with
    | bl k =>
      refine ⟨k, rfl, ?_⟩
      cases k with
      | false =>
        rw [if_neg (by decide)]
        exact q ρ3 _ H3 (e1.trans (e2.trans e3)) S3 (.bl _)
      | true =>
        rw [if_pos rfl]
        refine ⟨ρ3, env, M3, hE.mono (e1.trans (e2.trans e3)), S3, (post_bind q).imp (fun u M4 hu ρ4 w4 H4 e4 S4 r4 => ?_) (fun _ _ _ z => eP.sh (e1.trans (e2.trans e3)) z)⟩
        obtain ⟨d5, M5, e5, q5⟩ := lift_some hu
        exact hg' H4 ρ4 M4 w w4 y u d5 M5 Q S4 (r2.mono (e3.trans e4)) r4 e5 (oP.sh (e1.trans (e2.trans (e3.trans e4))) q5)
    | _ => exact q.elim
theorem st_chain {op op' : CmpOp} {r r' : R2} {g g' : G2} {a b c : Expr} {fa fb fc : DE} {pos : Pos} (ho : OpR X (compareOp op) r) (hg : OpS (gx X cl) r g) (ho' : OpR X (compareOp op') r') (hg' : OpS (gx X cl) r' g') (ha : SE X cl W a fa) (hb : SE X cl W b fb) (hc : SE X cl W c fc)
    (hm : lastMarks [op, op'] [b, c] = false := by with_unfolding_all rfl) : ST X cl W (.Compare a [op, op'] [b, c] pos) (dB (dChain g g' fa fb fc)) := by
  refine PTweak (pt_chain ho ho' ha hb hc hm) fun σ H Q h => ?_
  obtain ⟨ρ, env, M, hE, hS, h⟩ := dB_ok h
  refine ⟨ρ, env, M, hE, hS, (post_bind h).imp (fun x M1 hx ρ1 v H1 e1 S1 r1 => ?_) (fun _ _ _ z => z)⟩
  refine ⟨ρ1, env, M1, hE.mono e1, S1, (post_bind hx).imp (fun y M2 hy ρ2 w H2 e2 S2 r2 => ?_) (fun _ _ _ z => eP.sh e1 z)⟩
  obtain ⟨d, M3, e, q⟩ := lift_some (post_bind hy)
  refine hg H2 ρ2 M2 v w x y d M3 _ S2 (r1.mono e2) r2 e fun ρ3 z H3 e3 S3 r3 => ?_
  cases r3 with
  | bl k =>
    refine ⟨k, rfl, ?_⟩
    cases k with
    | false =>
      rw [if_neg (by decide)]
      exact q ρ3 _ H3 (e1.trans (e2.trans e3)) S3 (.bl _)
    | true =>
      rw [if_pos rfl]
      refine ⟨ρ3, env, M3, hE.mono (e1.trans (e2.trans e3)), S3, (post_bind q).imp (fun u M4 hu ρ4 w4 H4 e4 S4 r4 => ?_) (fun _ _ _ z => eP.sh (e1.trans (e2.trans e3)) z)⟩
      obtain ⟨d5, M5, e5, q5⟩ := lift_some hu
      exact hg' H4 ρ4 M4 w w4 y u d5 M5 _ S4 (r2.mono (e3.trans e4)) r4 e5 (oP.sh (e1.trans (e2.trans (e3.trans e4))) q5)
  | _ => exact q.elim
end
end Ip
end
section
set_option Elab.async false
set_option linter.all false
set_option maxRecDepth 100000
set_option maxHeartbeats 4000000
set_option autoImplicit false
namespace Ip
open PySem L2
/-! ### statements -/
inductive Fl where
  | nx (env : En) | rt (d : D) | bk (env : En) | ct (env : En)
abbrev DS := En → Sto → Out Fl
def nP (G : Gx) (H : Hp) (ρ : Rho) (N : L2.St → Hp → Prop) : En → Sto → Prop := fun env' M' => ∀ ρ' σ' H', Ext G H ρ H' ρ' → RS G H' ρ' M' → RE G H' ρ' env' σ' → N σ' H'
def sP (G : Gx) (H : Hp) (ρ : Rho) (D : Ends) : Fl → Sto → Prop
  | .nx env', M' => nP G H ρ D.nx env' M'
  | .rt d, M' => oP G H ρ D.rt d M'
  | .bk env', M' => nP G H ρ D.bk env' M'
  | .ct env', M' => nP G H ρ D.ct env' M'
def dS (G : Gx) (W : WX) (f : DS) : TS := fun D σ H => ∃ ρ env M, RE G H ρ env σ ∧ RS G H ρ M ∧ (f env M).post (sP G H ρ D) (eP G W H ρ)
def SS (X : Cx) (cl : Str → Option Addr) (W : WX) (st : Stmt) (f : DS) : Prop := PS X st (dS (gx X cl) W f)
def SSs (X : Cx) (cl : Str → Option Addr) (W : WX) (sts : List Stmt) (f : DS) : Prop := PSs X sts (dS (gx X cl) W f)
def dSeq (f g : DS) : DS := fun env M => (f env M).bind fun fl M1 => match fl with
  | .nx env1 => g env1 M1
  | o => .ok o M1
def dSkip : DS := fun env M => .ok (.nx env) M
def dSet (i : Nat) (fe : DE) : DS := fun env M => (fe env M).bind fun d M1 => .ok (.nx (env.set i (some d))) M1
def dDrop (fe : DE) : DS := fun env M => (fe env M).bind fun _ M1 => .ok (.nx env) M1
def dRet (fe : DE) : DS := fun env M => (fe env M).bind fun d M1 => .ok (.rt d) M1
def dRetN : DS := fun _ M => .ok (.rt .non) M
def dIf (ft : DT) (fa fb : DS) : DS := fun env M => (ft env M).bind fun c M1 => if c then fa env M1 else fb env M1
def dBrk : DS := fun env M => .ok (.bk env) M
def dCnt : DS := fun env M => .ok (.ct env) M
def dBad : DS := fun _ _ => .bad
abbrev DG := D → En → Option En
def dG (G : Gx) (t : DG) : TG := fun v σ H Q => ∃ ρ env d env', RE G H ρ env σ ∧ RV G H ρ d v ∧ t d env = some env' ∧ ∀ σ', RE G H ρ env' σ' → Q σ' H
def tgName (i : Nat) : DG := fun d env => some (env.set i (some d))
def tgAll : List Nat → List D → En → Option En
  | [], [], env => some env
  | i :: is, d :: ds, env => tgAll is ds (env.set i (some d))
  | _, _, _ => none
def tgTup (is : List Nat) : DG := fun d env => match d with
  | .tup ds => tgAll is ds env
  | _ => none
def SG (X : Cx) (cl : Str → Option Addr) (tg : Expr) (t : DG) : Prop := PG X tg (dG (gx X cl) t)
section
variable {X : Cx} {cl : Str → Option Addr} {W : WX} {G : Gx} {H H1 : Hp} {ρ ρ1 : Rho}
theorem nP.sh (x : Ext G H ρ H1 ρ1) {N : L2.St → Hp → Prop} {env : En} {M : Sto} (h : nP G H ρ N env M) : nP G H1 ρ1 N env M := fun ρ' v H' a b c => h ρ' v H' (x.trans a) b c
theorem sP.sh (x : Ext G H ρ H1 ρ1) {D : Ends} {fl : Fl} {M : Sto} (h : sP G H ρ D fl M) : sP G H1 ρ1 D fl M := by
  cases fl with
  | nx env => exact nP.sh x h
  | rt d => exact oP.sh x h
  | bk env => exact nP.sh x h
  | ct env => exact nP.sh x h
theorem PGweak {tg : Expr} {t t' : TG} (h : PG X tg t) (w : ∀ v σ H Q, t' v σ H Q → t v σ H Q) : PG X tg t' := ⟨fun pins s σ H v u Q I r z => h.run pins s σ H v u Q I r (w v σ H Q z)⟩
theorem ss_nil : SSs X cl W [] dSkip := PSsweak pss_nil fun D σ H ⟨ρ, env, M, hE, hS, h⟩ => h ρ σ H .refl hS hE
theorem ss_cons {st : Stmt} {sts : List Stmt} {f g : DS} (h1 : SS X cl W st f) (h2 : SSs X cl W sts g) : SSs X cl W (st :: sts) (dSeq f g) :=
  PSsweak (pss_cons h1 h2) fun D σ H ⟨ρ, env, M, hE, hS, h⟩ => by
    refine ⟨ρ, env, M, hE, hS, (post_bind h).imp (fun fl M1 hx => ?_) (fun _ _ _ z => z)⟩
    cases fl with
    | nx env1 => exact fun ρ' σ' H' e1 S1 E1 => ⟨ρ', env1, M1, E1, S1, Out.post.imp hx (fun _ _ z => sP.sh e1 z) (fun _ _ _ z => eP.sh e1 z)⟩
    | rt d => exact hx
    | bk env1 => exact hx
    | ct env1 => exact hx
theorem ss_one {st : Stmt} {f : DS} (h1 : SS X cl W st f) : SSs X cl W [st] f := pss_one h1
theorem ss_pass {pos : Pos} : SS X cl W (.Pass pos) dSkip := PSweak ps_pass fun D σ H ⟨ρ, env, M, hE, hS, h⟩ => h ρ σ H .refl hS hE
theorem ss_break {pos : Pos} : SS X cl W (.Break pos) dBrk := PSweak ps_break fun D σ H ⟨ρ, env, M, hE, hS, h⟩ => h ρ σ H .refl hS hE
theorem ss_continue {pos : Pos} : SS X cl W (.Continue pos) dCnt := PSweak ps_continue fun D σ H ⟨ρ, env, M, hE, hS, h⟩ => h ρ σ H .refl hS hE
theorem ss_never {st : Stmt} : SS X cl W st dBad := PSweak ps_never fun D σ H ⟨ρ, env, M, hE, hS, h⟩ => h
theorem ss_expr {e : Expr} {fe : DE} {pos : Pos} (he : SE X cl W e fe) (hs : swapsWith e none pos.line X.env = pure false := by rfl) : SS X cl W (.Expr e pos) (dDrop fe) :=
  PSweak (ps_expr he hs) fun D σ H ⟨ρ, env, M, hE, hS, h⟩ =>
    ⟨ρ, env, M, hE, hS, (post_bind h).imp (fun d M1 hx ρ1 v H1 e1 S1 r1 => hx ρ1 σ H1 e1 S1 (hE.mono e1)) (fun _ _ _ z => z)⟩
theorem ss_ret {e : Expr} {fe : DE} {pos : Pos} (he : SE X cl W e fe) : SS X cl W (.Return (some e) pos) (dRet fe) :=
  PSweak (ps_ret he) fun D σ H ⟨ρ, env, M, hE, hS, h⟩ =>
    ⟨ρ, env, M, hE, hS, (post_bind h).imp (fun d M1 hx ρ1 v H1 e1 S1 r1 => hx ρ1 v H1 e1 S1 r1) (fun _ _ _ z => z)⟩
theorem ss_retN {pos : Pos} : SS X cl W (.Return none pos) dRetN := PSweak ps_retN fun D σ H ⟨ρ, env, M, hE, hS, h⟩ => h ρ .non H .refl hS .non
theorem ss_if {c : Expr} {a b : List Stmt} {ft : DT} {fa fb : DS} {pos : Pos} (hc : ST X cl W c ft) (ha : SSs X cl W a fa) (hb : SSs X cl W b fb) : SS X cl W (.If c a b pos) (dIf ft fa fb) :=
  PSweak (ps_if hc ha hb) fun D σ H ⟨ρ, env, M, hE, hS, h⟩ => by
    refine ⟨ρ, env, M, hE, hS, (post_bind h).imp (fun c M1 hx ρ1 H1 e1 S1 => ?_) (fun _ _ _ z => z)⟩
    cases c with
    | true => exact ⟨ρ1, env, M1, hE.mono e1, S1, Out.post.imp hx (fun _ _ z => sP.sh e1 z) (fun _ _ _ z => eP.sh e1 z)⟩
    | false => exact ⟨ρ1, env, M1, hE.mono e1, S1, Out.post.imp hx (fun _ _ z => sP.sh e1 z) (fun _ _ _ z => eP.sh e1 z)⟩
theorem ss_set {i : Nat} {x : Str} {e : Expr} {fe : DE} {pos pos' : Pos} (hN : X.N.Nodup) (hi : X.N[i]? = some x) (hx : Loc X.env.scope x) (he : SE X cl W e fe) (hs : swapsWith e (some (.Name x pos')) pos.line X.env = pure false := by rfl) (hf : X.fn x = true ∨ X.env.scope.names.lookup x = some .local := by first | exact .inl rfl | exact .inr rfl | assumption) :
    SS X cl W (.Assign [.Name x pos'] e pos) (dSet i fe) :=
  PSweak (ps_set hN hi hx he hs hf) fun D σ H ⟨ρ, env, M, hE, hS, h⟩ =>
    ⟨ρ, env, M, hE, hS, (post_bind h).imp (fun d M1 hx ρ1 v H1 e1 S1 r1 => hx ρ1 _ H1 e1 S1 ((hE.mono e1).set i r1)) (fun _ _ _ z => z)⟩
theorem sg_name {i : Nat} {x : Str} {pos : Pos} (hN : X.N.Nodup) (hi : X.N[i]? = some x) (hx : Loc X.env.scope x) (hf : X.fn x = true ∨ X.env.scope.names.lookup x = some .local := by first | exact .inl rfl | exact .inr rfl | assumption) : SG X cl (.Name x pos) (tgName i) :=
  PGweak (pg_name hN hi hx hf) fun v σ H Q ⟨ρ, env, d, env', hE, r, e, h⟩ => by
    cases e
    exact h _ (hE.set i r)
/-- names of a tuple target -/
def gsNames : List Nat → TGs
  | [] => gNil
  | i :: is => gCons (gName i) (gsNames is)
theorem gsNames_ok {is : List Nat} : ∀ {ds : List D} {vs : List V} {env env' : En} {σ : L2.St} {Q : L2.St → Hp → Prop}, RVs G H ρ ds vs → RE G H ρ env σ → tgAll is ds env = some env' → (∀ σ', RE G H ρ env' σ' → Q σ' H) → gsNames is vs σ H Q := by
  induction is with
  | nil =>
    intro ds vs env env' σ Q r hE e h
    cases r with
    | nil => cases e; exact ⟨rfl, h σ hE⟩
    | cons _ _ => cases e
  | cons i is ih =>
    intro ds vs env env' σ Q r hE e h
    cases r with
    | nil => cases e
    | cons r1 r2 => exact ⟨_, _, rfl, ih r2 (hE.set i r1) e h⟩
theorem tgAll_len : ∀ {is : List Nat} {ds : List D} {env env' : En}, tgAll is ds env = some env' → ds.length = is.length
  | [], [], _, _, _ => rfl
  | [], _ :: _, _, _, h => by cases h
  | _ :: _, [], _, _, h => by cases h
  | i :: is, d :: ds, env, env', h => by
    have := tgAll_len (is := is) (ds := ds) h
    simp [this]
theorem sg_tup {es : List Expr} {k n : Nat} {is : List Nat} {pos : Pos} (hc : X.calm = true) (h : PGs X es (gsNames is)) (hl : is.length = n) (hn : (assignEach es X.env).length = n := by rfl) (hst : (assignEach es X.env).findIdx? (·.1) = none := by rfl) : SG X cl (.Tuple es k pos) (tgTup is) :=
  PGweak (pg_tup hc h hn hst) fun v σ H Q ⟨ρ, env, d, env', hE, r, e, q⟩ => by
    cases r with
    | tup hs rs => exact ⟨_, _, rfl, hs, by rw [rs.length, tgAll_len e, hl], gsNames_ok rs hE e q⟩
    | _ => cases e
def dAsg (t : DG) (fe : DE) : DS := fun env M => (fe env M).bind fun d M1 => match t d env with
  | some env' => .ok (.nx env') M1
  | none => .bad
theorem ss_asg {tg e : Expr} {fe : DE} {t : DG} {pos : Pos} (he : SE X cl W e fe) (hg : SG X cl tg t) (hs : swapsWithSole [tg] e pos.line X.env = pure false := by rfl) (hw : swappedStores [tg] e X.env = pure none := by rfl)
    (h1 : (assignEach [tg] X.env).map (·.2) = [assign tg X.env] := by rfl) : SS X cl W (.Assign [tg] e pos) (dAsg t fe) :=
  PSweak (ps_asg he hg hs hw h1) fun D σ H ⟨ρ, env, M, hE, hS, h⟩ => by
    refine ⟨ρ, env, M, hE, hS, (post_bind h).imp (fun d M1 hx ρ1 v H1 e1 S1 r1 => ?_) (fun _ _ _ z => z)⟩
    split at hx
    · rename_i env' he'
      exact ⟨ρ1, env, d, env', hE.mono e1, r1, he', fun σ' E' => hx ρ1 σ' H1 e1 S1 E'⟩
    · exact hx.elim
def dPar (i j : Nat) (fa : DA) : DS := fun env M => (fa env M).bind fun ds M1 => match ds with
  | [x, y] => .ok (.nx ((env.set i (some x)).set j (some y))) M1
  | _ => .bad
theorem ss_par {i j : Nat} {x y : Str} {a b : Expr} {fa : DA} {px py pt pos : Pos} {kt k2 pt2} (hc : X.calm = true) (hN : X.N.Nodup) (hi : X.N[i]? = some x) (hj : X.N[j]? = some y) (hij : i ≠ j)
    (hx : X.env.scope.names.lookup x = some .local) (hy : X.env.scope.names.lookup y = some .local) (ha : SA X cl W [a, b] fa)
    (hw : swappedStores [.Tuple [.Name x px, .Name y py] kt pt] (.Tuple [a, b] k2 pt2) X.env = pure (some [x, y]))
    (hs : swapsWithSole [.Tuple [.Name x px, .Name y py] kt pt] (.Tuple [a, b] k2 pt2) pos.line X.env = pure false := by rfl) :
    SS X cl W (.Assign [.Tuple [.Name x px, .Name y py] kt pt] (.Tuple [a, b] k2 pt2) pos) (dPar i j fa) :=
  PSweak (ps_par hc hN hi hj hij hx hy ha hw hs) fun D σ H ⟨ρ, env, M, hE, hS, h⟩ => by
    refine ⟨ρ, env, M, hE, hS, (post_bind h).imp (fun ds M1 hx ρ1 vs H1 e1 S1 r1 => ?_) (fun _ _ _ z => z)⟩
    cases r1 with
    | nil => exact hx.elim
    | cons q1 q2 =>
      cases q2 with
      | nil => exact hx.elim
      | cons q2 q3 =>
        cases q3 with
        | cons _ _ => exact hx.elim
        | nil => exact ⟨_, _, rfl, hx ρ1 _ H1 e1 S1 (((hE.mono e1).set i q1).set j q2)⟩
/-! ### what a loop walks -/
def Good (J : It) (G : Gx) (items : List D) (ρ0 : Rho) (H0 : Hp) : Prop := ∀ (H : Hp) (ρ : Rho), Mo G H0 ρ0 H ρ → ∀ i : Nat,
  (∀ d, items[i]? = some d → J.go i H ∧ ∀ x H', J.yld i H x H' → (∃ M, RS G H ρ M) → Ext G H ρ H' ρ ∧ (∀ M, RS G H ρ M → RS G H' ρ M) ∧ RV G H' ρ d x) ∧ (items.length ≤ i → J.stop i H)
def dI (G : Gx) (W : WX) (f : DA) : TI := fun σ H R => ∃ ρ env M, RE G H ρ env σ ∧ RS G H ρ M ∧ (f env M).post (fun items M' => ∀ ρ' H' J, Ext G H ρ H' ρ' → RS G H' ρ' M' → Good J G items ρ' H' → R J H') (eP G W H ρ)
def SI (X : Cx) (cl : Str → Option Addr) (W : WX) (tg iter : Expr) (f : DA) : Prop := PI X tg iter (dI (gx X cl) W f)
def forGo (t : DG) (fb : DS) : List D → DS
  | [], env, M => .ok (.nx env) M
  | d :: ds, env, M => match t d env with
    | none => .bad
    | some env1 => (fb env1 M).bind fun fl M1 => match fl with
      | .nx e => forGo t fb ds e M1
      | .ct e => forGo t fb ds e M1
      | .bk e => .ok (.nx e) M1
      | .rt d => .ok (.rt d) M1
def dFor (t : DG) (fi : DA) (fb : DS) : DS := fun env M => (fi env M).bind fun items M1 => forGo t fb items env M1
theorem ss_for {tg iter : Expr} {body : List Stmt} {t : DG} {fi : DA} {fb : DS} {pos : Pos} (hp : PassesOwn (model X.prog X.w) X.A X.env X.xe) (hc : X.calm = true) (hi : SI X cl W tg iter fi) (hg : SG X cl tg t) (hb : SSs X cl W body fb)
    (hs : ∀ x, foldedSetIterable iter X.env x = pure x := by intro _; rfl) : SS X cl W (.For tg iter body [] pos) (dFor t fi fb) :=
  PSweak (ps_for hp hc hi hg hb hs) fun D σ H ⟨ρ, env, M, hE, hS, h⟩ => by
    refine ⟨ρ, env, M, hE, hS, (post_bind h).imp (fun items M1 hx ρ1 H1 J e1 S1 good => ?_) (fun _ _ _ z => z)⟩
    refine ⟨fun i m σ H => m = items.length - i ∧ i ≤ items.length ∧ ∃ ρ env M, Ext (gx X cl) H1 ρ1 H ρ ∧ RE (gx X cl) H ρ env σ ∧ RS (gx X cl) H ρ M ∧ (forGo t fb (items.drop i) env M).post (sP (gx X cl) H ρ D) (eP (gx X cl) W H ρ),
      ⟨items.length, by simp, Nat.zero_le _, ρ1, env, M1, .refl, hE.mono e1, S1, Out.post.imp hx (fun _ _ z => sP.sh e1 z) (fun _ _ _ z => eP.sh e1 z)⟩, ?_⟩
    rintro i m σ' H' ⟨rfl, hi, ρ', env', M', x1, E', S', q⟩
    obtain ⟨g1, g2⟩ := good H' ρ' x1.mo i
    by_cases hlt : i < items.length
    · have hd : items[i]? = some items[i] := List.getElem?_eq_getElem hlt
      obtain ⟨go, yl⟩ := g1 _ hd
      have hdrop : items.drop i = items[i] :: items.drop (i + 1) := List.drop_eq_getElem_cons hlt
      rw [hdrop] at q
      refine .inr ⟨go, fun σ H => ∃ ρ env M, Ext (gx X cl) H1 ρ1 H ρ ∧ RE (gx X cl) H ρ env σ ∧ RS (gx X cl) H ρ M ∧ (forGo t fb (items.drop (i + 1)) env M).post (sP (gx X cl) H ρ D) (eP (gx X cl) W H ρ),
        fun σ2 H2 n2 => ⟨items.length - (i + 1), by omega, rfl, hlt, n2⟩, fun x H2 y => ?_⟩
      obtain ⟨x2, rs2, r2⟩ := yl x H2 y ⟨M', S'⟩
      unfold forGo at q
      split at q
      · exact q.elim
      · rename_i env1 he1
        refine ⟨ρ', env', items[i], env1, E'.mono x2, r2, he1, fun σ3 E3 => ?_⟩
        refine ⟨ρ', env1, M', E3, rs2 M' S', (post_bind q).imp (fun fl M4 h4 => ?_) (fun _ _ _ z => eP.sh x2 z)⟩
        cases fl with
        | nx e => exact fun ρ5 σ5 H5 x5 S5 E5 => ⟨ρ5, e, M4, x1.trans (x2.trans x5), E5, S5, Out.post.imp h4 (fun _ _ z => sP.sh (x2.trans x5) z) (fun _ _ _ z => eP.sh (x2.trans x5) z)⟩
        | ct e => exact fun ρ5 σ5 H5 x5 S5 E5 => ⟨ρ5, e, M4, x1.trans (x2.trans x5), E5, S5, Out.post.imp h4 (fun _ _ z => sP.sh (x2.trans x5) z) (fun _ _ _ z => eP.sh (x2.trans x5) z)⟩
        | bk e => exact nP.sh x2 h4
        | rt d => exact oP.sh x2 h4
    · have e : i = items.length := by omega
      subst e
      rw [List.drop_length] at q
      exact .inl ⟨g2 (Nat.le_refl _), q ρ' σ' H' .refl S' E'⟩
def whGo (fc : DT) (fb : DS) : Nat → DS
  | 0, _, _ => .bad
  | n + 1, env, M => (fc env M).bind fun c M1 => if c then (fb env M1).bind fun fl M2 => match fl with
      | .nx e => whGo fc fb n e M2
      | .ct e => whGo fc fb n e M2
      | .bk e => .ok (.nx e) M2
      | .rt d => .ok (.rt d) M2
    else .ok (.nx env) M1
theorem ss_while {c : Expr} {body : List Stmt} {fc : DT} {fb : DS} {pos : Pos} (n : Nat) (hp : PassesOwn (model X.prog X.w) X.A X.env X.xe) (hc : ST X cl W c fc) (hb : SSs X cl W body fb) : SS X cl W (.While c body [] pos) (whGo fc fb n) :=
  PSweak (ps_while hp hc hb) fun D σ H ⟨ρ, env, M, hE, hS, h⟩ => by
    refine ⟨fun m σ H => ∃ ρ env M, RE (gx X cl) H ρ env σ ∧ RS (gx X cl) H ρ M ∧ (whGo fc fb m env M).post (sP (gx X cl) H ρ D) (eP (gx X cl) W H ρ), ⟨n, ρ, env, M, hE, hS, h⟩, ?_⟩
    rintro m σ' H' ⟨ρ', env', M', E', S', q⟩
    cases m with
    | zero => exact q.elim
    | succ m =>
      refine ⟨ρ', env', M', E', S', (post_bind (show (Out.bind (fc env' M') _).post _ _ from q)).imp (fun b M1 hx ρ1 H1 e1 S1 => ?_) (fun _ _ _ z => z)⟩
      cases b with
      | false => exact hx ρ1 σ' H1 e1 S1 (E'.mono e1)
      | true =>
        rw [if_pos rfl]
        refine ⟨fun σ H => ∃ ρ env M, RE (gx X cl) H ρ env σ ∧ RS (gx X cl) H ρ M ∧ (whGo fc fb m env M).post (sP (gx X cl) H ρ D) (eP (gx X cl) W H ρ), fun σ2 H2 n2 => ⟨m, Nat.lt_succ_self _, n2⟩, ρ1, env', M1, E'.mono e1, S1, ?_⟩
        refine (post_bind (show (Out.bind (fb env' M1) _).post _ _ from hx)).imp (fun fl M4 h4 => ?_) (fun _ _ _ z => eP.sh e1 z)
        cases fl with
        | nx e => exact fun ρ5 σ5 H5 x5 S5 E5 => ⟨ρ5, e, M4, E5, S5, Out.post.imp h4 (fun _ _ z => sP.sh (e1.trans x5) z) (fun _ _ _ z => eP.sh (e1.trans x5) z)⟩
        | ct e => exact fun ρ5 σ5 H5 x5 S5 E5 => ⟨ρ5, e, M4, E5, S5, Out.post.imp h4 (fun _ _ z => sP.sh (e1.trans x5) z) (fun _ _ _ z => eP.sh (e1.trans x5) z)⟩
        | bk e => exact nP.sh e1 h4
        | rt d => exact oP.sh e1 h4
end
end Ip
end
section
set_option Elab.async false
set_option linter.all false
set_option maxRecDepth 100000
set_option maxHeartbeats 4000000
set_option autoImplicit false
namespace Ip
open PySem L2
def noex {α : Type} (o : Out α) : Out α := match o with
  | .ok a M => .ok a M
  | _ => .bad
theorem noex_post {α : Type} {o : Out α} {Q : α → Sto → Prop} {E E' : Exn → En → Sto → Prop} (h : (noex o).post Q E) : o.post Q E' := by
  cases o with
  | ok a M => exact h
  | exc e env M => exact h.elim
  | bad => exact h
abbrev W0 : WX := fun _ _ _ _ => False
def wipeE (env : En) : List Nat → En
  | [] => env
  | v :: vs => (wipeE env vs).set v none
def lcGo (t : DG) (ft : DT) (fe : DE) : List D → List D → En → Sto → Out (List D)
  | [], acc, _, M => .ok acc M
  | d :: ds, acc, env, M => match t d env with
    | none => .bad
    | some env1 => (noex (ft env1 M)).bind fun b M1 => if b then (noex (fe env1 M1)).bind fun y M2 => if acc.length < 16777216 then lcGo t ft fe ds (acc ++ [y]) env M2 else .bad
      else lcGo t ft fe ds acc env M1
def dLc (vs : List Nat) (t : DG) (fi : DA) (ft : DT) (fe : DE) : DE := fun env M => (fi env M).bind fun items M1 => (lcGo t ft fe items [] (wipeE env vs) M1).bind fun l M2 => .ok (.lst l) M2
def dYes : DT := fun _ M => .ok true M
theorem wipeE_len (env : En) : ∀ vs : List Nat, (wipeE env vs).length = env.length
  | [] => rfl
  | v :: vs => by unfold wipeE; rw [List.length_set, wipeE_len env vs]
theorem wipeE_some {env : En} {i : Nat} {d : D} : ∀ {vs : List Nat}, (wipeE env vs)[i]? = some (some d) → env[i]? = some (some d) ∧ i ∉ vs
  | [], h => ⟨h, by simp⟩
  | v :: vs, h => by
    unfold wipeE at h
    by_cases e : v = i
    · subst e
      rw [List.getElem?_set] at h
      simp at h
    · rw [List.getElem?_set_ne e] at h
      obtain ⟨a, b⟩ := wipeE_some h
      exact ⟨a, fun z => (List.mem_cons.mp z).elim (fun z => e z.symm) b⟩
theorem RE.wipe {G : Gx} {H : Hp} {ρ : Rho} {env : En} {σ : L2.St} (vs : List Nat) (h : RE G H ρ env σ) : RE G H ρ (wipeE env vs) (wipe σ vs) :=
  ⟨by rw [wipeE_len, wipe_length, h.1], fun i d q => by
    obtain ⟨a, b⟩ := wipeE_some q
    obtain ⟨v, e, r⟩ := h.2 i d a
    exact ⟨v, by rw [wipe_out b]; exact e, r⟩⟩
theorem wipe_in {σ : L2.St} {i : Nat} : ∀ {vs : List Nat}, i ∈ vs → (wipe σ vs)[i]? = if i < σ.length then some none else none
  | v :: vs, h => by
    unfold wipe
    by_cases e : v = i
    · subst e
      rw [List.getElem?_set, if_pos rfl, wipe_length]
    · rw [List.getElem?_set_ne e]
      exact wipe_in ((List.mem_cons.mp h).elim (fun z => absurd z.symm e) id)
theorem wipe_eq {σ τ : L2.St} {vs : List Nat} (hl : σ.length = τ.length) (h : ∀ i : Nat, i ∉ vs → σ[i]? = τ[i]?) : wipe σ vs = wipe τ vs := by
  refine List.ext_getElem? fun i => ?_
  by_cases hi : i ∈ vs
  · rw [wipe_in hi, wipe_in hi, hl]
  · rw [wipe_out hi, wipe_out hi, h i hi]
/-- a target whose names are all the comprehension's own -/
def TgOk (G : Gx) (vs : List Nat) (g : TG) (t : DG) : Prop := ∀ (H : Hp) (ρ : Rho) (v : V) (σ : L2.St) (env env' : En) (d : D) (Q : L2.St → Hp → Prop), RE G H ρ env σ → RV G H ρ d v → t d env = some env' →
  (∀ σ', RE G H ρ env' σ' → wipe σ' vs = wipe σ vs → Q σ' H) → g v σ H Q
theorem tgok_name {G : Gx} {vs : List Nat} {i : Nat} (hi : i ∈ vs) : TgOk G vs (gName i) (tgName i) := fun H ρ v σ env env' d Q hE r e h => by
  cases e
  exact h _ (hE.set i r) (wipe_eq (by simp) fun j hj => List.getElem?_set_ne (fun z : i = j => hj (z ▸ hi)))
theorem gsNames_ok2 {G : Gx} {H : Hp} {ρ : Rho} {us : List Nat} {is : List Nat} (hu : ∀ i ∈ is, i ∈ us) : ∀ {ds : List D} {vs : List V} {env env' : En} {σ : L2.St} {Q : L2.St → Hp → Prop}, RVs G H ρ ds vs → RE G H ρ env σ → tgAll is ds env = some env' → (∀ σ', RE G H ρ env' σ' → wipe σ' us = wipe σ us → Q σ' H) → gsNames is vs σ H Q := by
  induction is with
  | nil =>
    intro ds vs env env' σ Q r hE e h
    cases r with
    | nil => cases e; exact ⟨rfl, h σ hE rfl⟩
    | cons _ _ => cases e
  | cons i is ih =>
    intro ds vs env env' σ Q r hE e h
    cases r with
    | nil => cases e
    | cons r1 r2 =>
      refine ⟨_, _, rfl, ih (fun j hj => hu j (List.mem_cons_of_mem _ hj)) r2 (hE.set i r1) e fun σ' E' w => h σ' E' (w.trans ?_)⟩
      exact wipe_eq (by simp) fun j hj => List.getElem?_set_ne (fun z : i = j => hj (z ▸ hu i List.mem_cons_self))
theorem tgok_tup {G : Gx} {vs : List Nat} {is : List Nat} {n : Nat} (hi : ∀ i ∈ is, i ∈ vs) (hn : is.length = n) : TgOk G vs (gTup G.K n (gsNames is)) (tgTup is) := fun H ρ v σ env env' d Q hE r e h => by
  cases r with
  | tup hs rs => exact ⟨_, _, rfl, hs, by rw [rs.length, tgAll_len e, hn], gsNames_ok2 hi rs hE e h⟩
  | _ => cases e
section
variable {X : Cx} {cl : Str → Option Addr} {W : WX} {G : Gx}
theorem lc_ok {vs : List Nat} {g : TG} {t : DG} {fi : DA} {ft : DT} {fe : DE} (hg : TgOk G vs g t) {σ : L2.St} {H : Hp} {Q : VK} (h : dE G W (dLc vs t fi ft fe) σ H Q) : tLc (dI G W fi) g (dT G W0 ft) (dE G W0 fe) vs σ H Q := by
  obtain ⟨ρ, env, M, hE, hS, h⟩ := h
  refine ⟨ρ, env, M, hE, hS, (post_bind h).imp (fun items M1 hx ρ1 H1 J e1 S1 good D hD => ?_) (fun _ _ _ z => z)⟩
  have hD1 : D ∉ ρ1 := S1.fresh hD
  refine ⟨fun i m H => m = items.length - i ∧ i ≤ items.length ∧ ∃ (ρ : Rho) (M : Sto) (acc : List Ip.D) (av : List V), ρ.t = D :: ρ1.t ∧ Ext G H1 ρ1 H ⟨ρ.c, ρ1.t⟩ ∧ H D = some (.lst av) ∧ RVs G H ρ acc av ∧ RE G H ρ (wipeE env vs) (wipe σ vs) ∧ RS G H ρ M ∧
    (lcGo t ft fe (items.drop i) acc (wipeE env vs) M).post (fun l M' => oP G H1 ρ1 Q (.lst l) M') (fun _ _ _ => False), ⟨items.length, by simp, Nat.zero_le _, ⟨ρ1.c, D :: ρ1.t⟩, M1, [], [], rfl, ?_, upd_same, .nil, ?_, ?_, ?_⟩, ?_⟩
  · exact Ext.new S1 hD
  · refine RE.mo (H := H1) (ρ := ρ1) ?_ ((hE.mono e1).wipe vs)
    exact ⟨fun _ _ z => z, fun a xs z => sqT_upd z (fun u w => by rw [hD] at w; cases w), fun a o n nt z => ⟨by rw [upd_ne (ne_of_none z hD)]; exact z, fun w => by
      rcases w with w | w
      · exact n (.inl w)
      · rcases List.mem_cons.mp w with w | w
        · exact ne_of_none z hD w
        · exact n (.inr w)⟩⟩
  · have mo : Mo G H1 ρ1 (upd H1 D (.lst [])) ⟨ρ1.c, D :: ρ1.t⟩ := ⟨fun _ _ z => z, fun a xs z => sqT_upd z (fun u w => by rw [hD] at w; cases w), fun a o n nt z => ⟨by rw [upd_ne (ne_of_none z hD)]; exact z, fun w => by
      rcases w with w | w
      · exact n (.inl w)
      · rcases List.mem_cons.mp w with w | w
        · exact ne_of_none z hD w
        · exact n (.inr w)⟩⟩
    refine ⟨S1.len, S1.nd, fun a ha hb => ?_, fun a ha => ?_, fun n c hc => ?_, S1.tb.keeps fun b u z _ => by rw [upd_ne (ne_of_none z hD)]; exact z⟩
    · rcases List.mem_cons.mp hb with z | z
      · exact hD1 (.inl (by rw [← z]; exact ha))
      · exact S1.dis a ha z
    · rcases List.mem_cons.mp ha with z | z
      · exact ⟨_, by rw [z]; exact upd_same, .inl ⟨_, rfl⟩⟩
      · rw [upd_ne (S1.ne_new hD (.inr z))]; exact S1.trt a z
    · obtain ⟨a, ha, q⟩ := S1.at_ n c hc
      exact ⟨a, ha, q.mo mo (upd_ne (S1.ne_new hD (.inl (List.mem_of_getElem? ha))))⟩
  · have hx' := post_bind hx
    rw [List.drop_zero]
    cases hlc : lcGo t ft fe items [] (wipeE env vs) M1 with
    | ok l M2 => rw [hlc] at hx'; exact oP.sh e1 hx'
    | bad => rw [hlc] at hx'; exact hx'
    | exc e ev M2 =>
      exfalso
      -- a comprehension's walk raises nothing
      have : ∀ (ds acc : List Ip.D) (env : En) (M : Sto) (e : Exn) (ev : En) (M2 : Sto), lcGo t ft fe ds acc env M ≠ .exc e ev M2 := by
        intro ds
        induction ds with
        | nil => intro acc env M e ev M2 z; cases z
        | cons d ds ih =>
          intro acc env M e ev M2 z
          unfold lcGo at z
          split at z
          · cases z
          · cases h1 : ft _ M with
            | bad => rw [h1] at z; cases z
            | exc _ _ _ => rw [h1] at z; cases z
            | ok b M3 =>
              rw [h1] at z
              cases b with
              | false => exact ih _ _ _ _ _ _ z
              | true =>
                change (noex (fe _ M3)).bind _ = _ at z
                cases h2 : fe _ M3 with
                | bad => rw [h2] at z; cases z
                | exc _ _ _ => rw [h2] at z; cases z
                | ok y M4 =>
                  rw [h2] at z
                  change (if acc.length < 16777216 then _ else _) = _ at z
                  split at z
                  · exact ih _ _ _ _ _ _ z
                  · cases z
      exact this _ _ _ _ _ _ _ hlc
  · rintro i m H2 ⟨rfl, hi, ρ2, M2, acc, av, ht, x2, hDv, ra, E2, S2, q⟩
    have mk2 : ∀ (a : Addr) (o : HO), a ∉ ρ1 → (∀ ps, o ≠ .tbl ps) → H1 a = some o → H2 a = some o ∧ a ∉ ρ2 := fun a o n nt z => ⟨(x2.keep a o n nt z).1, fun w => by
      rcases w with w | w
      · exact (x2.keep a o n nt z).2 (.inl w)
      · rw [ht] at w
        rcases List.mem_cons.mp w with w | w
        · exact ne_of_none z hD w
        · exact n (.inr w)⟩
    have mo2 : Mo G H1 ρ1 H2 ρ2 := ⟨x2.pre, x2.tup, fun a o n p z => mk2 a o n p.tbl z⟩
    have hDt : D ∈ ρ2.t := by rw [ht]; exact List.mem_cons_self
    obtain ⟨g1, g2⟩ := good H2 ρ2 mo2 i
    by_cases hlt : i < items.length
    · have hd : items[i]? = some items[i] := List.getElem?_eq_getElem hlt
      obtain ⟨go, yl⟩ := g1 _ hd
      have hdrop : items.drop i = items[i] :: items.drop (i + 1) := List.drop_eq_getElem_cons hlt
      rw [hdrop] at q
      refine .inr ⟨go, fun H => ∃ (ρ : Rho) (M : Sto) (acc : List Ip.D) (av : List V), ρ.t = D :: ρ1.t ∧ Ext G H1 ρ1 H ⟨ρ.c, ρ1.t⟩ ∧ H D = some (.lst av) ∧ RVs G H ρ acc av ∧ RE G H ρ (wipeE env vs) (wipe σ vs) ∧ RS G H ρ M ∧
        (lcGo t ft fe (items.drop (i + 1)) acc (wipeE env vs) M).post (fun l M' => oP G H1 ρ1 Q (.lst l) M') (fun _ _ _ => False), fun H' n2 => ⟨items.length - (i + 1), by omega, rfl, hlt, n2⟩, fun x H3 y => ?_⟩
      obtain ⟨x3, rs3, r3⟩ := yl x H3 y ⟨M2, S2⟩
      unfold lcGo at q
      split at q
      · exact q.elim
      · rename_i env1 he1
        refine hg H3 ρ2 x _ _ env1 _ _ (E2.mono x3) r3 he1 fun σ4 E4 w4 => ⟨w4.trans (by rw [wipe_eq (σ := wipe σ vs) (τ := σ) (vs := vs) (wipe_length _ _) fun j hj => wipe_out hj]), ?_⟩
        -- from where the turn began to where it is
        have step : ∀ {H5 : Hp} {ρ5 : Rho}, Ext G H2 ρ2 H5 ρ5 → Ext G H1 ρ1 H5 ⟨ρ5.c, ρ1.t⟩ ∧ ρ5.t = D :: ρ1.t ∧ H5 D = some (.lst av) := fun {H5 ρ5} x5 =>
          ⟨⟨fun n a z => x5.pre n a (x2.pre n a z), rfl, fun a z => (x5.same a (by rw [ht]; exact List.mem_cons_of_mem _ z)).trans (x2.same a z), fun a xs z => x5.tup a xs (x2.tup a xs z), fun a o n nt z => by
              obtain ⟨k1, k2⟩ := mk2 a o n nt z
              obtain ⟨k3, k4⟩ := x5.keep a o k2 nt k1
              exact ⟨k3, fun w => by
                rcases w with w | w
                · exact k4 (.inl w)
                · exact n (.inr w)⟩⟩, x5.res.trans ht, (x5.same D hDt).trans hDv⟩
        refine ⟨ρ2, env1, M2, E4, rs3 M2 S2, (noex_post (post_bind q)).imp (fun b M5 hb ρ5 H5 x5 S5 => ?_) (fun _ _ _ z => z)⟩
        cases b with
        | false =>
          obtain ⟨s1, s2, s3⟩ := step (x3.trans x5)
          exact ⟨ρ5, M5, acc, av, s2, s1, s3, ra.mono (x3.trans x5), E2.mono (x3.trans x5), S5, hb⟩
        | true =>
          rw [if_pos rfl]
          refine ⟨ρ5, env1, M5, E4.mono x5, S5, (noex_post (post_bind (show (Out.bind (noex (fe env1 M5)) _).post _ _ from hb))).imp (fun y M6 hy ρ6 v6 H6 x6 S6 r6 => ?_) (fun _ _ _ z => z)⟩
          obtain ⟨s1, s2, s3⟩ := step (x3.trans (x5.trans x6))
          split at hy
          · rename_i hlen
            have hD6 : D ∈ ρ6.t := by rw [s2]; exact List.mem_cons_self
            have mo6 : Mo G H6 ρ6 (upd H6 D (.lst (av ++ [v6]))) ρ6 := ⟨fun _ _ z => z, fun a xs z => sqT_upd z (fun u w => by rw [s3] at w; cases w; exact ⟨fun _ z => (by cases z), fun _ _ z => (by cases z)⟩), fun a o n nt z => ⟨by rw [upd_ne (fun w : a = D => n (by rw [w]; exact .inr hD6))]; exact z, n⟩⟩
            have la : av.length = acc.length := ra.length
            refine ⟨av, s3, by rw [la]; rw [sizeLine_eq]; exact hlen, ρ6, M6, acc ++ [y], av ++ [v6], s2, ⟨s1.pre, rfl, fun a z => ?_, fun a xs z => mo6.tup a xs (s1.tup a xs z), fun a o n nt z => ?_⟩, upd_same, ?_, (E2.mono (x3.trans (x5.trans x6))).mo mo6, ?_, hy⟩
            · rw [upd_ne (fun w : a = D => hD1 (by rw [← w]; exact .inr z))]
              exact s1.same a z
            · obtain ⟨k1, k2⟩ := s1.keep a o n nt z
              exact ⟨by rw [upd_ne (ne_of_none z hD)]; exact k1, k2⟩
            · exact ((ra.mono (x3.trans (x5.trans x6))).append (.one r6)).mo mo6
            · refine ⟨S6.len, S6.nd, S6.dis, fun a ha => ?_, fun n c hc => ?_, S6.tb.keeps fun b u z nz => by rw [upd_ne (fun w : b = D => nz (by rw [w, s3] at z; cases z; exact .inl ⟨_, rfl⟩))]; exact z⟩
              · by_cases z : a = D
                · exact ⟨_, by rw [z]; exact upd_same, .inl ⟨_, rfl⟩⟩
                · rw [upd_ne z]; exact S6.trt a ha
              · obtain ⟨a, ha, q⟩ := S6.at_ n c hc
                exact ⟨a, ha, q.mo mo6 (upd_ne (fun z : a = D => S6.dis a (List.mem_of_getElem? ha) (by rw [z]; exact hD6)))⟩
          · exact hy.elim
    · have e : i = items.length := by omega
      subst e
      rw [List.drop_length] at q
      refine .inl ⟨g2 (Nat.le_refl _), q ⟨ρ2.c, ρ1.t⟩ (.ref D) H2 x2 ?_ ?_⟩
      · have mo : Mo G H2 ρ2 H2 ⟨ρ2.c, ρ1.t⟩ := ⟨fun _ _ z => z, fun _ _ z => z, fun a o n nt z => ⟨z, fun w => by
          rcases w with w | w
          · exact n (.inl w)
          · exact n (.inr (by rw [ht]; exact List.mem_cons_of_mem _ w))⟩⟩
        refine ⟨S2.len, S2.nd, fun a ha hb => S2.dis a ha (by rw [ht]; exact List.mem_cons_of_mem _ hb), fun a ha => S2.trt a (by rw [ht]; exact List.mem_cons_of_mem _ ha), fun n c hc => ?_, S2.tb⟩
        obtain ⟨a, ha, q⟩ := S2.at_ n c hc
        exact ⟨a, ha, q.mo mo rfl⟩
      · have mo : Mo G H2 ρ2 H2 ⟨ρ2.c, ρ1.t⟩ := ⟨fun _ _ z => z, fun _ _ z => z, fun a o n nt z => ⟨z, fun w => by
          rcases w with w | w
          · exact n (.inl w)
          · exact n (.inr (by rw [ht]; exact List.mem_cons_of_mem _ w))⟩⟩
        exact .lst hDv (fun w => by
          rcases w with w | w
          · exact S2.dis D w hDt
          · exact hD1 (.inr w)) (ra.mo mo)
end
end Ip
end
section
set_option Elab.async false
set_option linter.all false
set_option maxRecDepth 100000
set_option maxHeartbeats 4000000
set_option autoImplicit false
namespace Ip
open PySem PyProof.Rows L2
section
variable {X : Cx} {cl : Str → Option Addr} {W : WX} {G : Gx}
theorem se_lc {elt tg iter : Expr} {ifs : List Expr} {scope : Scope} {own : List (Str × Nat)} {pos : Pos} {g : TG} {t : DG} {fi : DA} {ft : DT} {fe : DE} (hc : X.calm = true) (hN : X.N.Nodup) (hi : SI X cl W tg iter fi) (ok : BlkOk X.N X.env.scope scope own)
    (hgp : ∀ (s : Shared) (H : Hp) (C : Addr) (c : List (Str × Addr)) (fp : List Addr), PG (X.blk s H scope (compEnvC scope c C X.env) fp) tg g) (hg : TgOk (gx X cl) (own.map (·.2)) g t)
    (ht : ∀ (s : Shared) (H : Hp) (C : Addr) (c : List (Str × Addr)) (fp : List Addr), PTs (X.blk s H scope (compEnvC scope c C X.env) fp) ifs (dT (gx X cl) W0 ft))
    (he : ∀ (s : Shared) (H : Hp) (C : Addr) (c : List (Str × Addr)) (fp : List Addr), PE (X.blk s H scope (compEnvC scope c C X.env) fp) elt (dE (gx X cl) W0 fe)) (hs : ∀ x, foldedSetIterable iter X.env x = pure x := by intro _; rfl) :
    SE X cl W (.ListComp elt [⟨tg, iter, ifs, 0⟩] scope pos) (dLc (own.map (·.2)) t fi ft fe) :=
  PEweak (pe_lc hc hN hi ok hgp ht he hs) fun σ H Q h => lc_ok hg h
theorem ss_setLc {i : Nat} {y : Str} {py : Pos} {elt tg iter : Expr} {ifs : List Expr} {scope : Scope} {own : List (Str × Nat)} {pos spos : Pos} {g : TG} {t : DG} {fi : DA} {ft : DT} {fe : DE} (hc : X.calm = true) (hN : X.N.Nodup) (hy : X.N[i]? = some y) (hyl : X.env.scope.names.lookup y = some .local)
    (hsw : swapsWith (.ListComp elt [⟨tg, iter, ifs, 0⟩] scope pos) (some (.Name y py)) spos.line X.env = pure true) (hi : SI X cl W tg iter fi) (ok : BlkOk X.N X.env.scope scope own)
    (hgp : ∀ (s : Shared) (H : Hp) (C : Addr) (c : List (Str × Addr)) (fp : List Addr), PG (X.blk s H scope (compEnvC scope c C X.env) fp) tg g) (hg : TgOk (gx X cl) (own.map (·.2)) g t)
    (ht : ∀ (s : Shared) (H : Hp) (C : Addr) (c : List (Str × Addr)) (fp : List Addr), PTs (X.blk s H scope (compEnvC scope c C X.env) fp) ifs (dT (gx X cl) W0 ft))
    (he : ∀ (s : Shared) (H : Hp) (C : Addr) (c : List (Str × Addr)) (fp : List Addr), PE (X.blk s H scope (compEnvC scope c C X.env) fp) elt (dE (gx X cl) W0 fe)) (hs : ∀ x, foldedSetIterable iter X.env x = pure x := by intro _; rfl) :
    SS X cl W (.Assign [.Name y py] (.ListComp elt [⟨tg, iter, ifs, 0⟩] scope pos) spos) (dSet i (dLc (own.map (·.2)) t fi ft fe)) :=
  PSweak (ps_setLc hc hN hy hyl hsw hi ok hgp ht he hs) fun D σ H ⟨ρ, env, M, hE, hS, h⟩ => by
    refine lc_ok (Q := fun x H1 => gName i x σ H1 D.nx) hg ⟨ρ, env, M, hE, hS, ?_⟩
    exact (post_bind h).imp (fun d M1 hx ρ1 v H1 e1 S1 r1 => hx ρ1 _ H1 e1 S1 ((hE.mono e1).set i r1)) (fun _ _ _ z => z)
theorem pts_yes : PTs X [] (dT G W0 dYes) := PTsweak pts_nil fun σ H Q ⟨ρ, env, M, hE, hS, h⟩ => h ρ H .refl hS
theorem pts_st {c : Expr} {ft : DT} (h : ST X cl W0 c ft) : PTs X [c] (dT (gx X cl) W0 ft) := pts_one h
/-! ### what is walked -/
def iterD (x : D) : Option (List D) := match x with
  | .lst l => some l
  | .tup l => some l
  | .scr ns => some (ns.map D.int)
  | _ => none
def dIter (fe : DE) : DA := fun env M => (fe env M).bind fun x M1 => match iterD x with
  | some l => .ok l M1
  | none => .bad
theorem good_lst {H0 : Hp} {ρ0 : Rho} {a : Addr} {vs : List V} {ds : List D} (hs : H0 a = some (.lst vs)) (hn : a ∉ ρ0) (rs : RVs G H0 ρ0 ds vs) : Good (Itl G.K a) G ds ρ0 H0 := by
  intro H ρ mo i
  have hl := (mo.keep _ _ hn (by first | exact .l | exact .f) hs).1
  have rs' := rs.mo mo
  refine ⟨fun d hd => ?_, fun hi => ⟨vs, SqL.of hl, by rw [rs.length]; exact hi⟩⟩
  obtain ⟨v, hv, rv⟩ := rs'.get hd
  refine ⟨⟨vs, v, SqL.of hl, hv⟩, fun x H' y _ => ?_⟩
  obtain ⟨rfl, y⟩ := y
  have e := y vs (SqL.of hl)
  rw [hv] at e; cases e
  exact ⟨.refl, fun _ z => z, rv⟩
theorem good_scr {H0 : Hp} {ρ0 : Rho} {a : Addr} {ns : List Int} (hs : (Rd H0 a (.lst (ns.map V.int)) ∧ a ∉ ρ0) ∨ (∀ H', SqL G.K H' a (ns.map V.int))) : Good (Itl G.K a) G (ns.map D.int) ρ0 H0 := by
  intro H ρ mo i
  have hl : SqL G.K H a (ns.map V.int) := by
    rcases hs with ⟨h | ⟨o, h⟩, n⟩ | h
    · exact .inl (.inl (mo.keep _ _ n (by first | exact .l | exact .f) h).1)
    · exact .inl (.inr ⟨o, (mo.keep _ _ n (by first | exact .l | exact .f) h).1⟩)
    · exact h H
  have rs' : RVs G H ρ (ns.map D.int) (ns.map V.int) := RVs.ints ns
  refine ⟨fun d hd => ?_, fun hi => ⟨_, hl, by rw [rs'.length]; exact hi⟩⟩
  obtain ⟨v, hv, rv⟩ := rs'.get hd
  refine ⟨⟨_, v, hl, hv⟩, fun x H' y _ => ?_⟩
  obtain ⟨rfl, y⟩ := y
  have e := y _ hl
  rw [hv] at e; cases e
  exact ⟨.refl, fun _ z => z, rv⟩
theorem good_tup {H0 : Hp} {ρ0 : Rho} {a : Addr} {vs : List V} {ds : List D} (hs : SqT G.K H0 a vs) (rs : RVs G H0 ρ0 ds vs) : Good (Itt G.K a) G ds ρ0 H0 := by
  intro H ρ mo i
  have hl := mo.tup _ _ hs
  have rs' := rs.mo mo
  refine ⟨fun d hd => ?_, fun hi => ⟨vs, hl, by rw [rs.length]; exact hi⟩⟩
  obtain ⟨v, hv, rv⟩ := rs'.get hd
  refine ⟨⟨vs, v, hl, hv⟩, fun x H' y _ => ?_⟩
  obtain ⟨rfl, y⟩ := y
  have e := y vs hl
  rw [hv] at e; cases e
  exact ⟨.refl, fun _ z => z, rv⟩
def rngD (lo : Int) (n : Nat) : List D := (List.range n).map fun k => D.int (lo + (k : Nat))
theorem good_rng {H0 : Hp} {ρ0 : Rho} {lo : Int} {n : Nat} : Good (Itr lo n) G (rngD lo n) ρ0 H0 := by
  intro H ρ mo i
  refine ⟨fun d hd => ?_, fun hi => show n ≤ i by simpa [rngD] using hi⟩
  have hi : i < n := by
    have := (List.getElem?_eq_some_iff.mp hd).1
    simpa [rngD] using this
  have e : d = D.int (lo + (i : Nat)) := by
    unfold rngD at hd
    rw [List.getElem?_map, List.getElem?_range hi] at hd
    exact (Option.some.inj hd).symm
  subst e
  refine ⟨hi, fun x H' y _ => ?_⟩
  obtain ⟨rfl, rfl⟩ := y
  exact ⟨.refl, fun _ z => z, .int _⟩
def enumD (k : Nat) : List D → List D
  | [] => []
  | d :: ds => .tup [.int (k : Nat), d] :: enumD (k + 1) ds
theorem enumD_get : ∀ {ds : List D} {k i : Nat}, (enumD k ds)[i]? = (ds[i]?).map fun d => D.tup [.int ((k + i : Nat) : Int), d]
  | [], k, i => by simp [enumD]
  | d :: ds, k, 0 => by simp [enumD]
  | d :: ds, k, i + 1 => by
    have := enumD_get (ds := ds) (k := k + 1) (i := i)
    simp only [enumD, List.getElem?_cons_succ]
    rw [this]
    have e : k + 1 + i = k + (i + 1) := by omega
    rw [e]
theorem enumD_len : ∀ {ds : List D} {k : Nat}, (enumD k ds).length = ds.length
  | [], k => rfl
  | d :: ds, k => by simp [enumD, enumD_len]
theorem good_enum {H0 : Hp} {ρ0 : Rho} {a : Addr} {vs : List V} {ds : List D} (hs : H0 a = some (.lst vs)) (hn : a ∉ ρ0) (rs : RVs G H0 ρ0 ds vs) : Good (Ite G.K a) G (enumD 0 ds) ρ0 H0 := by
  intro H ρ mo i
  have hl := (mo.keep _ _ hn (by first | exact .l | exact .f) hs).1
  have rs' := rs.mo mo
  refine ⟨fun d hd => ?_, fun hi => ⟨vs, SqL.of hl, by rw [rs.length]; rw [enumD_len] at hi; exact hi⟩⟩
  rw [enumD_get] at hd
  cases e : ds[i]? with
  | none => rw [e] at hd; cases hd
  | some d0 =>
    rw [e] at hd
    cases hd
    obtain ⟨v, hv, rv⟩ := rs'.get e
    refine ⟨⟨vs, v, SqL.of hl, hv⟩, fun x H' y ⟨M, S⟩ => ?_⟩
    obtain ⟨T, x', rfl, hT, rfl, y⟩ := y
    have e := y vs (SqL.of hl)
    rw [hv] at e; cases e
    refine ⟨Ext.new S hT, fun M' S' => S'.new hT, .tup (SqT.of upd_same) (.cons ?_ (.one (rv.mono (Ext.new S hT))))⟩
    have e0 : ((0 + i : Nat) : Int) = (i : Nat) := by omega
    rw [e0]; exact .int _
end
theorem PI.or {X : Cx} {tg e : Expr} {t t' : TI} (h : PI X tg e t) (h' : PI X tg e t') : PI X tg e (fun σ H R => t σ H R ∨ t' σ H R) :=
  ⟨fun pins s σ H R I z => z.elim (h.run pins s σ H R I) (h'.run pins s σ H R I)⟩
section
variable {X : Cx} {cl : Str → Option Addr} {W : WX} {G : Gx}
theorem si_iter {tg e : Expr} {fe : DE} (he : SE X cl W e fe) : SI X cl W tg e (dIter fe) :=
  PIweak (PI.or (pi_list he) (pi_tup he)) fun σ H R ⟨ρ, env, M, hE, hS, h⟩ => by
    have h' := post_bind h
    cases hf : fe env M with
    | bad => rw [hf] at h'; exact h'.elim
    | exc e ev M1 => exact .inl ⟨ρ, env, M, hE, hS, by rw [hf] at h' ⊢; exact h'⟩
    | ok d M1 =>
      rw [hf] at h'
      cases d with
      | lst l => exact .inl ⟨ρ, env, M, hE, hS, by
          rw [hf]
          intro ρ1 v H1 e1 S1 r1
          cases r1 with
          | lst hs hn rs => exact ⟨_, rfl, ⟨_, SqL.of hs⟩, h' ρ1 H1 _ e1 S1 (good_lst (G := gx X cl) hs hn rs)⟩⟩
      | scr ns => exact .inl ⟨ρ, env, M, hE, hS, by
          rw [hf]
          intro ρ1 v H1 e1 S1 r1
          cases r1 with
          | scr hs =>
            refine ⟨_, rfl, ⟨ns.map V.int, ?_⟩, h' ρ1 H1 _ e1 S1 (good_scr (G := gx X cl) hs)⟩
            rcases hs with ⟨h, _⟩ | h
            · exact .inl h
            · exact h H1⟩
      | tup l => exact .inr ⟨ρ, env, M, hE, hS, by
          rw [hf]
          intro ρ1 v H1 e1 S1 r1
          cases r1 with
          | tup hs rs => exact ⟨_, rfl, ⟨_, hs⟩, h' ρ1 H1 _ e1 S1 (good_tup (G := gx X cl) hs rs)⟩⟩
      | _ => exact h'.elim
def in62 (j : Int) : Bool := decide (-(2 ^ 62) ≤ j) && decide (j < 2 ^ 62)
theorem in62_ok {j : Int} (h : in62 j = true) : -(2 ^ 62) ≤ j ∧ j < 2 ^ 62 := by
  unfold in62 at h
  simp only [Bool.and_eq_true, decide_eq_true_eq] at h
  exact h
def dRng1 (fa : DA) : DA := fun env M => (fa env M).bind fun ds M1 => match ds with
  | [.int j] => if in62 j then .ok (rngD 0 j.toNat) M1 else .bad
  | _ => .bad
def dRng2 (fa : DA) : DA := fun env M => (fa env M).bind fun ds M1 => match ds with
  | [.int i, .int j] => if in62 i && in62 j then .ok (rngD i (j - i).toNat) M1 else .bad
  | _ => .bad
def dEnum (fa : DA) : DA := fun env M => (fa env M).bind fun ds M1 => match ds with
  | [.lst l] => .ok (enumD 0 l) M1
  | _ => .bad
theorem si_range1 {tg a : Expr} {fa : DA} {p pos : Pos} (hg : Gl X "range") (hm : X.mg "range" = none) (ha : SA X cl W [a] fa) (hs : starEach [a] X.env = [(false, eval a X.env)] := by rfl) : SI X cl W tg (.Call (.Name "range" p) [a] [] pos) (dRng1 fa) :=
  PIweak (pi_range1 hg hm ha hs) fun σ H R ⟨ρ, env, M, hE, hS, h⟩ => by
    refine ⟨ρ, env, M, hE, hS, (post_bind h).imp (fun ds M1 hx ρ1 vs H1 e1 S1 r1 => ?_) (fun _ _ _ z => z)⟩
    split at hx
    · rename_i j
      split at hx
      · rename_i hj
        cases r1 with
        | cons q1 q2 =>
          cases q1
          cases q2
          exact ⟨j, rfl, (in62_ok hj).1, (in62_ok hj).2, hx ρ1 H1 _ e1 S1 good_rng⟩
      · exact hx.elim
    · exact hx.elim
theorem si_range2 {tg a b : Expr} {fa : DA} {p pos : Pos} (hg : Gl X "range") (hm : X.mg "range" = none) (ha : SA X cl W [a, b] fa) (hs : starEach [a, b] X.env = [(false, eval a X.env), (false, eval b X.env)] := by rfl) (hs2 : starEach [b] X.env = [(false, eval b X.env)] := by rfl) :
    SI X cl W tg (.Call (.Name "range" p) [a, b] [] pos) (dRng2 fa) :=
  PIweak (pi_range2 hg hm ha hs hs2) fun σ H R ⟨ρ, env, M, hE, hS, h⟩ => by
    refine ⟨ρ, env, M, hE, hS, (post_bind h).imp (fun ds M1 hx ρ1 vs H1 e1 S1 r1 => ?_) (fun _ _ _ z => z)⟩
    split at hx
    · rename_i i j
      split at hx
      · rename_i hj
        rw [Bool.and_eq_true] at hj
        cases r1 with
        | cons q1 q2 =>
          cases q1
          cases q2 with
          | cons q2 q3 =>
            cases q2
            cases q3
            exact ⟨i, j, rfl, ⟨(in62_ok hj.1).1, (in62_ok hj.1).2, (in62_ok hj.2).1, (in62_ok hj.2).2⟩, hx ρ1 H1 _ e1 S1 good_rng⟩
      · exact hx.elim
    · exact hx.elim
theorem si_enum {e : Expr} {fa : DA} {p pos tpos : Pos} {elts : List Expr} {kk : Nat} (hg : Gl X "enumerate") (hm : X.mg "enumerate" = none) (ha : SA X cl W [e] fa) (hs : starEach [e] X.env = [(false, eval e X.env)] := by rfl) :
    SI X cl W (.Tuple elts kk tpos) (.Call (.Name "enumerate" p) [e] [] pos) (dEnum fa) :=
  PIweak (pi_enum hg hm ha hs) fun σ H R ⟨ρ, env, M, hE, hS, h⟩ => by
    refine ⟨ρ, env, M, hE, hS, (post_bind h).imp (fun ds M1 hx ρ1 vs H1 e1 S1 r1 => ?_) (fun _ _ _ z => z)⟩
    split at hx
    · cases r1 with
      | cons q1 q2 =>
        cases q2
        cases q1 with
        | lst hs hn rs => exact ⟨_, _, rfl, SqL.of hs, hx ρ1 H1 _ e1 S1 (good_enum (G := gx X cl) hs hn rs)⟩
    · exact hx.elim
/-! ### calls -/
abbrev DF := List D → Sto → Out D
def spD (G : Gx) (F : DF) : Sp := fun vs H Q _ => ∃ ρ M ds, RS G H ρ M ∧ RVs G H ρ ds vs ∧ (F ds M).post (oP G H ρ Q) (fun _ _ _ => False)
def dCall (F : DF) (fa : DA) : DE := fun env M => (fa env M).bind fun ds M1 => noex (F ds M1)
theorem noexF {α : Type} {o : Out α} {Q : α → Sto → Prop} {E : Exn → En → Sto → Prop} (h : (noex o).post Q E) : o.post Q (fun _ _ _ => False) := noex_post h
theorem se_call {F : DF} {k : Nat} {f : Addr} {fd : FuncData} {ps : List Str} {x : Str} {e : Expr} {es : List Expr} {fa : DA} {p pos : Pos} (Fk : FnOk X.prog X.w X.K X.mg X.base CX0 k f fd ps (spD (gx X cl) F)) (hr : Room k X.A) (hg : Gl X x) (hm : X.mg x = some (.ref f)) (hk : PySem.W.keepIn X.K (.ref f) = true) (hb : Binds X.K fd ps [])
    (ha : SA X cl W (e :: es) fa) (hdb : (x == ("__debug__" : Str)) = false := by decide) (he : starEach (e :: es) X.env = (false, eval e X.env) :: starEach es X.env := by rfl) (hpl : (backTo pos (starEach es X.env)).any (·.1) = false := by rfl) :
    SE X cl W (.Call (.Name x p) (e :: es) [] pos) (dCall F fa) :=
  PEweak (pe_call Fk hr hg hm hk hb .nil (E := E0) pass0 ha hdb he hpl) fun σ H Q ⟨ρ, env, M, hE, hS, h⟩ => by
    refine ⟨ρ, env, M, hE, hS, (post_bind h).imp (fun ds M1 hx ρ1 vs H1 e1 S1 r1 => ?_) (fun _ _ _ z => z)⟩
    show spD (gx X cl) F (vs ++ []) H1 Q E0
    rw [List.append_nil]
    exact ⟨ρ1, M1, ds, S1, r1, (noexF hx).imp (fun _ _ z => oP.sh e1 z) (fun _ _ _ z => z)⟩
def runF (n m : Nat) (fb : DS) : DF := fun ds M => if ds.length = m then (fb (ds.map some ++ List.replicate (n - m) none) M).bind fun fl M1 => match fl with
    | .nx _ => .ok .non M1
    | .rt d => .ok d M1
    | _ => .bad
  else .bad
theorem runF_len {n m : Nat} {fb : DS} {ds : List D} {M : Sto} {Q : D → Sto → Prop} {E : Exn → En → Sto → Prop} (h : (runF n m fb ds M).post Q E) : ds.length = m ∧ ((fb (ds.map some ++ List.replicate (n - m) none) M).bind fun fl M1 => match fl with
    | .nx _ => Out.ok D.non M1
    | .rt d => .ok d M1
    | _ => .bad).post Q E := by
  unfold runF at h
  split at h
  · exact ⟨by assumption, h⟩
  · exact h.elim
theorem RE.start {H : Hp} {ρ : Rho} {N : List Str} {ds : List D} {vs : List V} (r : RVs G H ρ ds vs) : RE G H ρ (ds.map some ++ List.replicate (N.length - ds.length) none) (start N vs) := by
  have hl := r.length
  refine ⟨by simp [L2.start, hl], fun i d h => ?_⟩
  by_cases hi : i < ds.length
  · rw [List.getElem?_append_left (by simpa using hi)] at h
    rw [List.getElem?_map] at h
    cases e : ds[i]? with
    | none => rw [e] at h; cases h
    | some d0 =>
      rw [e] at h
      cases h
      obtain ⟨v, hv, rv⟩ := r.get e
      refine ⟨v, ?_, rv⟩
      unfold L2.start
      rw [List.getElem?_append_left (by simp [hl]; exact hi), List.getElem?_map, hv]
      rfl
  · rw [List.getElem?_append_right (by simpa using hi)] at h
    rw [List.getElem?_replicate] at h
    split at h
    · cases h
    · cases h
theorem fnok {P : Program} {w : World} {K : PySem.W.Frag} {mg : Str → Option Value} {base : Heap} {cl : Str → Option Addr} {x qual : Str} {st : Stmt} {f : Addr} {fd : FuncData} {N ps : List Str} {k : Nat} {fb : DS} (F : Fun K x qual st f fd) (S : FnScope N ps (defScope st))
    (hb : ∀ (cdv : Value) (A : Around) (outer : List Env) (s : Shared) (H : Hp) (E : XK), Room k (A.deeper (envOfC qual (defScope st) s.heap.objs.size f cdv)) → SSs (cxOf CX0 P w K mg base N qual (defScope st) f cdv A outer s H E).nox cl W0 (defBody st) fb) :
    FnOk P w K mg base CX0 (k + 1) f fd ps (spD ⟨K, cl⟩ (runF N.length ps.length fb)) := by
  refine F.ok S (fun vs H Q E ⟨ρ, M, ds, hS, r, h⟩ => by rw [r.length]; exact (runF_len h).1) fun cdv A outer s H vs Q E hr ⟨ρ, M, ds, hS, r, h⟩ => ⟨_, hb cdv A outer s H E hr, ?_⟩
  obtain ⟨hl, h⟩ := runF_len h
  rw [← hl] at h
  refine ⟨ρ, _, M, RE.start (N := N) r, hS, (post_bind h).imp (fun fl M1 hx => ?_) (fun _ _ _ z => z.elim)⟩
  cases fl with
  | nx env => exact fun ρ1 σ1 H1 e1 S1 E1 => hx ρ1 .non H1 e1 S1 .non
  | rt d => exact hx
  | bk env => exact hx.elim
  | ct env => exact hx.elim
end
end Ip
end
section
set_option Elab.async false
set_option linter.all false
set_option maxRecDepth 100000
set_option maxHeartbeats 4000000
set_option autoImplicit false
namespace Ip
open PySem PyProof.Rows L2
/-! ### a call's own cells become trees where it returns -/
mutual
def closed (k : Nat) : D → Bool
  | .tup l => closedAll k l
  | .lst l => closedAll k l
  | .obj _ _ l => closedAll k l
  | .ref n => decide (n < k)
  | .non => true
  | .bl _ => true
  | .int _ => true
  | .str _ => true
  | .scr _ => true
  | .ty _ => true
  | .cls _ => true
def closedAll (k : Nat) : List D → Bool
  | [] => true
  | d :: ds => closed k d && closedAll k ds
end
def cellClosed (k : Nat) : Cell → Bool
  | .lst ds => closedAll k ds
  | .ins _ _ ds => closedAll k ds
def thaw (k : Nat) (M : Sto) (d : D) : Option D := match d with
  | .ref n => if n < k then some (.ref n) else match M[n]? with
    | some (.lst ds) => if closedAll k ds then some (.lst ds) else none
    | some (.ins c ks ds) => if closedAll k ds then some (.obj c ks ds) else none
    | none => none
  | d => if closed k d then some d else none
def frzO (k : Nat) (d : D) (M1 : Sto) : Out D := match thaw k M1 d with
  | some d' => if (M1.take k).all (cellClosed k) then .ok d' (M1.take k) else .bad
  | none => .bad
def frz (F : DF) : DF := fun ds M => (F ds M).bind fun d M1 => frzO M.length d M1
section
variable {G : Gx} {H : Hp} {ρ : Rho} {k : Nat}
def Rho.cut (ρ : Rho) (k : Nat) : Rho := ⟨ρ.c.take k, ρ.t⟩
theorem Rho.cut_sub {a : Addr} (h : a ∉ ρ) : a ∉ ρ.cut k := fun z => by
  rcases z with z | z
  · exact h (.inl (List.mem_of_mem_take z))
  · exact h (.inr z)
mutual
theorem RV.cut : ∀ {d : D} {v : V}, RV G H ρ d v → closed k d = true → RV G H (ρ.cut k) d v
  | _, _, .non, _ => .non
  | _, _, .bl b, _ => .bl b
  | _, _, .int i, _ => .int i
  | _, _, .str s, _ => .str s
  | _, _, .ty s, _ => .ty s
  | _, _, .tup h r, c => .tup h (RVs.cut r (by simpa [closed] using c))
  | _, _, .lst h n r, c => .lst h (Rho.cut_sub n) (RVs.cut r (by simpa [closed] using c))
  | _, _, .scr h, _ => .scr (h.elim (fun z => .inl ⟨z.1, Rho.cut_sub z.2⟩) .inr)
  | _, _, .ref (n := n) (a := a) h, c => .ref (by
      have c' : n < k := by simpa [closed] using c
      show (ρ.c.take k)[n]? = some a
      rw [List.getElem?_take_of_lt c']; exact h)
  | _, _, .obj c h l n r, z => .obj c h l (Rho.cut_sub n) (RVs.cut r (by simpa [closed] using z))
  | _, _, .cls h, _ => .cls h
theorem RVs.cut : ∀ {ds : List D} {vs : List V}, RVs G H ρ ds vs → closedAll k ds = true → RVs G H (ρ.cut k) ds vs
  | _, _, .nil, _ => .nil
  | _, _, .cons a b, c => by
    simp only [closedAll, Bool.and_eq_true] at c
    exact .cons (RV.cut a c.1) (RVs.cut b c.2)
end
theorem RS.cut {M : Sto} (S : RS G H ρ M) (hc : (M.take k).all (cellClosed k) = true) : RS G H (ρ.cut k) (M.take k) := by
  refine ⟨by show (ρ.c.take k).length = _; simp [S.len], S.nd.sublist (List.take_sublist _ _), fun a ha => S.dis a (List.mem_of_mem_take ha), S.trt, fun n c h => ?_, S.tb⟩
  have hn : n < k := by
    have := (List.getElem?_eq_some_iff.mp h).1
    simp at this; omega
  have hcc : cellClosed k c = true := List.all_eq_true.mp hc c (List.mem_of_getElem? h)
  rw [List.getElem?_take_of_lt hn] at h
  obtain ⟨a, ha, q⟩ := S.at_ n c h
  refine ⟨a, by show (ρ.c.take k)[n]? = some a; rw [List.getElem?_take_of_lt hn]; exact ha, ?_⟩
  cases c with
  | lst ds => obtain ⟨vs, e, r⟩ := q; exact ⟨vs, e, r.cut hcc⟩
  | ins c ks ds => obtain ⟨C, dx, vs, e0, e, l, r⟩ := q; exact ⟨C, dx, vs, e0, e, l, r.cut hcc⟩
theorem cut_notin {M : Sto} (S : RS G H ρ M) {n : Nat} {a : Addr} (hn : k ≤ n) (h : ρ.c[n]? = some a) : a ∉ ρ.cut k := fun z => by
  rcases z with z | z
  · have z' : a ∈ ρ.c.take k := z
    obtain ⟨m, hm, e⟩ := List.getElem_of_mem z'
    have hm' : m < k := by
      rw [List.length_take] at hm; omega
    have : ρ.c[m]? = some a := by
      have q : (ρ.c.take k)[m]? = some a := by rw [List.getElem?_eq_getElem hm, e]
      rw [List.getElem?_take_of_lt hm'] at q; exact q
    have := nodup_at S.nd this h
    omega
  · exact S.dis a (List.mem_of_getElem? h) z
theorem thaw_ok {M : Sto} (S : RS G H ρ M) {d d' : D} {v : V} (r : RV G H ρ d v) (h : thaw k M d = some d') : RV G H (ρ.cut k) d' v := by
  cases r with
  | ref hn =>
    rename_i n a
    have h' : (if n < k then some (D.ref n) else match M[n]? with
      | some (.lst ds) => if closedAll k ds then some (D.lst ds) else none
      | some (.ins c ks ds) => if closedAll k ds then some (D.obj c ks ds) else none
      | none => none) = some d' := h
    split at h'
    · rename_i hlt
      cases h'
      exact .ref (by show (ρ.c.take k)[n]? = some a; rw [List.getElem?_take_of_lt hlt]; exact hn)
    · rename_i hge
      split at h'
      · rename_i ds hm
        split at h'
        · rename_i hc
          cases h'
          obtain ⟨b, hb, vs, e, r⟩ := S.at_ _ _ hm
          rw [hn] at hb; cases hb
          exact .lst e (cut_notin S (by omega) hn) (r.cut hc)
        · cases h'
      · rename_i c ks ds hm
        split at h'
        · rename_i hc
          cases h'
          obtain ⟨b, hb, C, dx, vs, e0, e, l, r⟩ := S.at_ _ _ hm
          rw [hn] at hb; cases hb
          exact .obj e0 e l (cut_notin S (by omega) hn) (r.cut hc)
        · cases h'
      · cases h'
  | non => cases (show (if closed k .non then some D.non else none) = some d' from h); exact .non
  | bl b => cases (show (if closed k (.bl b) then some (D.bl b) else none) = some d' from h); exact .bl b
  | int i => cases (show (if closed k (.int i) then some (D.int i) else none) = some d' from h); exact .int i
  | str s => cases (show (if closed k (.str s) then some (D.str s) else none) = some d' from h); exact .str s
  | ty s => cases (show (if closed k (.ty s) then some (D.ty s) else none) = some d' from h); exact .ty s
  | scr hs =>
    rename_i a ns
    cases (show (if closed k (.scr ns) then some (D.scr ns) else none) = some d' from h); exact RV.cut (.scr hs) rfl
  | tup hs rs =>
    unfold thaw at h
    have h' := h
    simp only at h'
    split at h'
    · rename_i hc
      cases h'
      exact RV.cut (.tup hs rs) hc
    · cases h'
  | lst hs hn rs =>
    unfold thaw at h
    have h' := h
    simp only at h'
    split at h'
    · rename_i hc
      cases h'
      exact RV.cut (.lst hs hn rs) hc
    · cases h'
  | obj e0 hs l hn rs =>
    unfold thaw at h
    have h' := h
    simp only at h'
    split at h'
    · rename_i hc
      cases h'
      exact RV.cut (.obj e0 hs l hn rs) hc
    · cases h'
  | cls e0 => cases h; exact .cls e0
theorem Ext.cut {H' : Hp} {ρ' : Rho} {M M' : Sto} (S : RS G H ρ M) (e : Ext G H ρ H' ρ') : Ext G H ρ H' (ρ'.cut M.length) :=
  ⟨fun n a h => by
    have hn : n < M.length := by rw [← S.len]; exact (List.getElem?_eq_some_iff.mp h).1
    show (ρ'.c.take M.length)[n]? = some a
    rw [List.getElem?_take_of_lt hn]; exact e.pre n a h, e.res, e.same, e.tup, fun a o h1 nt h2 => ⟨(e.keep a o h1 nt h2).1, Rho.cut_sub (e.keep a o h1 nt h2).2⟩⟩
theorem frzO_ok {M M1 : Sto} {d : D} {Q : VK} {E : Exn → En → Sto → Prop} (S : RS G H ρ M) (h : (frzO M.length d M1).post (oP G H ρ Q) E) : oP G H ρ Q d M1 := by
  unfold frzO at h
  split at h
  · rename_i d' hd
    split at h
    · rename_i hc
      intro ρ1 v H1 e1 S1 r1
      exact h (ρ1.cut M.length) v H1 (Ext.cut (M' := M1) S e1) (S1.cut hc) (thaw_ok S1 r1 hd)
    · exact h.elim
  · exact h.elim
end
theorem spD_frz {G : Gx} {F : DF} {vs : List V} {H : Hp} {Q : VK} {E : XK} (h : spD G (frz F) vs H Q E) : spD G F vs H Q E := by
  obtain ⟨ρ, M, ds, S, r, h⟩ := h
  exact ⟨ρ, M, ds, S, r, (post_bind h).imp (fun d M1 hx => frzO_ok S hx) (fun _ _ _ z => z)⟩
theorem fn_frz {P : Program} {w : World} {K : PySem.W.Frag} {mg : Str → Option Value} {base : Heap} {k : Nat} {f : Addr} {fd : FuncData} {ps : List Str} {G : Gx} {F : DF} (h : FnOk P w K mg base CX0 k f fd ps (spD G F)) : FnOk P w K mg base CX0 k f fd ps (spD G (frz F)) :=
  h.imp fun _ _ _ _ z => spD_frz z
/-- what the function is shown to be worth -/
theorem fn_eq {P : Program} {w : World} {K : PySem.W.Frag} {mg : Str → Option Value} {base : Heap} {k : Nat} {f : Addr} {fd : FuncData} {ps : List Str} {G : Gx} {F F' : DF} (h : FnOk P w K mg base CX0 k f fd ps (spD G F)) (e : ∀ ds M, F' ds M = .bad ∨ F' ds M = F ds M) : FnOk P w K mg base CX0 k f fd ps (spD G F') :=
  h.imp fun _ _ _ _ ⟨ρ, M, ds, S, r, z⟩ => ⟨ρ, M, ds, S, r, by
    rcases e ds M with q | q
    · rw [q] at z; exact z.elim
    · rw [q] at z; exact z⟩
/-! ### fields -/
section
variable {X : Cx} {cl : Str → Option Addr} {W : WX} {G : Gx}
theorem zip_lookup {H : Hp} {ρ : Rho} {f : Str} : ∀ {ks : List Str} {ds : List D} {vs : List V} {d : D}, RVs G H ρ ds vs → (ks.zip ds).lookup f = some d → ∃ v, (ks.zip vs).lookup f = some v ∧ RV G H ρ d v
  | [], _, _, _, _, h => by simp at h
  | _ :: _, _, _, _, .nil, h => by simp at h
  | k :: ks, _, _, d, .cons r rs, h => by
    rw [List.zip_cons_cons, List.lookup_cons] at h
    rw [List.zip_cons_cons, List.lookup_cons]
    cases e : f == k with
    | true => rw [e] at h; cases h; exact ⟨_, rfl, r⟩
    | false => rw [e] at h; exact zip_lookup rs h
theorem zip_none {f : Str} : ∀ {ks : List Str} {ds : List D} {vs : List V}, vs.length = ds.length → (ks.zip ds).lookup f = none → (ks.zip vs).lookup f = none
  | [], _, _, _, _ => by simp
  | _ :: _, [], vs, hl, _ => by
    cases vs with
    | nil => simp
    | cons _ _ => simp at hl
  | k :: ks, d :: ds, [], hl, _ => by simp at hl
  | k :: ks, d :: ds, v :: vs, hl, h => by
    rw [List.zip_cons_cons, List.lookup_cons] at h
    rw [List.zip_cons_cons, List.lookup_cons]
    cases e : f == k with
    | true => rw [e] at h; cases h
    | false => rw [e] at h; exact zip_none (by simpa using hl) h
def objOf (c : Str) (x : D) (M : Sto) : Option (List Str × List D) := match x with
  | .obj c' ks ds => if c' = c then some (ks, ds) else none
  | .ref n => match M[n]? with
    | some (.ins c' ks ds) => if c' = c then some (ks, ds) else none
    | _ => none
  | _ => none
theorem objOf_ok {c : Str} {C : Addr} (hC : G.cl c = some C) {H : Hp} {ρ : Rho} {M : Sto} {x : D} {v : V} {ks : List Str} {ds : List D} (S : RS G H ρ M) (r : RV G H ρ x v) (h : objOf c x M = some (ks, ds)) :
    ∃ a dx vs, v = .ref a ∧ H a = some (.ins C dx (ks.zip vs)) ∧ ks.length = vs.length ∧ RVs G H ρ ds vs := by
  cases r with
  | obj e0 hs l hn rs =>
    unfold objOf at h
    have h' := h
    simp only at h'
    split at h'
    · rename_i ec
      cases h'
      subst ec
      rw [hC] at e0; cases e0
      exact ⟨_, _, _, rfl, hs, l, rs⟩
    · cases h'
  | ref hn =>
    rename_i n a
    have h' : (match M[n]? with
      | some (.ins c' ks ds) => if c' = c then some (ks, ds) else none
      | _ => none) = some (ks, ds) := h
    split at h'
    · rename_i c' ks' ds' hm
      split at h'
      · rename_i ec
        cases h'
        subst ec
        obtain ⟨b, hb, C', dx, vs, e0, e, l, rs⟩ := S.at_ _ _ hm
        rw [hn] at hb; cases hb
        rw [hC] at e0; cases e0
        exact ⟨_, _, _, rfl, e, l, rs⟩
      · cases h'
    · cases h'
  | _ => cases h
def dFld (c f : Str) (fe : DE) : DE := fun env M => (fe env M).bind fun x M1 => match objOf c x M1 with
  | some (ks, ds) => match (ks.zip ds).lookup f with
    | some d => .ok d M1
    | none => .bad
  | none => .bad
theorem se_fld {c f : Str} {C : Addr} {e : Expr} {fe : DE} {pos : Pos} (hC : cl c = some C) (k : Cls X.K C) (na : NoAttr X.K C f) (he : SE X cl W e fe) (hb : attributeBase e f X.env (eval e X.env) = eval e X.env := by rfl) : SE X cl W (.Attribute e f pos) (dFld c f fe) :=
  PEweak (pe_fld he hb) fun σ H Q ⟨ρ, env, M, hE, hS, h⟩ => by
    refine ⟨ρ, env, M, hE, hS, (post_bind h).imp (fun x M1 hx ρ1 v H1 e1 S1 r1 => ?_) (fun _ _ _ z => z)⟩
    split at hx
    · rename_i ks ds ho
      split at hx
      · rename_i d hd
        obtain ⟨a, dx, vs, rfl, ha, hl, rs⟩ := objOf_ok (G := gx X cl) hC S1 r1 ho
        obtain ⟨u, hu, ru⟩ := zip_lookup rs hd
        exact ⟨a, C, dx, _, u, rfl, ha, k, na, hu, hx ρ1 u H1 e1 S1 ru⟩
      · exact hx.elim
    · exact hx.elim
def putKs (f : Str) : List Str → List Str
  | [] => [f]
  | g :: r => if g = f then g :: r else g :: putKs f r
def putVs {α : Type} (f : Str) (x : α) : List Str → List α → List α
  | [], _ => [x]
  | g :: r, y :: ys => if g = f then x :: ys else y :: putVs f x r ys
  | _ :: _, [] => []
theorem putF_zip {f : Str} {v : V} : ∀ {ks : List Str} {vs : List V}, ks.length = vs.length → putF f v (ks.zip vs) = (putKs f ks).zip (putVs f v ks vs) ∧ (putKs f ks).length = (putVs f v ks vs).length
  | [], [], _ => ⟨rfl, rfl⟩
  | [], _ :: _, h => by simp at h
  | _ :: _, [], h => by simp at h
  | k :: ks, w :: vs, h => by
    have ih := putF_zip (f := f) (v := v) (ks := ks) (vs := vs) (by simpa using h)
    show (if k = f then (k, v) :: ks.zip vs else (k, w) :: putF f v (ks.zip vs)) = _ ∧ _
    unfold putKs putVs
    split
    · exact ⟨rfl, by simpa using h⟩
    · rw [ih.1]
      exact ⟨rfl, by simp [ih.2]⟩
theorem putVs_rv {H : Hp} {ρ : Rho} {f : Str} {d : D} {v : V} (r : RV G H ρ d v) : ∀ {ks : List Str} {ds : List D} {vs : List V}, RVs G H ρ ds vs → RVs G H ρ (putVs f d ks ds) (putVs f v ks vs)
  | [], _, _, _ => .one r
  | k :: ks, _, _, .nil => .nil
  | k :: ks, _, _, .cons q qs => by
    unfold putVs
    split
    · exact .cons r qs
    · exact .cons q (putVs_rv r qs)
def dSetFld (c f : Str) (fo fe : DE) : DS := fun env M => (fe env M).bind fun y M1 => (fo env M1).bind fun x M2 => match x with
  | .ref n => match M2[n]? with
    | some (.ins c' ks ds) => if c' = c ∧ ks.length < 1000 then .ok (.nx env) (M2.set n (.ins c' (putKs f ks) (putVs f y ks ds))) else .bad
    | _ => .bad
  | _ => .bad
theorem ss_fld {c f : Str} {C : Addr} {o e : Expr} {fo fe : DE} {pos pos' : Pos} (hC : cl c = some C) (k : Cls X.K C) (na : NoAttr X.K C f) (ho : SE X cl W o fo) (he : SE X cl W e fe) (hs : swapsWith e (some (.Attribute o f pos')) pos.line X.env = pure false := by rfl) : SS X cl W (.Assign [.Attribute o f pos'] e pos) (dSetFld c f fo fe) :=
  PSweak (ps_fld ho he hs) fun D σ H ⟨ρ, env, M, hE, hS, h⟩ => by
    refine ⟨ρ, env, M, hE, hS, (post_bind h).imp (fun y M1 hy ρ1 v H1 e1 S1 r1 => ?_) (fun _ _ _ z => z)⟩
    refine ⟨ρ1, env, M1, hE.mono e1, S1, (post_bind hy).imp (fun x M2 hx ρ2 w H2 e2 S2 r2 => ?_) (fun _ _ _ z => eP.sh e1 z)⟩
    cases r2 with
    | ref hn =>
      rename_i n a
      have hx' : (match M2[n]? with
        | some (.ins c' ks ds) => if c' = c ∧ ks.length < 1000 then Out.ok (Fl.nx env) (M2.set n (.ins c' (putKs f ks) (putVs f y ks ds))) else .bad
        | _ => .bad).post (sP (gx X cl) H ρ D) (eP (gx X cl) W H ρ) := hx
      split at hx'
      · rename_i c' ks ds hm
        split at hx'
        · rename_i hcc
          obtain ⟨rfl, hl⟩ := hcc
          obtain ⟨b, hb, C', dx, vs, e0, ea, l, rs⟩ := S2.at_ _ _ hm
          rw [hn] at hb; cases hb
          have e0' : cl c' = some C' := e0
          rw [hC] at e0'; cases e0'
          have x3 : Ext (gx X cl) H2 ρ2 (upd H2 a (.ins C dx (putF f v (ks.zip vs)))) ρ2 := Ext.write S2 hn
          refine ⟨a, C, dx, _, rfl, ea, k, na, by rw [List.length_zip, ← l]; omega, hx' ρ2 σ _ (e1.trans (e2.trans x3)) (S2.write hn ⟨C, dx, putVs f v ks vs, e0, ?_, (putF_zip l).2, ?_⟩) (hE.mono (e1.trans (e2.trans x3)))⟩
          · rw [upd_same, (putF_zip l).1]
          · exact (putVs_rv (r1.mono e2) rs).mono x3
        · exact hx'.elim
      · exact hx'.elim
    | _ => exact hx.elim
/-! ### own methods, making -/
def dMeth (c m : Str) (F : DF) (fo : DE) (fa : DA) : DE := fun env M => (fo env M).bind fun x M1 => match objOf c x M1 with
  | some (ks, ds) => match (ks.zip ds).lookup m with
    | none => (fa env M1).bind fun as M2 => noex (F (x :: as) M2)
    | some _ => .bad
  | none => .bad
theorem meth_ok {c m : Str} {C : Addr} (hC : G.cl c = some C) {F : DF} {fo : DE} {fa : DA} {σ : L2.St} {H : Hp} {Q : VK} (h : dE G W (dMeth c m F fo fa) σ H Q) : tMeth C m (spD G F) [] E0 (dE G W fo) (dA G W fa) σ H Q := by
  obtain ⟨ρ, env, M, hE, hS, h⟩ := h
  refine ⟨ρ, env, M, hE, hS, (post_bind h).imp (fun x M1 hx ρ1 v H1 e1 S1 r1 => ?_) (fun _ _ _ z => z)⟩
  split at hx
  · rename_i ks ds ho
    split at hx
    · rename_i hnone
      obtain ⟨a, dx, vs, rfl, ha, hl, rs⟩ := objOf_ok hC S1 r1 ho
      refine ⟨a, dx, _, rfl, ha, zip_none rs.length hnone, ρ1, env, M1, hE.mono e1, S1, (post_bind hx).imp (fun as M2 hy ρ2 ws H2 e2 S2 r2 => ?_) (fun _ _ _ z => eP.sh e1 z)⟩
      show spD G F (.ref a :: (ws ++ [])) H2 Q E0
      rw [List.append_nil]
      exact ⟨ρ2, M2, x :: as, S2, .cons (r1.mono e2) r2, (noexF hy).imp (fun _ _ z => oP.sh (e1.trans e2) z) (fun _ _ _ z => z)⟩
    · exact hx.elim
  · exact hx.elim
theorem se_meth {c m : Str} {C f : Addr} {k : Nat} {fd : FuncData} {ps : List Str} {F : DF} {o e : Expr} {es : List Expr} {fo : DE} {fa : DA} {apos pos : Pos} {pl : Sem Bool} (hC : cl c = some C) (ho : SE X cl W o fo) (kc : Cls X.K C) (hm : Meth X.K C m f) (Fk : FnOk X.prog X.w X.K X.mg X.base CX0 k f fd ps (spD (gx X cl) F)) (hr : Room k X.A) (hb : Binds X.K fd ps []) (ha : SA X cl W (e :: es) fa)
    (hst : starEach (e :: es) X.env = (false, eval e X.env) :: starEach es X.env := by rfl) (hpl : (backTo pos (starEach es X.env)).any (·.1) = false := by rfl)
    (ht : eval (.Call (.Attribute o m apos) (e :: es) [] pos) X.env = (do
      let ov ← eval o X.env
      standAt apos.atName
      let (f, first) ← holding [ov] (getMethod ov m pl)
      callWith pos f first (backTo pos (starEach (e :: es) X.env)) (backToKw pos (keywordEach [] X.env))) := by rfl) :
    SE X cl W (.Call (.Attribute o m apos) (e :: es) [] pos) (dMeth c m F fo fa) :=
  PEweak (pe_meth ho kc hm Fk hr hb .nil (E := E0) pass0 ha hst hpl ht) fun σ H Q h => meth_ok (G := gx X cl) hC h
theorem se_meth0 {c m : Str} {C f : Addr} {k : Nat} {fd : FuncData} {ps : List Str} {F : DF} {o : Expr} {fo : DE} {apos pos : Pos} {pl : Sem Bool} (hC : cl c = some C) (ho : SE X cl W o fo) (kc : Cls X.K C) (hm : Meth X.K C m f) (Fk : FnOk X.prog X.w X.K X.mg X.base CX0 k f fd ps (spD (gx X cl) F)) (hr : Room k X.A) (hb : Binds X.K fd ps [])
    (ht : eval (.Call (.Attribute o m apos) [] [] pos) X.env = (do
      let ov ← eval o X.env
      standAt apos.atName
      let (f, first) ← holding [ov] (getMethod ov m pl)
      callWith pos f first (backTo pos (starEach [] X.env)) (backToKw pos (keywordEach [] X.env))) := by rfl) :
    SE X cl W (.Call (.Attribute o m apos) [] [] pos) (dMeth c m F fo dNilA) :=
  PEweak (pe_meth0 ho kc hm Fk hr hb .nil (E := E0) pass0 ht) fun σ H Q h => by
    have q := meth_ok (G := gx X cl) hC h
    obtain ⟨ρ, env, M, hE, hS, q⟩ := q
    refine ⟨ρ, env, M, hE, hS, q.imp (fun x M1 hx ρ1 v H1 e1 S1 r1 => ?_) (fun _ _ _ z => z)⟩
    obtain ⟨a, dx, fs, e, ha, hn, z⟩ := hx ρ1 v H1 e1 S1 r1
    refine ⟨a, dx, fs, e, ha, hn, ?_⟩
    obtain ⟨ρ2, env2, M2, E2, S2, z⟩ := z
    exact z ρ2 [] H1 .refl S2 .nil
def dMake (c : Str) (F : DF) (fa : DA) : DE := fun env M => (fa env M).bind fun ds M1 => (noex (F (.ref M1.length :: ds) (M1 ++ [.ins c [] []]))).bind fun d M2 => match d with
  | .non => frzO M1.length (.ref M1.length) M2
  | _ => .bad
theorem se_make {c : Str} {C f : Addr} {k : Nat} {fd : FuncData} {ps : List Str} {F : DF} {x : Str} {e : Expr} {es : List Expr} {fa : DA} {p pos : Pos} (hC : cl c = some C) (Mk' : Mk X.K C f) (Fk : FnOk X.prog X.w X.K X.mg X.base CX0 k f fd ps (spD (gx X cl) F)) (hr : Room (k + 1) X.A) (hg : Gl X x) (hm : X.mg x = some (.ref C)) (hb : Binds X.K fd ps [])
    (ha : SA X cl W (e :: es) fa) (hdb : (x == ("__debug__" : Str)) = false := by decide) (he : starEach (e :: es) X.env = (false, eval e X.env) :: starEach es X.env := by rfl) (hpl : (backTo pos (starEach es X.env)).any (·.1) = false := by rfl) :
    SE X cl W (.Call (.Name x p) (e :: es) [] pos) (dMake c F fa) :=
  PEweak (pe_make Mk' Fk hr hg hm hb .nil (E := E0) pass0 ha hdb he hpl) fun σ H Q ⟨ρ, env, M, hE, hS, h⟩ => by
    refine ⟨ρ, env, M, hE, hS, (post_bind h).imp (fun ds M1 hx ρ1 vs H1 e1 S1 r1 x dx nx ndx nex => ?_) (fun _ _ _ z => z)⟩
    show spD (gx X cl) F (.ref x :: (vs ++ [])) _ _ E0
    rw [List.append_nil]
    have S2 : RS (gx X cl) (upd H1 dx (.own x)) ρ1 M1 := S1.new ndx
    have x2 : Ext (gx X cl) H1 ρ1 (upd H1 dx (.own x)) ρ1 := Ext.new S1 ndx
    have nx2 : upd H1 dx (.own x) x = none := by rw [upd_ne (Ne.symm nex)]; exact nx
    have x3 : Ext (gx X cl) (upd H1 dx (.own x)) ρ1 (upd (upd H1 dx (.own x)) x (.ins C dx [])) (ρ1.add x) := Ext.cell S2 nx2
    have S3 : RS (gx X cl) (upd (upd H1 dx (.own x)) x (.ins C dx [])) (ρ1.add x) (M1 ++ [.ins c [] []]) := S2.cell nx2 ⟨C, dx, [], hC, upd_same, rfl, .nil⟩
    refine ⟨ρ1.add x, _, .ref M1.length :: ds, S3, .cons (.ref S1.at_new) ((r1.mono x2).mono x3), (noexF (post_bind hx)).imp (fun d M2 hd ρ4 v H4 e4 S4 r4 => ?_) (fun _ _ _ z => z)⟩
    split at hd
    · cases r4
      refine ⟨rfl, frzO_ok (H := H1) (ρ := ρ1) S1 (hd.imp (fun _ _ z => oP.sh e1 z) (fun _ _ _ z => z)) ρ4 (.ref x) H4 (x2.trans (x3.trans e4)) S4 (.ref (e4.pre _ _ S1.at_new))⟩
    · exact hd.elim
end
end Ip
end
section
set_option Elab.async false
set_option linter.all false
set_option maxRecDepth 100000
set_option maxHeartbeats 4000000
set_option autoImplicit false
namespace Ip
open PySem PyProof.Rows L2
/-! ### values -/
section
variable {X : Cx} {cl : Str → Option Addr} {W : WX} {G : Gx}
/-- a list, tree or cell -/
def asL (x : D) (M : Sto) : Option (List D) := match x with
  | .lst l => some l
  | .ref n => match M[n]? with
    | some (.lst l) => some l
    | _ => none
  | _ => none
theorem asL_ok {H : Hp} {ρ : Rho} {M : Sto} {x : D} {v : V} {l : List D} (S : RS G H ρ M) (r : RV G H ρ x v) (h : asL x M = some l) : ∃ a vs, v = .ref a ∧ H a = some (.lst vs) ∧ RVs G H ρ l vs := by
  cases r with
  | lst hs hn rs => cases h; exact ⟨_, _, rfl, hs, rs⟩
  | ref hn =>
    rename_i n a
    have h' : (match M[n]? with
      | some (.lst l) => some l
      | _ => none) = some l := h
    split at h'
    · rename_i l' hm
      cases h'
      obtain ⟨b, hb, vs, e, rs⟩ := S.at_ _ _ hm
      rw [hn] at hb; cases hb
      exact ⟨_, _, rfl, e, rs⟩
    · cases h'
  | _ => cases h
theorem oP.new {H : Hp} {ρ : Rho} {M : Sto} {Q : VK} {d : D} {p : Addr} {o : HO} (h : oP G H ρ Q d M) (S : RS G H ρ M) (hp : H p = none) (r : RV G (upd H p o) ρ d (.ref p)) : Q (.ref p) (upd H p o) := h ρ _ _ (Ext.new S hp) (S.new hp) r
theorem RV.newL {H : Hp} {ρ : Rho} {M : Sto} {ds : List D} {vs : List V} {p : Addr} (S : RS G H ρ M) (hp : H p = none) (r : RVs G H ρ ds vs) : RV G (upd H p (.lst vs)) ρ (.lst ds) (.ref p) := .lst upd_same (S.fresh hp) (r.mono (Ext.new S hp))
theorem RV.newT {H : Hp} {ρ : Rho} {M : Sto} {ds : List D} {vs : List V} {p : Addr} (S : RS G H ρ M) (hp : H p = none) (r : RVs G H ρ ds vs) : RV G (upd H p (.tup vs)) ρ (.tup ds) (.ref p) := .tup (SqT.of upd_same) (r.mono (Ext.new S hp))
def gInt (f : Int → Int → Int) : G2 := fun x y M => match x, y with
  | .int i, .int j => some (.int (f i j), M)
  | _, _ => none
def gIntB (f : Int → Int → Bool) : G2 := fun x y M => match x, y with
  | .int i, .int j => some (.bl (f i j), M)
  | _, _ => none
theorem ops_int {f : Int → Int → Int} : OpS G (rI0 fun i j => .int (f i j)) (gInt f) := fun H ρ M x y dx dy d M' Q S rx ry e h => by
  cases rx with
  | int i =>
    cases ry with
    | int j => cases e; exact ⟨i, j, rfl, rfl, h ρ _ H .refl S (.int _)⟩
    | _ => cases e
  | _ => cases e
theorem ops_intB {f : Int → Int → Bool} : OpS G (rI0 fun i j => .bl (f i j)) (gIntB f) := fun H ρ M x y dx dy d M' Q S rx ry e h => by
  cases rx with
  | int i =>
    cases ry with
    | int j => cases e; exact ⟨i, j, rfl, rfl, h ρ _ H .refl S (.bl _)⟩
    | _ => cases e
  | _ => cases e
def gIntC (c : Int → Int → Bool) (f : Int → Int → Int) : G2 := fun x y M => match x, y with
  | .int i, .int j => if c i j then some (.int (f i j), M) else none
  | _, _ => none
theorem ops_intC {C : Int → Int → Prop} {c : Int → Int → Bool} {f : Int → Int → Int} (hc : ∀ i j, c i j = true → C i j) : OpS G (rI C fun i j => .int (f i j)) (gIntC c f) := fun H ρ M x y dx dy d M' Q S rx ry e h => by
  cases rx with
  | int i =>
    cases ry with
    | int j =>
      have e' : (if c i j then some (D.int (f i j), M) else none) = some (d, M') := e
      split at e'
      · rename_i hcc
        cases e'
        exact ⟨i, j, rfl, rfl, hc i j hcc, h ρ _ H .refl S (.int _)⟩
      · cases e'
    | _ => cases e
  | _ => cases e
def gStr (f : Str → Str → Str) : G2 := fun x y M => match x, y with
  | .str s, .str t => if s.length + t.length ≤ 16777216 then some (.str (f s t), M) else none
  | _, _ => none
theorem ops_addS : OpS G (fun x y H Q => ∃ i j, x = .str i ∧ y = .str j ∧ i.length + j.length ≤ sizeLine ∧ Q (.str (i ++ j)) H) (gStr fun s t => s ++ t) := fun H ρ M x y dx dy d M' Q S rx ry e h => by
  cases rx with
  | str i =>
    cases ry with
    | str j =>
      have e' : (if i.length + j.length ≤ 16777216 then some (D.str (i ++ j), M) else none) = some (d, M') := e
      split at e'
      · rename_i hcc
        cases e'
        exact ⟨i, j, rfl, rfl, line_of hcc, h ρ _ H .refl S (.str _)⟩
      · cases e'
    | _ => cases e
  | _ => cases e
def gCat : G2 := fun x y M => match asL x M, asL y M with
  | some a, some b => if a.length + b.length ≤ 16777216 then some (.lst (a ++ b), M) else none
  | _, _ => none
def gCatC : G2 := fun x y M => match asL x M, asL y M with
  | some a, some b => if a.length + b.length ≤ 16777216 then some (.ref M.length, M ++ [.lst (a ++ b)]) else none
  | _, _ => none
theorem ops_cat : OpS G rCat gCat := fun H ρ M x y dx dy d M' Q S rx ry e h => by
  unfold gCat at e
  split at e
  · rename_i a b ha hb
    split at e
    · rename_i hl
      cases e
      obtain ⟨p, vs, rfl, hp, rs⟩ := asL_ok S rx ha
      obtain ⟨q, ws, rfl, hq, rt⟩ := asL_ok S ry hb
      exact ⟨p, q, vs, ws, rfl, rfl, hp, hq, by rw [rs.length, rt.length]; exact line_of hl, fun z hz => h.new S hz (RV.newL S hz (rs.append rt))⟩
    · cases e
  · cases e
theorem ops_catC : OpS G rCat gCatC := fun H ρ M x y dx dy d M' Q S rx ry e h => by
  unfold gCatC at e
  split at e
  · rename_i a b ha hb
    split at e
    · rename_i hl
      cases e
      obtain ⟨p, vs, rfl, hp, rs⟩ := asL_ok S rx ha
      obtain ⟨q, ws, rfl, hq, rt⟩ := asL_ok S ry hb
      exact ⟨p, q, vs, ws, rfl, rfl, hp, hq, by rw [rs.length, rt.length]; exact line_of hl, fun z hz => h _ _ _ (Ext.cell S hz) (S.newLst hz (rs.append rt)) (.ref S.at_new)⟩
    · cases e
  · cases e
def gCatT : G2 := fun x y M => match x, y with
  | .tup a, .tup b => if a.length + b.length ≤ 16777216 then some (.tup (a ++ b), M) else none
  | _, _ => none
theorem ops_catT : OpS G (rCatA G.K) gCatT := fun H ρ M x y dx dy d M' Q S rx ry e h => by
  cases rx with
  | tup hs rs =>
    cases ry with
    | tup ht rt =>
      unfold gCatT at e
      simp only at e
      split at e
      · rename_i hl
        cases e
        refine ⟨_, _, _, _, rfl, rfl, hs, ht, by rw [rs.length, rt.length]; exact line_of hl, fun z => ?_, fun _ z => ?_, fun _ _ p hp => h.new S hp (RV.newT S hp (rs.append rt))⟩
        · subst z
          cases rs
          exact h ρ _ H .refl S (.tup ht rt)
        · subst z
          cases rt
          rw [List.append_nil] at h
          exact h ρ _ H .refl S (.tup hs rs)
      · cases e
    | _ => cases e
  | _ => cases e
def in63 (k : Int) : Bool := decide (-(2 ^ 63) ≤ k) && decide (k < 2 ^ 63)
def gRep : G2 := fun x y M => match y with
  | .int k => match asL x M with
    | some a => if in63 k && decide (a.length * k.toNat ≤ 16777216) then some (.lst (List.replicate k.toNat a).flatten, M) else none
    | none => none
  | _ => none
theorem ops_rep : OpS G rRep gRep := fun H ρ M x y dx dy d M' Q S rx ry e h => by
  cases ry with
  | int k =>
    unfold gRep at e
    simp only at e
    split at e
    · rename_i a ha
      split at e
      · rename_i hl
        simp only [in63, Bool.and_eq_true, decide_eq_true_eq] at hl
        cases e
        obtain ⟨p, vs, rfl, hp, rs⟩ := asL_ok S rx ha
        exact ⟨p, k, vs, rfl, rfl, hp, hl.1.1, hl.1.2, by rw [rs.length]; exact line_of hl.2, fun z hz => h.new S hz (RV.newL S hz (rs.rep _))⟩
      · cases e
    · cases e
  | _ => cases e
def orG (g g' : G2) : G2 := fun x y M => match g x y M with
  | some p => some p
  | none => g' x y M
theorem OpS.or {r r' : R2} {g g' : G2} (h : OpS G r g) (h' : OpS G r' g') : OpS G (fun x y H Q => r x y H Q ∨ r' x y H Q) (orG g g') := fun H ρ M x y dx dy d M' Q S rx ry e z => by
  unfold orG at e
  split at e
  · rename_i p hp
    cases e
    exact .inl (h H ρ M x y dx dy d M' Q S rx ry hp z)
  · exact .inr (h' H ρ M x y dx dy d M' Q S rx ry e z)
/-- a + b -/
def gAdd : G2 := fun x y M => match x, y with
  | .int i, .int j => some (.int (i + j), M)
  | _, _ => orG (gStr fun s t => s ++ t) (orG gCat gCatT) x y M
abbrev rAddA (K : PySem.W.Frag) : R2 := fun x y H Q => rI0 (fun i j => .int (i + j)) x y H Q ∨ ((∃ i j, x = .str i ∧ y = .str j ∧ i.length + j.length ≤ sizeLine ∧ Q (.str (i ++ j)) H) ∨ (rCat x y H Q ∨ rCatA K x y H Q))
theorem op_addA : OpR X (binaryOp .Add) (rAddA X.K) := op_add.or (op_add_str.or (op_cat.or op_catA))
theorem ops_addA : OpS G (rAddA G.K) gAdd := fun H ρ M x y dx dy d M' Q S rx ry e z => by
  unfold gAdd at e
  split at e
  · cases e
    cases rx
    cases ry
    exact .inl ⟨_, _, rfl, rfl, z ρ _ H .refl S (.int _)⟩
  · exact .inr ((ops_addS.or (ops_cat.or ops_catT)) H ρ M x y dx dy d M' Q S rx ry e z)
/-! ### equality -/
def toV : D → Option V
  | .non => some .non
  | .bl b => some (.bl b)
  | .int i => some (.int i)
  | .str s => some (.str s)
  | _ => none
mutual
def toPy : D → Option PyData
  | .non => some .none
  | .bl b => some (.bool b)
  | .int i => some (.int i)
  | .str s => some (.str s)
  | .tup l => (toPys l).map .tuple
  | .lst l => (toPys l).map .list
  | .scr _ => none
  | .ty _ => none
  | .ref _ => none
  | .obj _ _ _ => none
  | .cls _ => none
def toPys : List D → Option (List PyData)
  | [] => some []
  | d :: ds => match toPy d, toPys ds with
    | some p, some ps => some (p :: ps)
    | _, _ => none
end
def pyM (x : D) (M : Sto) : Option PyData := match x with
  | .ref n => match M[n]? with
    | some (.lst l) => (toPys l).map .list
    | _ => none
  | d => toPy d
mutual
theorem toPy_ok {H : Hp} {ρ : Rho} : ∀ {d : D} {v : V} {p : PyData}, RV G H ρ d v → toPy d = some p → Dp G.K H v p
  | _, _, _, .non, h => by cases h; exact .non
  | _, _, _, .bl b, h => by cases h; exact .bl b
  | _, _, _, .int i, h => by cases h; exact .int i
  | _, _, _, .str s, h => by cases h; exact .str s
  | _, _, _, .ty s, h => by cases h
  | _, _, _, .scr s, h => by cases h
  | _, _, _, .ref s, h => by cases h
  | _, _, _, .obj _ _ _ _ _, h => by cases h
  | _, _, _, .cls _, h => by cases h
  | _, _, p, .tup (ds := ds) hs rs, h => by
    simp only [toPy] at h
    cases e : toPys ds with
    | none => rw [e] at h; cases h
    | some ps => rw [e] at h; cases h; exact .tup hs (toPys_ok rs e)
  | _, _, p, .lst (ds := ds) hs hn rs, h => by
    simp only [toPy] at h
    cases e : toPys ds with
    | none => rw [e] at h; cases h
    | some ps => rw [e] at h; cases h; exact .lst (SqL.of hs) (toPys_ok rs e)
theorem toPys_ok {H : Hp} {ρ : Rho} : ∀ {ds : List D} {vs : List V} {ps : List PyData}, RVs G H ρ ds vs → toPys ds = some ps → DpAll G.K H vs ps
  | _, _, _, .nil, h => by cases h; exact .nil
  | _, _, _, .cons (d := d) (ds := ds) r rs, h => by
    simp only [toPys] at h
    cases e : toPy d with
    | none => rw [e] at h; cases h
    | some p =>
      cases e2 : toPys ds with
      | none => rw [e, e2] at h; cases h
      | some ps => rw [e, e2] at h; cases h; exact .cons (toPy_ok r e) (toPys_ok rs e2)
end
theorem pyM_ok {H : Hp} {ρ : Rho} {M : Sto} {d : D} {v : V} {p : PyData} (S : RS G H ρ M) (r : RV G H ρ d v) (h : pyM d M = some p) : Dp G.K H v p := by
  cases r with
  | ref hn =>
    rename_i n a
    have h' : (match M[n]? with
      | some (.lst l) => (toPys l).map PyData.list
      | _ => none) = some p := h
    split at h'
    · rename_i l hm
      cases e : toPys l with
      | none => rw [e] at h'; cases h'
      | some ps =>
        rw [e] at h'; cases h'
        obtain ⟨b, hb, vs, e0, rs⟩ := S.at_ _ _ hm
        rw [hn] at hb; cases hb
        exact .lst (SqL.of e0) (toPys_ok rs e)
    · cases h'
  | non => exact toPy_ok (ρ := ρ) .non h
  | bl b => exact toPy_ok (ρ := ρ) (.bl b) h
  | int i => exact toPy_ok (ρ := ρ) (.int i) h
  | str s => exact toPy_ok (ρ := ρ) (.str s) h
  | ty s => exact toPy_ok (ρ := ρ) (.ty s) h
  | scr s => exact toPy_ok (.scr s) h
  | tup a b => exact toPy_ok (.tup a b) h
  | lst a b c => exact toPy_ok (.lst a b c) h
  | obj a b c d e => exact toPy_ok (.obj a b c d e) h
  | cls a => exact toPy_ok (ρ := ρ) (.cls a) h
theorem toV_ok {H : Hp} {ρ : Rho} {d : D} {v w : V} (r : RV G H ρ d v) (h : toV d = some w) : v = w := by
  cases r <;> first | (cases h; done) | (cases h; rfl)
def eqD (x y : D) (M : Sto) : Option Bool := match toV x, toV y with
  | some v, some w => if scal v w then some (decide (v = w)) else none
  | _, _ => match pyM x M, pyM y M with
    | some p, some q => if SeqAt.shaped p && SeqAt.shaped q then some (PyData.eqv p q) else none
    | _, _ => none
def gEq (n : Bool) : G2 := fun x y M => (eqD x y M).map fun b => (.bl (if n then !b else b), M)
theorem op_eqA (hu : X.A.units + 64 < cLine) : OpR X (compareOp .Eq) (fun x y H Q => rEq x y H Q ∨ rEqD X.K x y H Q) := op_eq.or (op_eqD hu)
theorem op_neA (hu : X.A.units + 64 < cLine) : OpR X (compareOp .NotEq) (fun x y H Q => rNe x y H Q ∨ rNeD X.K x y H Q) := op_ne.or (op_neD hu)
theorem eqD_some {x y : D} {M : Sto} {b : Bool} (h : eqD x y M = some b) : (∃ v w, toV x = some v ∧ toV y = some w ∧ scal v w = true ∧ b = decide (v = w)) ∨ (∃ p q, pyM x M = some p ∧ pyM y M = some q ∧ SeqAt.shaped p = true ∧ SeqAt.shaped q = true ∧ b = PyData.eqv p q) := by
  unfold eqD at h
  split at h
  · rename_i v w hv hw
    split at h
    · rename_i hs
      cases h
      exact .inl ⟨v, w, hv, hw, hs, rfl⟩
    · cases h
  · split at h
    · rename_i p q hp hq
      split at h
      · rename_i hs
        rw [Bool.and_eq_true] at hs
        cases h
        exact .inr ⟨p, q, hp, hq, hs.1, hs.2, rfl⟩
      · cases h
    · cases h
theorem ops_eq : OpS G (fun x y H Q => rEq x y H Q ∨ rEqD G.K x y H Q) (gEq false) := fun H ρ M x y dx dy d M' Q S rx ry e z => by
  unfold gEq at e
  cases hb : eqD dx dy M with
  | none => rw [hb] at e; cases e
  | some b =>
    rw [hb] at e; cases e
    have hq : Q (.bl b) H := z ρ _ H .refl S (.bl _)
    rcases eqD_some hb with ⟨v, w, h1, h2, h3, rfl⟩ | ⟨p, q, h1, h2, h3, h4, rfl⟩
    · rw [toV_ok rx h1, toV_ok ry h2]
      exact .inl ⟨h3, hq⟩
    · exact .inr ⟨p, q, pyM_ok S rx h1, pyM_ok S ry h2, h3, h4, hq⟩
theorem ops_ne : OpS G (fun x y H Q => rNe x y H Q ∨ rNeD G.K x y H Q) (gEq true) := fun H ρ M x y dx dy d M' Q S rx ry e z => by
  unfold gEq at e
  cases hb : eqD dx dy M with
  | none => rw [hb] at e; cases e
  | some b =>
    rw [hb] at e; cases e
    have hq : Q (.bl (!b)) H := z ρ _ H .refl S (.bl _)
    rcases eqD_some hb with ⟨v, w, h1, h2, h3, rfl⟩ | ⟨p, q, h1, h2, h3, h4, rfl⟩
    · rw [toV_ok rx h1, toV_ok ry h2]
      exact .inl ⟨h3, hq⟩
    · exact .inr ⟨p, q, pyM_ok S rx h1, pyM_ok S ry h2, h3, h4, hq⟩
def isNon : D → Bool
  | .non => true
  | _ => false
theorem isNon_ok {H : Hp} {ρ : Rho} {d : D} {v : V} (r : RV G H ρ d v) : decide (v = .non) = isNon d := by
  cases r <;> simp [isNon]
def gIs (n : Bool) : G2 := fun x y M => match y with
  | .non => some (.bl (if n then !isNon x else isNon x), M)
  | _ => none
theorem ops_is : OpS G (fun x y H Q => y = .non ∧ Q (.bl (decide (x = .non))) H) (gIs false) := fun H ρ M x y dx dy d M' Q S rx ry e z => by
  cases ry with
  | non => cases e; exact ⟨rfl, by rw [isNon_ok rx]; exact z ρ _ H .refl S (.bl _)⟩
  | _ => cases e
theorem ops_isnot : OpS G (fun x y H Q => y = .non ∧ Q (.bl (!decide (x = .non))) H) (gIs true) := fun H ρ M x y dx dy d M' Q S rx ry e z => by
  cases ry with
  | non => cases e; exact ⟨rfl, by rw [isNon_ok rx]; exact z ρ _ H .refl S (.bl _)⟩
  | _ => cases e
/-! ### items and slices -/
def gIx : G2 := fun x y M => match y with
  | .int i => match x with
    | .tup l => (atI l i).map (·, M)
    | x => match asL x M with
      | some l => (atI l i).map (·, M)
      | none => none
  | _ => none
theorem RVs.atI {H : Hp} {ρ : Rho} {ds : List D} {vs : List V} {i : Int} {d : D} (r : RVs G H ρ ds vs) (h : L2.atI ds i = some d) : ∃ v, L2.atI vs i = some v ∧ RV G H ρ d v := by
  unfold L2.atI at h ⊢
  rw [r.length]
  cases e : ixN ds.length i with
  | none => rw [e] at h; cases h
  | some j =>
    rw [e] at h
    exact r.get h
theorem ops_ix : OpS G (rIx G.K) gIx := fun H ρ M x y dx dy d M' Q S rx ry e z => by
  cases ry with
  | int i =>
    unfold gIx at e
    simp only at e
    split at e
    · rename_i l
      cases rx with
      | tup hs rs =>
        cases e2 : L2.atI l i with
        | none => rw [e2] at e; cases e
        | some d0 =>
          rw [e2] at e; cases e
          obtain ⟨v, hv, rv⟩ := rs.atI e2
          exact .inr (.inl ⟨_, _, _, v, rfl, rfl, hs, hv, z ρ _ H .refl S rv⟩)
    · split at e
      · rename_i l hl
        obtain ⟨a, vs, rfl, ha, rs⟩ := asL_ok S rx hl
        cases e2 : L2.atI l i with
        | none => rw [e2] at e; cases e
        | some d0 =>
          rw [e2] at e; cases e
          obtain ⟨v, hv, rv⟩ := rs.atI e2
          exact .inl ⟨_, _, _, v, rfl, rfl, SqL.of ha, hv, z ρ _ H .refl S rv⟩
      · cases e
  | _ => cases e
def cutD {α : Type} (xs : List α) (lo hi : Option Int) : List α := (xs.drop (HT.sIx xs.length 0 lo)).take (HT.sIx xs.length xs.length hi - HT.sIx xs.length 0 lo)
theorem RVs.cutD {H : Hp} {ρ : Rho} {ds : List D} {vs : List V} (r : RVs G H ρ ds vs) (lo hi : Option Int) : RVs G H ρ (Ip.cutD ds lo hi) (cutV vs lo hi) := by
  unfold Ip.cutD cutV
  rw [r.length]
  exact (r.drop _).take _
def gSl (x : D) (lo hi : Option Int) (M : Sto) : Option (D × Sto) := match x with
  | .tup l => some (.tup (cutD l lo hi), M)
  | .scr ns => some (.lst (cutD (ns.map D.int) lo hi), M)
  | x => match asL x M with
    | some l => some (.lst (cutD l lo hi), M)
    | none => none
abbrev rSlAll (K : PySem.W.Frag) : V → Option Int → Option Int → Hp → VK → Prop := fun x lo hi H Q => rSlL K x lo hi H Q ∨ rSlA K x lo hi H Q
theorem sl_all : SlR X (rSlAll X.K) := sl_list.or sl_tupA
def DO := En → Sto → Out (Option Int)
def dO (G : Gx) (W : WX) (f : DO) : TO := fun σ H Q => ∃ ρ env M, RE G H ρ env σ ∧ RS G H ρ M ∧ (f env M).post (fun o M' => ∀ ρ' H', Ext G H ρ H' ρ' → RS G H' ρ' M' → Q o H') (eP G W H ρ)
def SO (X : Cx) (cl : Str → Option Addr) (W : WX) (e : Option Expr) (f : DO) : Prop := PO X e (dO (gx X cl) W f)
def dNoPart : DO := fun _ M => .ok none M
def dPart (fe : DE) : DO := fun env M => (fe env M).bind fun x M1 => match x with
  | .int i => .ok (some i) M1
  | _ => .bad
theorem so_none : SO X cl W none dNoPart := POweak po_none fun σ H Q ⟨ρ, env, M, hE, hS, h⟩ => h ρ H .refl hS
theorem so_some {e : Expr} {fe : DE} (he : SE X cl W e fe) : SO X cl W (some e) (dPart fe) := POweak (po_some he) fun σ H Q ⟨ρ, env, M, hE, hS, h⟩ => by
  refine ⟨ρ, env, M, hE, hS, (post_bind h).imp (fun x M1 hx ρ1 v H1 e1 S1 r1 => ?_) (fun _ _ _ z => z)⟩
  cases r1 with
  | int i => exact ⟨i, rfl, hx ρ1 H1 e1 S1⟩
  | _ => exact hx.elim
def dSl (fe : DE) (fl fh : DO) : DE := fun env M => (fe env M).bind fun x M1 => (fl env M1).bind fun lo M2 => (fh env M2).bind fun hi M3 => liftM (gSl x lo hi M3)
theorem cut_whole {α : Type} {l : List α} {lo hi : Option Int} (h : HT.sIx l.length 0 lo = 0 ∧ HT.sIx l.length l.length hi = l.length) : cutD l lo hi = l := by
  unfold cutD
  rw [h.1, h.2]
  simp
theorem gSl_ok {H : Hp} {ρ : Rho} {M M' : Sto} {x d : D} {v : V} {lo hi : Option Int} {Q : VK} (S : RS G H ρ M) (r : RV G H ρ x v) (e : gSl x lo hi M = some (d, M')) (h : oP G H ρ Q d M') : rSlAll G.K v lo hi H Q := by
  unfold gSl at e
  split at e
  · cases r with
    | tup hs rs =>
      cases e
      refine .inr ⟨_, _, rfl, hs, fun w => ?_, fun _ p hp => h.new S hp (RV.newT S hp (rs.cutD lo hi))⟩
      rw [rs.length] at w
      rw [cut_whole w] at h
      exact h ρ _ H .refl S (.tup hs rs)
  · cases r with
    | scr hs =>
      rename_i ns a
      cases e
      have hl : SqL G.K H a (ns.map V.int) := by
        rcases hs with ⟨h, _⟩ | h
        · exact .inl h
        · exact h H
      exact .inl ⟨_, _, rfl, hl, fun p hp => h.new S hp (RV.newL S hp ((RVs.ints ns).cutD lo hi))⟩
  · split at e
    · rename_i l hl
      cases e
      obtain ⟨a, vs, rfl, ha, rs⟩ := asL_ok S r hl
      exact .inl ⟨_, _, rfl, SqL.of ha, fun p hp => h.new S hp (RV.newL S hp (rs.cutD lo hi))⟩
    · cases e
theorem se_slice {e : Expr} {lo hi : Option Expr} {fe : DE} {fl fh : DO} {p2 pos : Pos} (he : SE X cl W e fe) (hl : SO X cl W lo fl) (hh : SO X cl W hi fh) : SE X cl W (.Subscript e (.Slice lo hi none p2) pos) (dSl fe fl fh) :=
  PEweak (pe_slice sl_all he hl hh) fun σ H Q ⟨ρ, env, M, hE, hS, h⟩ => by
    refine ⟨ρ, env, M, hE, hS, (post_bind h).imp (fun x M1 hx ρ1 v H1 e1 S1 r1 => ?_) (fun _ _ _ z => z)⟩
    refine ⟨ρ1, env, M1, hE.mono e1, S1, (post_bind hx).imp (fun o M2 hy ρ2 H2 e2 S2 => ?_) (fun _ _ _ z => eP.sh e1 z)⟩
    refine ⟨ρ2, env, M2, hE.mono (e1.trans e2), S2, (post_bind hy).imp (fun o2 M3 hz ρ3 H3 e3 S3 => ?_) (fun _ _ _ z => eP.sh (e1.trans e2) z)⟩
    obtain ⟨d, M', eq, q⟩ := lift_some hz
    exact gSl_ok (G := gx X cl) S3 (r1.mono (e2.trans e3)) eq (oP.sh (e1.trans (e2.trans e3)) q)
end
end Ip
end
section
set_option Elab.async false
set_option linter.all false
set_option maxRecDepth 100000
set_option maxHeartbeats 4000000
set_option autoImplicit false
namespace Ip
open PySem PyProof.Rows L2
section
variable {X : Cx} {cl : Str → Option Addr} {W : WX} {G : Gx}
abbrev GM := D → List D → Sto → Option (D × Sto)
def MtS (G : Gx) (r : V → List V → Hp → VK → Prop) (g : GM) : Prop := ∀ (H : Hp) (ρ : Rho) (M : Sto) (x : V) (dx : D) (vs : List V) (ds : List D) (d : D) (M' : Sto) (Q : VK), RS G H ρ M → RV G H ρ dx x → RVs G H ρ ds vs → g dx ds M = some (d, M') → oP G H ρ Q d M' → r x vs H Q
def dLm (g : GM) (fo : DE) (fa : DA) : DE := fun env M => (fo env M).bind fun x M1 => match asL x M1 with
  | some _ => (fa env M1).bind fun as M2 => liftM (g x as M2)
  | none => .bad
theorem lm_ok {r : V → List V → Hp → VK → Prop} {g : GM} (hg : MtS G r g) {fo : DE} {fa : DA} {σ : L2.St} {H : Hp} {Q : VK} (h : dE G W (dLm g fo fa) σ H Q) : tBM G.K "list" r (dE G W fo) (dA G W fa) σ H Q := by
  obtain ⟨ρ, env, M, hE, hS, h⟩ := h
  refine ⟨ρ, env, M, hE, hS, (post_bind h).imp (fun x M1 hx ρ1 v H1 e1 S1 r1 => ?_) (fun _ _ _ z => z)⟩
  split at hx
  · rename_i l hl
    obtain ⟨a, vs, rfl, ha, rs⟩ := asL_ok S1 r1 hl
    refine ⟨.inl ⟨rfl, _, SqL.of ha⟩, ρ1, env, M1, hE.mono e1, S1, (post_bind hx).imp (fun as M2 hy ρ2 ws H2 e2 S2 r2 => ?_) (fun _ _ _ z => eP.sh e1 z)⟩
    obtain ⟨d, M', e, q⟩ := lift_some hy
    exact hg H2 ρ2 M2 _ x ws as d M' Q S2 (r1.mono e2) r2 e (oP.sh (e1.trans e2) q)
  · exact hx.elim
theorem se_lm {name : Str} {id : String} {r : V → List V → Hp → VK → Prop} {g : GM} {o e : Expr} {es : List Expr} {fo : DE} {fa : DA} {apos cpos : Pos} (slot : Slot "list" name id) (hty : typeOf (.builtin id) = pure (.type "method_descriptor")) (hm : MtR X id r) (hg : MtS (gx X cl) r g) (ho : SE X cl W o fo) (ha : SA X cl W (e :: es) fa)
    (hbase : attributeBase o name X.env (eval o X.env) = eval o X.env := by rfl)
    (hfew : ((backTo cpos (starEach (e :: es) X.env)).all (fun x => !x.1) && (backToKw cpos (keywordEach [] X.env)).all (fun x => x.1.isSome)
      && decide ((e :: es).length + ([] : List Keyword).length + (if ([] : List Keyword).isEmpty then 0 else 1) < 30)) = true := by rfl)
    (hline : (apos.endLine == cpos.line) = true := by rfl) (hs : starEach (e :: es) X.env = (false, eval e X.env) :: starEach es X.env := by rfl) (hplain : (backTo cpos (starEach es X.env)).any (·.1) = false := by rfl) :
    SE X cl W (.Call (.Attribute o name apos) (e :: es) [] cpos) (dLm g fo fa) :=
  PEweak (pe_bm PySem.F.plainAttrs_list slot hty hm ho ha hbase hfew hline hs hplain) fun σ H Q h => lm_ok (G := gx X cl) hg h
theorem se_lm0 {name : Str} {id : String} {r : V → List V → Hp → VK → Prop} {g : GM} {o : Expr} {fo : DE} {apos cpos : Pos} (slot : Slot "list" name id) (hty : typeOf (.builtin id) = pure (.type "method_descriptor")) (hm : MtR X id r) (hg : MtS (gx X cl) r g) (ho : SE X cl W o fo)
    (hbase : attributeBase o name X.env (eval o X.env) = eval o X.env := by rfl) (hline : (apos.endLine == cpos.line) = true := by rfl) :
    SE X cl W (.Call (.Attribute o name apos) [] [] cpos) (dLm g fo dNilA) :=
  PEweak (pe_bm0 PySem.F.plainAttrs_list slot hty hm ho hbase hline) fun σ H Q h => by
    obtain ⟨ρ, env, M, hE, hS, q⟩ := lm_ok (G := gx X cl) hg h
    refine ⟨ρ, env, M, hE, hS, q.imp (fun x M1 hx ρ1 v H1 e1 S1 r1 => ?_) (fun _ _ _ z => z)⟩
    obtain ⟨t, ρ2, env2, M2, E2, S2, z⟩ := hx ρ1 v H1 e1 S1 r1
    exact ⟨t, z ρ2 [] H1 .refl S2 .nil⟩
def setL (x : D) (M : Sto) (k : List D → Option (List D)) : Option Sto := match x with
  | .ref n => match M[n]? with
    | some (.lst l) => (k l).map fun l' => M.set n (.lst l')
    | _ => none
  | _ => none
theorem setL_ok {H : Hp} {ρ : Rho} {M M' : Sto} {x : D} {v : V} {k : List D → Option (List D)} (S : RS G H ρ M) (r : RV G H ρ x v) (h : setL x M k = some M') :
    ∃ a l l' vs, v = .ref a ∧ H a = some (.lst vs) ∧ RVs G H ρ l vs ∧ k l = some l' ∧ ∀ vs', RVs G H ρ l' vs' → Ext G H ρ (upd H a (.lst vs')) ρ ∧ RS G (upd H a (.lst vs')) ρ M' := by
  cases r with
  | ref hn =>
    rename_i n a
    have h' : (match M[n]? with
      | some (.lst l) => (k l).map fun l' => M.set n (.lst l')
      | _ => none) = some M' := h
    split at h'
    · rename_i l hm
      cases e : k l with
      | none => rw [e] at h'; cases h'
      | some l' =>
        rw [e] at h'; cases h'
        obtain ⟨b, hb, vs, e0, rs⟩ := S.at_ _ _ hm
        rw [hn] at hb; cases hb
        exact ⟨a, l, l', vs, rfl, e0, rs, e, fun vs' r' => ⟨Ext.write S hn, S.write hn ⟨vs', upd_same, r'.mono (Ext.write S hn)⟩⟩⟩
    · cases h'
  | _ => cases h
def gApp : GM := fun x as M => match as with
  | [y] => (setL x M fun l => if l.length < 16777216 then some (l ++ [y]) else none).map (D.non, ·)
  | _ => none
theorem mts_app : MtS G rAppend gApp := fun H ρ M x dx vs ds d M' Q S rx rs e h => by
  unfold gApp at e
  split at e
  · rename_i y
    cases rs with
    | cons q1 q2 =>
      cases q2
      cases e2 : setL dx M fun l => if l.length < 16777216 then some (l ++ [y]) else none with
      | none => rw [e2] at e; cases e
      | some M2 =>
        rw [e2] at e; cases e
        obtain ⟨a, l, l', ws, rfl, ha, rl, ek, up⟩ := setL_ok S rx e2
        split at ek
        · rename_i hl
          cases ek
          obtain ⟨x1, s1⟩ := up _ (rl.append (.one q1))
          exact ⟨a, ws, _, rfl, rfl, ha, by rw [rl.length, sizeLine_eq]; exact hl, h ρ _ _ x1 s1 .non⟩
        · cases ek
  · cases e
def gClear : GM := fun x as M => match as with
  | [] => (setL x M fun _ => some []).map (D.non, ·)
  | _ => none
theorem mts_clear : MtS G rClear gClear := fun H ρ M x dx vs ds d M' Q S rx rs e h => by
  unfold gClear at e
  split at e
  · cases rs
    cases e2 : setL dx M fun _ => some [] with
    | none => rw [e2] at e; cases e
    | some M2 =>
      rw [e2] at e; cases e
      obtain ⟨a, l, l', ws, rfl, ha, rl, ek, up⟩ := setL_ok S rx e2
      cases ek
      obtain ⟨x1, s1⟩ := up [] .nil
      exact ⟨a, ws, rfl, rfl, ha, h ρ _ _ x1 s1 .non⟩
  · cases e
theorem se_append {o e : Expr} {fo fe : DE} {apos cpos : Pos} (ho : SE X cl W o fo) (ha : SE X cl W e fe) (hst : starEach [e] X.env = (false, eval e X.env) :: starEach [] X.env := by rfl)
    (hbase : attributeBase o "append" X.env (eval o X.env) = eval o X.env := by rfl)
    (hfew : ((backTo cpos (starEach [e] X.env)).all (fun x => !x.1) && (backToKw cpos (keywordEach [] X.env)).all (fun x => x.1.isSome)
      && decide ([e].length + ([] : List Keyword).length + (if ([] : List Keyword).isEmpty then 0 else 1) < 30)) = true := by rfl)
    (hline : (apos.endLine == cpos.line) = true := by rfl) (hplain : (backTo cpos (starEach [] X.env)).any (·.1) = false := by rfl) : SE X cl W (.Call (.Attribute o "append" apos) [e] [] cpos) (dLm gApp fo (dConsA fe dNilA)) :=
  se_lm PySem.F.slot_list_append PySem.F.type_list_append mt_append mts_app ho (sa_cons ha sa_nil hst) hbase hfew hline hst hplain
theorem se_clear {o : Expr} {fo : DE} {apos cpos : Pos} (ho : SE X cl W o fo) (hbase : attributeBase o "clear" X.env (eval o X.env) = eval o X.env := by rfl) (hline : (apos.endLine == cpos.line) = true := by rfl) : SE X cl W (.Call (.Attribute o "clear" apos) [] [] cpos) (dLm gClear fo dNilA) :=
  se_lm0 PySem.F.slot_list_clear PySem.F.type_list_clear mt_clear mts_clear ho hbase hline
/-- o[i] = e over a cell -/
def dSetIx (fo fi fe : DE) : DS := fun env M => (fe env M).bind fun y M1 => (fo env M1).bind fun x M2 => (fi env M2).bind fun i M3 => match i with
  | .int k => match setL x M3 fun l => (ixN l.length k).map fun j => l.set j y with
    | some M4 => .ok (.nx env) M4
    | none => .bad
  | _ => .bad
theorem ss_setIx {o i e : Expr} {fo fi fe : DE} {pos pos' : Pos} (ho : SE X cl W o fo) (hi : SE X cl W i fi) (he : SE X cl W e fe)
    (hg : PG X (.Subscript o i pos') (gSub (dE (gx X cl) W fo) (dE (gx X cl) W fi) rSetL))
    (hs : swapsWithSole [.Subscript o i pos'] e pos.line X.env = pure false := by rfl) (hw : swappedStores [.Subscript o i pos'] e X.env = pure none := by rfl)
    (h1 : (assignEach [.Subscript o i pos'] X.env).map (·.2) = [assign (.Subscript o i pos') X.env] := by rfl) : SS X cl W (.Assign [.Subscript o i pos'] e pos) (dSetIx fo fi fe) :=
  PSweak (ps_asg he hg hs hw h1) fun D σ H ⟨ρ, env, M, hE, hS, h⟩ => by
    refine ⟨ρ, env, M, hE, hS, (post_bind h).imp (fun y M1 hy ρ1 v H1 e1 S1 r1 => ?_) (fun _ _ _ z => z)⟩
    refine ⟨ρ1, env, M1, hE.mono e1, S1, (post_bind hy).imp (fun x M2 hx ρ2 w H2 e2 S2 r2 => ?_) (fun _ _ _ z => eP.sh e1 z)⟩
    refine ⟨ρ2, env, M2, hE.mono (e1.trans e2), S2, (post_bind hx).imp (fun ii M3 hz ρ3 u H3 e3 S3 r3 => ?_) (fun _ _ _ z => eP.sh (e1.trans e2) z)⟩
    cases r3 with
    | int k =>
      have hz' : (match setL x M3 fun l => (ixN l.length k).map fun j => l.set j y with
        | some M4 => Out.ok (Fl.nx env) M4
        | none => .bad).post (sP (gx X cl) H ρ D) (eP (gx X cl) W H ρ) := hz
      split at hz'
      · rename_i M4 hm4
        obtain ⟨a, l, l', ws, rfl, ha, rl, ek, up⟩ := setL_ok S3 (r2.mono e3) hm4
        cases ej : ixN l.length k with
        | none => rw [ej] at ek; cases ek
        | some j =>
          rw [ej] at ek; cases ek
          obtain ⟨x1, s1⟩ := up _ (rl.set (r1.mono (e2.trans e3)) j)
          exact ⟨a, ws, k, j, rfl, rfl, ha, by rw [rl.length]; exact ej, hz' ρ3 σ _ (e1.trans (e2.trans (e3.trans x1))) s1 (hE.mono (e1.trans (e2.trans (e3.trans x1))))⟩
      · exact hz'.elim
    | _ => exact hz.elim
/-! ### built-in calls -/
abbrev GC := List D → Sto → Option (D × Sto)
def gLen : GC := fun as M => match as with
  | [.tup l] => some (.int (l.length : Nat), M)
  | [x] => match asL x M with
    | some l => some (.int (l.length : Nat), M)
    | none => none
  | _ => none
theorem cs_len : CallS G (fun xs H Q => ∃ p ys, xs = [.ref p] ∧ (SqL G.K H p ys ∨ SqT G.K H p ys) ∧ Q (.int ys.length) H) gLen := fun H ρ M xs ds d M' Q S rs e h => by
  unfold gLen at e
  split at e
  · rename_i l
    cases e
    cases rs with
    | cons q1 q2 =>
      cases q2
      cases q1 with
      | tup hs rs => exact ⟨_, _, rfl, .inr hs, by rw [rs.length]; exact h ρ _ H .refl S (.int _)⟩
  · split at e
    · rename_i x _ l hl
      cases e
      cases rs with
      | cons q1 q2 =>
        cases q2
        obtain ⟨a, vs, rfl, ha, rl⟩ := asL_ok S q1 hl
        exact ⟨_, _, rfl, .inl (SqL.of ha), by rw [rl.length]; exact h ρ _ H .refl S (.int _)⟩
    · cases e
  · cases e
def seqOf (x : D) (M : Sto) : Option (List D) := match x with
  | .tup l => some l
  | x => asL x M
theorem seqOf_ok {H : Hp} {ρ : Rho} {M : Sto} {x : D} {v : V} {l : List D} (S : RS G H ρ M) (r : RV G H ρ x v) (h : seqOf x M = some l) : ∃ a vs, v = .ref a ∧ (SqL G.K H a vs ∨ SqT G.K H a vs) ∧ RVs G H ρ l vs := by
  unfold seqOf at h
  split at h
  · cases h
    cases r with
    | tup hs rs => exact ⟨_, _, rfl, .inr hs, rs⟩
  · obtain ⟨a, vs, e, ha, rl⟩ := asL_ok S r h
    exact ⟨a, vs, e, .inl (SqL.of ha), rl⟩
def gList : GC := fun as M => match as with
  | [x] => (seqOf x M).map fun l => (.lst l, M)
  | _ => none
def gListC : GC := fun as M => match as with
  | [x] => (seqOf x M).map fun l => (.ref M.length, M ++ [.lst l])
  | _ => none
theorem cs_list : CallS G (fun xs H Q => ∃ p ys, xs = [.ref p] ∧ (SqL G.K H p ys ∨ SqT G.K H p ys) ∧ ∀ l, H l = none → Q (.ref l) (upd H l (.lst ys))) gList := fun H ρ M xs ds d M' Q S rs e h => by
  unfold gList at e
  split at e
  · rename_i x
    cases e2 : seqOf x M with
    | none => rw [e2] at e; cases e
    | some l =>
      rw [e2] at e; cases e
      cases rs with
      | cons q1 q2 =>
        cases q2
        obtain ⟨a, vs, rfl, ha, rl⟩ := seqOf_ok S q1 e2
        exact ⟨_, _, rfl, ha, fun p hp => h.new S hp (RV.newL S hp rl)⟩
  · cases e
theorem cs_listC : CallS G (fun xs H Q => ∃ p ys, xs = [.ref p] ∧ (SqL G.K H p ys ∨ SqT G.K H p ys) ∧ ∀ l, H l = none → Q (.ref l) (upd H l (.lst ys))) gListC := fun H ρ M xs ds d M' Q S rs e h => by
  unfold gListC at e
  split at e
  · rename_i x
    cases e2 : seqOf x M with
    | none => rw [e2] at e; cases e
    | some l =>
      rw [e2] at e; cases e
      cases rs with
      | cons q1 q2 =>
        cases q2
        obtain ⟨a, vs, rfl, ha, rl⟩ := seqOf_ok S q1 e2
        exact ⟨_, _, rfl, ha, fun p hp => h _ _ _ (Ext.cell S hp) (S.newLst hp rl) (.ref S.at_new)⟩
  · cases e
def gTuple : GC := fun as M => match as with
  | [.tup l] => some (.tup l, M)
  | [x] => (asL x M).map fun l => (.tup l, M)
  | _ => none
theorem cs_tuple : CallS G (fun xs H Q => ∃ p ys, xs = [.ref p] ∧ ((SqL G.K H p ys ∧ ∀ l, H l = none → Q (.ref l) (upd H l (.tup ys))) ∨ (SqT G.K H p ys ∧ Q (.ref p) H))) gTuple := fun H ρ M xs ds d M' Q S rs e h => by
  unfold gTuple at e
  split at e
  · cases e
    cases rs with
    | cons q1 q2 =>
      cases q2
      cases q1 with
      | tup hs rs => exact ⟨_, _, rfl, .inr ⟨hs, h ρ _ H .refl S (.tup hs rs)⟩⟩
  · rename_i x _
    cases e2 : asL x M with
    | none => rw [e2] at e; cases e
    | some l =>
      rw [e2] at e; cases e
      cases rs with
      | cons q1 q2 =>
        cases q2
        obtain ⟨a, vs, rfl, ha, rl⟩ := asL_ok S q1 e2
        exact ⟨_, _, rfl, .inl ⟨SqL.of ha, fun p hp => h.new S hp (RV.newT S hp rl)⟩⟩
  · cases e
def bls : List D → Option (List Bool)
  | [] => some []
  | .bl b :: ds => (bls ds).map (b :: ·)
  | _ :: _ => none
theorem bls_ok {H : Hp} {ρ : Rho} : ∀ {ds : List D} {vs : List V} {bs : List Bool}, RVs G H ρ ds vs → bls ds = some bs → vs = bs.map V.bl
  | _, _, _, .nil, h => by cases h; rfl
  | _, _, _, .cons (d := d) (ds := ds) r rs, h => by
    cases r with
    | bl b =>
      unfold bls at h
      cases e : bls ds with
      | none => rw [e] at h; cases h
      | some bs => rw [e] at h; cases h; rw [bls_ok rs e]; rfl
    | _ => cases h
def gAll : GC := fun as M => match as with
  | [.lst l] => (bls l).map fun bs => (.bl (bs.all id), M)
  | _ => none
def gAny : GC := fun as M => match as with
  | [.lst l] => (bls l).map fun bs => (.bl (bs.any id), M)
  | _ => none
theorem cs_all : CallS G (rAll G.K) gAll := fun H ρ M xs ds d M' Q S rs e h => by
  unfold gAll at e
  split at e
  · rename_i l
    cases e2 : bls l with
    | none => rw [e2] at e; cases e
    | some bs =>
      rw [e2] at e; cases e
      cases rs with
      | cons q1 q2 =>
        cases q2
        cases q1 with
        | lst hs hn rl => exact ⟨_, bs, rfl, by rw [← bls_ok rl e2]; exact SqL.of hs, h ρ _ H .refl S (.bl _)⟩
  · cases e
theorem cs_any : CallS G (rAny G.K) gAny := fun H ρ M xs ds d M' Q S rs e h => by
  unfold gAny at e
  split at e
  · rename_i l
    cases e2 : bls l with
    | none => rw [e2] at e; cases e
    | some bs =>
      rw [e2] at e; cases e
      cases rs with
      | cons q1 q2 =>
        cases q2
        cases q1 with
        | lst hs hn rl => exact ⟨_, bs, rfl, by rw [← bls_ok rl e2]; exact SqL.of hs, h ρ _ H .refl S (.bl _)⟩
  · cases e
def gMax2 : GC := fun as M => match as with
  | [.int i, .int j] => some (.int (if j > i then j else i), M)
  | _ => none
def gMin2 : GC := fun as M => match as with
  | [.int i, .int j] => some (.int (if j < i then j else i), M)
  | _ => none
theorem cs_max2 : CallS G (fun xs H Q => ∃ i j, xs = [.int i, .int j] ∧ Q (.int (if j > i then j else i)) H) gMax2 := fun H ρ M xs ds d M' Q S rs e h => by
  unfold gMax2 at e
  split at e
  · cases e
    cases rs with
    | cons q1 q2 => cases q1; cases q2 with
      | cons q2 q3 => cases q2; cases q3; exact ⟨_, _, rfl, h ρ _ H .refl S (.int _)⟩
  · cases e
theorem cs_min2 : CallS G (fun xs H Q => ∃ i j, xs = [.int i, .int j] ∧ Q (.int (if j < i then j else i)) H) gMin2 := fun H ρ M xs ds d M' Q S rs e h => by
  unfold gMin2 at e
  split at e
  · cases e
    cases rs with
    | cons q1 q2 => cases q1; cases q2 with
      | cons q2 q3 => cases q2; cases q3; exact ⟨_, _, rfl, h ρ _ H .refl S (.int _)⟩
  · cases e
def gMax3 : GC := fun as M => match as with
  | [.int i, .int j, .int k] => some (.int (max (max i j) k), M)
  | _ => none
theorem nuMax_int (i j : Int) : nuMax2 (.int i) (.int j) = some (.int (max i j)) := by
  show Option.map _ (some (decide (i < j))) = _
  by_cases h : i < j
  · rw [decide_eq_true h]
    show some (V.int j) = _
    rw [Int.max_eq_right (by omega)]
  · rw [decide_eq_false h]
    show some (V.int i) = _
    rw [Int.max_eq_left (by omega)]
theorem cs_max3 : CallS G (rNuC3 nuMax3) gMax3 := fun H ρ M xs ds d M' Q S rs e h => by
  unfold gMax3 at e
  split at e
  · rename_i i j k
    cases e
    cases rs with
    | cons q1 q2 => cases q1; cases q2 with
      | cons q2 q3 => cases q2; cases q3 with
        | cons q3 q4 =>
          cases q3; cases q4
          refine ⟨_, _, _, _, rfl, ?_, h ρ _ H .refl S (.int _)⟩
          show (nuMax2 (.int i) (.int j)).bind _ = _
          rw [nuMax_int]
          exact nuMax_int _ _
  · cases e
def gStrI : GC := fun as M => match as with
  | [.int i] => if i.natAbs.log2 < 1920 then some (.str (toString i), M) else none
  | _ => none
theorem cs_str : CallS G (fun xs H Q => ∃ i : Int, xs = [.int i] ∧ i.natAbs.log2 < 1920 ∧ Q (.str (toString i)) H) gStrI := fun H ρ M xs ds d M' Q S rs e h => by
  unfold gStrI at e
  split at e
  · split at e
    · rename_i hl
      cases e
      cases rs with
      | cons q1 q2 => cases q1; cases q2; exact ⟨_, rfl, hl, h ρ _ H .refl S (.str _)⟩
    · cases e
  · cases e
/-! ### isinstance -/
def tyD (x : D) (M : Sto) : Option String := match x with
  | .non => some "NoneType"
  | .bl _ => some "bool"
  | .int _ => some "int"
  | .str _ => some "str"
  | .tup _ => some "tuple"
  | .lst _ => some "list"
  | .ref n => match M[n]? with
    | some (.lst _) => some "list"
    | _ => none
  | _ => none
theorem tyD_ok {H : Hp} {ρ : Rho} {M : Sto} {x : D} {v : V} {t : String} (S : RS G H ρ M) (r : RV G H ρ x v) (h : tyD x M = some t) : TyX G.K H v (.type t) := by
  cases r with
  | non => cases h; exact .base .non
  | bl b => cases h; exact .base (.bl b)
  | int i => cases h; exact .base (.int i)
  | str s => cases h; exact .base (.str s)
  | ty s => cases h
  | scr s => cases h
  | obj => cases h
  | cls => cases h
  | tup hs rs =>
    cases h
    rcases hs with (h | ⟨o, h⟩) | ⟨o, its, n, k, c, _⟩
    · exact .base (.tup h)
    · exact .fTuple h
    · exact .kTuple k c
  | lst hs hn rs => cases h; exact .base (.lst hs)
  | ref hn =>
    rename_i n a
    have h' : (match M[n]? with
      | some (.lst _) => some "list"
      | _ => none) = some t := h
    split at h'
    · rename_i l hm
      cases h'
      obtain ⟨b, hb, vs, e0, rs⟩ := S.at_ _ _ hm
      rw [hn] at hb; cases hb
      exact .base (.lst e0)
    · cases h'
/-- t is a T (the six plain types) -/
def isA (t T : String) : Option Bool := kitB t T
def gIsi (T : String) : D → Sto → Option (D × Sto) := fun x M => match tyD x M with
  | some t => (isA t T).map fun b => (.bl b, M)
  | none => none
def dIsi (T : String) (fe : DE) : DE := dUn (gIsi T) fe
theorem boot_ty_rel {n : String} : RelV (.ty n) (.type n) := rfl
theorem se_isi {T : String} {x : Str} {e : Expr} {fe : DE} {p p2 pos : Pos} (hg : Gl X "isinstance") (hm : X.mg "isinstance" = none) (hgT : Gl X x) (hmT : X.mg x = none) (hvT : bootBuiltins x = some (.type T)) (he : SE X cl W e fe)
    (hnT : x ≠ "__name__" := by decide) (hdT : (x == ("__debug__" : Str)) = false := by decide)
    (h1 : starEach [e, .Name x p2] X.env = (false, eval e X.env) :: starEach [.Name x p2] X.env := by rfl) (h2 : starEach [.Name x p2] X.env = (false, eval (.Name x p2) X.env) :: starEach [] X.env := by rfl) (hpl : (backTo pos (starEach [.Name x p2] X.env)).any (·.1) = false := by rfl) :
    SE X cl W (.Call (.Name "isinstance" p) [e, .Name x p2] [] pos) (dIsi T fe) :=
  PEweak (pe_callB call_isi hg hm (by decide +kernel) (pa_cons he (pa_cons (pe_bltn hgT hmT hvT boot_ty_rel hnT hdT) pa_nil h2) h1) (by decide) (by decide) h1 hpl) fun σ H Q ⟨ρ, env, M, hE, hS, h⟩ => by
    refine ⟨ρ, env, M, hE, hS, (post_bind h).imp (fun y M1 hx ρ1 v H1 e1 S1 r1 => ?_) (fun _ _ _ z => z)⟩
    obtain ⟨d, M', eq, q⟩ := lift_some hx
    unfold gIsi at eq
    split at eq
    · rename_i t ht
      cases hb : isA t T with
      | none => rw [hb] at eq; cases eq
      | some b =>
        rw [hb] at eq; cases eq
        exact ⟨v, .ty T, .type t, .type T, b, rfl, .ty T, tyD_ok (G := gx X cl) S1 r1 ht, kit_ty hb, q ρ1 _ H1 e1 S1 (.bl _)⟩
    · cases eq
def gIsi2 (T U : String) : D → Sto → Option (D × Sto) := fun x M => match tyD x M with
  | some t => match isA t T, isA t U with
    | some b, some c => some (.bl (b || c), M)
    | _, _ => none
  | none => none
theorem se_isi2 {T U : String} {x y : Str} {e : Expr} {fe : DE} {kk : Nat} {p p2 p3 p4 pos : Pos} (hg : Gl X "isinstance") (hm : X.mg "isinstance" = none) (hgT : Gl X x) (hmT : X.mg x = none) (hvT : bootBuiltins x = some (.type T)) (hgU : Gl X y) (hmU : X.mg y = none) (hvU : bootBuiltins y = some (.type U)) (he : SE X cl W e fe)
    (hnT : x ≠ "__name__" := by decide) (hdT : (x == ("__debug__" : Str)) = false := by decide) (hnU : y ≠ "__name__" := by decide) (hdU : (y == ("__debug__" : Str)) = false := by decide)
    (h1 : starEach [e, .Tuple [.Name x p2, .Name y p3] kk p4] X.env = (false, eval e X.env) :: starEach [.Tuple [.Name x p2, .Name y p3] kk p4] X.env := by rfl)
    (h2 : starEach [.Tuple [.Name x p2, .Name y p3] kk p4] X.env = (false, eval (.Tuple [.Name x p2, .Name y p3] kk p4) X.env) :: starEach [] X.env := by rfl) (hpl : (backTo pos (starEach [.Tuple [.Name x p2, .Name y p3] kk p4] X.env)).any (·.1) = false := by rfl)
    (h3 : starEach [.Name x p2, .Name y p3] X.env = (false, eval (.Name x p2) X.env) :: starEach [.Name y p3] X.env := by rfl) (h4 : starEach [.Name y p3] X.env = (false, eval (.Name y p3) X.env) :: starEach [] X.env := by rfl) :
    SE X cl W (.Call (.Name "isinstance" p) [e, .Tuple [.Name x p2, .Name y p3] kk p4] [] pos) (dUn (gIsi2 T U) fe) :=
  PEweak (pe_callB call_isiT hg hm (by decide +kernel) (pa_cons he (pa_cons (pe_tup (pa_cons (pe_bltn hgT hmT hvT boot_ty_rel hnT hdT) (pa_cons (pe_bltn hgU hmU hvU boot_ty_rel hnU hdU) pa_nil h4) h3)) pa_nil h2) h1) (by decide) (by decide) h1 hpl) fun σ H Q ⟨ρ, env, M, hE, hS, h⟩ => by
    refine ⟨ρ, env, M, hE, hS, (post_bind h).imp (fun y M1 hx ρ1 v H1 e1 S1 r1 => ?_) (fun _ _ _ z => z)⟩
    obtain ⟨d, M', eq, q⟩ := lift_some hx
    unfold gIsi2 at eq
    split at eq
    · rename_i t ht
      split at eq
      · rename_i b c hb hc
        cases eq
        refine ⟨by show 2 ≤ sizeLine; decide, fun tp htp => ⟨v, tp, [.ty T, .ty U], .type t, [.type T, .type U], b || c, rfl, upd_same, .cons (.ty T) (.cons (.ty U) .nil), tyD_ok (G := gx X cl) (S1.new htp) (r1.mono (Ext.new S1 htp)) ht, ?_, q ρ1 _ _ (e1.trans (Ext.new S1 htp)) (S1.new htp) (.bl _)⟩⟩
        refine kitAny_cons (kit_ty hb) (fun z => ?_) (fun z => by rw [z]; rfl)
        refine kitAny_cons (kit_ty hc) (fun z2 => ?_) (fun z2 => by rw [z2]; simp)
        rw [z, z2]
        exact kitAny_nil
      · cases eq
    · cases eq
end
end Ip
end
section
set_option Elab.async false
set_option linter.all false
set_option maxRecDepth 100000
set_option maxHeartbeats 4000000
set_option autoImplicit false
namespace Ip
open PySem PyProof.Rows L2
/-! ### short forms -/
section
variable {X : Cx} {cl : Str → Option Addr} {W : WX} {a b c e o : Expr} {es : List Expr} {fa fb fc fe fo : DE} {pos p p2 : Pos}
theorem se_v (i : Nat) {x : Str} (hN : X.N[i]? = some x := by rfl) (hv : Vis X.env.scope x := by first | exact Or.inl rfl | exact Or.inr (Or.inl rfl) | exact Or.inr (Or.inr rfl)) (hd : (x == ("__debug__" : Str)) = false := by decide)
    (hcd : (x == ("__classdict__" : Str)) = false := by decide) : SE X cl W (.Name x pos) (dVar i) := se_var hN hv hd hcd
theorem se_at (ha : SE X cl W a fa) (hb : SE X cl W b fb) (hs : PlainIx b := by exact fun _ _ => rfl) : SE X cl W (.Subscript a b pos) (dBin gIx fa fb) := se_ix ix_seq ops_ix ha hb hs
theorem se_add (ha : SE X cl W a fa) (hb : SE X cl W b fb) : SE X cl W (.BinOp a .Add b pos) (dBin gAdd fa fb) := se_bin op_addA ops_addA ha hb
theorem se_addC (ha : SE X cl W a fa) (hb : SE X cl W b fb) : SE X cl W (.BinOp a .Add b pos) (dBin gCatC fa fb) := se_bin op_cat ops_catC ha hb
abbrev gSub : G2 := gInt fun i j => i - j
theorem se_sub (ha : SE X cl W a fa) (hb : SE X cl W b fb) : SE X cl W (.BinOp a .Sub b pos) (dBin Ip.gSub fa fb) := se_bin op_sub ops_int ha hb
def in64 (i : Int) : Bool := decide (-(2 ^ 64) < i) && decide (i < 2 ^ 64)
def gMul : G2 := orG (gIntC (fun i j => in64 i || in64 j) fun i j => i * j) gRep
theorem in64_ok {i : Int} (h : in64 i = true) : -(2 ^ 64) < i ∧ i < 2 ^ 64 := by
  unfold in64 at h
  simp only [Bool.and_eq_true, decide_eq_true_eq] at h
  exact h
theorem se_mul (ha : SE X cl W a fa) (hb : SE X cl W b fb) : SE X cl W (.BinOp a .Mult b pos) (dBin gMul fa fb) :=
  se_bin (op_mul.or op_rep) ((ops_intC fun i j h => by
    rw [Bool.or_eq_true] at h
    exact h.elim (fun z => .inl (in64_ok z)) (fun z => .inr (in64_ok z))).or ops_rep) ha hb
def gMod : G2 := gIntC (fun _ j => decide (0 < j)) fun i j => i % j
theorem se_mod (ha : SE X cl W a fa) (hb : SE X cl W b fb) : SE X cl W (.BinOp a .Mod b pos) (dBin gMod fa fb) := se_bin op_mod (ops_intC fun i j h => by simpa using h) ha hb
def gDiv : G2 := gIntC (fun _ j => decide (0 < j) && decide (j < 1073741824)) fun i j => i / j
theorem se_div (ha : SE X cl W a fa) (hb : SE X cl W b fb) : SE X cl W (.BinOp a .FloorDiv b pos) (dBin gDiv fa fb) := se_bin op_fdiv (ops_intC fun i j h => by simpa [CDiv] using h) ha hb
def gPow : G2 := gIntC (fun i j => decide (0 ≤ j) && decide (j ≤ 1000000) && decide (i.natAbs < 2 ^ 64)) fun i j => i ^ j.toNat
theorem se_pow (ha : SE X cl W a fa) (hb : SE X cl W b fb) : SE X cl W (.BinOp a .Pow b pos) (dBin gPow fa fb) := se_bin op_pow (ops_intC fun i j h => by
  simp only [Bool.and_eq_true, decide_eq_true_eq] at h
  exact ⟨h.1.1, h.1.2, h.2⟩) ha hb
def gNeg : D → Sto → Option (D × Sto) := fun x M => match x with
  | .int i => some (.int (-i), M)
  | _ => none
theorem se_neg (ha : SE X cl W a fa) : SE X cl W (.UnaryOp .USub a pos) (dUn gNeg fa) := se_un un_neg (fun H ρ M x dx d M' Q S rx e h => by
  cases rx with
  | int i => cases e; exact ⟨i, rfl, h ρ _ H .refl S (.int _)⟩
  | _ => cases e) ha
abbrev gLt : G2 := gIntB fun i j => decide (i < j)
abbrev gLe : G2 := gIntB fun i j => decide (i ≤ j)
abbrev gGt : G2 := gIntB fun i j => decide (j < i)
abbrev gGe : G2 := gIntB fun i j => decide (j ≤ i)
theorem se_lt (ha : SE X cl W a fa) (hb : SE X cl W b fb) : SE X cl W (.Compare a [.Lt] [b] pos) (dBin gLt fa fb) := se_cmp op_lt ops_intB ha hb (nomark _)
theorem se_le (ha : SE X cl W a fa) (hb : SE X cl W b fb) : SE X cl W (.Compare a [.LtE] [b] pos) (dBin gLe fa fb) := se_cmp op_le ops_intB ha hb (nomark _)
theorem se_gt (ha : SE X cl W a fa) (hb : SE X cl W b fb) : SE X cl W (.Compare a [.Gt] [b] pos) (dBin gGt fa fb) := se_cmp op_gt ops_intB ha hb (nomark _)
theorem se_ge (ha : SE X cl W a fa) (hb : SE X cl W b fb) : SE X cl W (.Compare a [.GtE] [b] pos) (dBin gGe fa fb) := se_cmp op_ge ops_intB ha hb (nomark _)
theorem se_eq {k : Nat} (hr : Room k X.A) (ha : SE X cl W a fa) (hb : SE X cl W b fb) : SE X cl W (.Compare a [.Eq] [b] pos) (dBin (gEq false) fa fb) := se_cmp (op_eqA hr.units) ops_eq ha hb (nomark _)
theorem se_ne {k : Nat} (hr : Room k X.A) (ha : SE X cl W a fa) (hb : SE X cl W b fb) : SE X cl W (.Compare a [.NotEq] [b] pos) (dBin (gEq true) fa fb) := se_cmp (op_neA hr.units) ops_ne ha hb (nomark _)
theorem se_is (ha : SE X cl W a fa) (hb : SE X cl W b fb) : SE X cl W (.Compare a [.Is] [b] pos) (dBin (gIs false) fa fb) := se_cmp op_isN ops_is ha hb (nomark _)
theorem se_isnot (ha : SE X cl W a fa) (hb : SE X cl W b fb) : SE X cl W (.Compare a [.IsNot] [b] pos) (dBin (gIs true) fa fb) := se_cmp op_notN ops_isnot ha hb (nomark _)
theorem st_lt (ha : SE X cl W a fa) (hb : SE X cl W b fb) : ST X cl W (.Compare a [.Lt] [b] pos) (dB (dBin gLt fa fb)) := st_cmp op_lt ops_intB ha hb (nomark _)
theorem st_le (ha : SE X cl W a fa) (hb : SE X cl W b fb) : ST X cl W (.Compare a [.LtE] [b] pos) (dB (dBin gLe fa fb)) := st_cmp op_le ops_intB ha hb (nomark _)
theorem st_gt (ha : SE X cl W a fa) (hb : SE X cl W b fb) : ST X cl W (.Compare a [.Gt] [b] pos) (dB (dBin gGt fa fb)) := st_cmp op_gt ops_intB ha hb (nomark _)
theorem st_ge (ha : SE X cl W a fa) (hb : SE X cl W b fb) : ST X cl W (.Compare a [.GtE] [b] pos) (dB (dBin gGe fa fb)) := st_cmp op_ge ops_intB ha hb (nomark _)
theorem st_eq {k : Nat} (hr : Room k X.A) (ha : SE X cl W a fa) (hb : SE X cl W b fb) : ST X cl W (.Compare a [.Eq] [b] pos) (dB (dBin (gEq false) fa fb)) := st_cmp (op_eqA hr.units) ops_eq ha hb (nomark _)
theorem st_ne {k : Nat} (hr : Room k X.A) (ha : SE X cl W a fa) (hb : SE X cl W b fb) : ST X cl W (.Compare a [.NotEq] [b] pos) (dB (dBin (gEq true) fa fb)) := st_cmp (op_neA hr.units) ops_ne ha hb (nomark _)
theorem st_is (ha : SE X cl W a fa) (hb : SE X cl W b fb) : ST X cl W (.Compare a [.Is] [b] pos) (dB (dBin (gIs false) fa fb)) := st_cmp op_isN ops_is ha hb (nomark _)
theorem st_isnot (ha : SE X cl W a fa) (hb : SE X cl W b fb) : ST X cl W (.Compare a [.IsNot] [b] pos) (dB (dBin (gIs true) fa fb)) := st_cmp op_notN ops_isnot ha hb (nomark _)
theorem sg_v (i : Nat) {x : Str} (hN : X.N.Nodup) (hi : X.N[i]? = some x := by rfl) (hx : Loc X.env.scope x := by first | exact Or.inl rfl | exact Or.inr rfl) (hf : X.fn x = true ∨ X.env.scope.names.lookup x = some .local := by first | exact .inl rfl | exact .inr rfl | assumption) : SG X cl (.Name x pos) (tgName i) := sg_name hN hi hx hf
theorem ss_let (i : Nat) {x : Str} {pos' : Pos} (hN : X.N.Nodup) (he : SE X cl W e fe) (hi : X.N[i]? = some x := by rfl) (hx : Loc X.env.scope x := by first | exact Or.inl rfl | exact Or.inr rfl) (hs : swapsWith e (some (.Name x pos')) pos.line X.env = pure false := by rfl) (hf : X.fn x = true ∨ X.env.scope.names.lookup x = some .local := by first | exact .inl rfl | exact .inr rfl | assumption) :
    SS X cl W (.Assign [.Name x pos'] e pos) (dSet i fe) := ss_set hN hi hx he hs hf
theorem ss_at {i : Expr} {fi : DE} {pos' : Pos} (ho : SE X cl W o fo) (hi : SE X cl W i fi) (he : SE X cl W e fe) (hg : PG X (.Subscript o i pos') (L2.gSub (dE (gx X cl) W fo) (dE (gx X cl) W fi) rSetL) := by exact pg_sub (by assumption) (by assumption) set_list)
    (hs : swapsWithSole [.Subscript o i pos'] e pos.line X.env = pure false := by rfl) (hw : swappedStores [.Subscript o i pos'] e X.env = pure none := by rfl)
    (h1 : (assignEach [.Subscript o i pos'] X.env).map (·.2) = [assign (.Subscript o i pos') X.env] := by rfl) : SS X cl W (.Assign [.Subscript o i pos'] e pos) (dSetIx fo fi fe) := ss_setIx ho hi he hg hs hw h1
end
end Ip
end
section
set_option Elab.async false
set_option linter.all false
set_option maxRecDepth 100000
set_option maxHeartbeats 4000000
set_option autoImplicit false
namespace Ip
open PySem PyProof.Rows L2
section
variable {X : Cx} {cl : Str → Option Addr} {W : WX} {G : Gx}
/-- the frame one built-in call deeper -/
def inCx (X : Cx) : Cx := { X with A := X.A.in1 }
theorem inCx_in {pins : List (Addr × Obj)} {σ : L2.St} {H : Hp} {s : Shared} (I : Inv X pins σ H s) : Inv (inCx X) pins σ H s :=
  { ok := { mod := I.ok.mod, kind := I.ok.kind, glob := I.ok.glob, blt := I.ok.blt, above := I.ok.above, inj := I.ok.inj, has := I.ok.has, cab := I.ok.cab, hd := I.ok.hd, frames := I.ok.frames, stk := I.ok.stk, exf := I.ok.exf, bs := I.ok.bs, bsz := I.ok.bsz, noex := I.ok.noex, exfs := I.ok.exfs, funs := I.ok.funs, frf := I.ok.frf },
    os := I.os, bare := I.bare, base := I.base, loc := I.loc, cell := I.cell, free := I.free, freeC := I.freeC, pin := I.pin, hok := I.hok, len := I.len }
theorem inCx_out {pins : List (Addr × Obj)} {σ : L2.St} {H : Hp} {s : Shared} (I : Inv (inCx X) pins σ H s) : Inv X pins σ H s :=
  { ok := { mod := I.ok.mod, kind := I.ok.kind, glob := I.ok.glob, blt := I.ok.blt, above := I.ok.above, inj := I.ok.inj, has := I.ok.has, cab := I.ok.cab, hd := I.ok.hd, frames := I.ok.frames, stk := I.ok.stk, exf := I.ok.exf, bs := I.ok.bs, bsz := I.ok.bsz, noex := I.ok.noex, exfs := I.ok.exfs, funs := I.ok.funs, frf := I.ok.frf },
    os := I.os, bare := I.bare, base := I.base, loc := I.loc, cell := I.cell, free := I.free, freeC := I.freeC, pin := I.pin, hok := I.hok, len := I.len }
/-- an own def called from within a built-in -/
theorem run_in {f : Addr} {fd : FuncData} {k : Nat} {ps : List Str} {sp : Sp} {pins : List (Addr × Obj)} {σ : L2.St} {H : Hp} {s : Shared} {Q : VK} {us : List Value} {vs : List V} (F : FnOk X.prog X.w X.K X.mg X.base CX0 k f fd ps sp) (hr : Room (k + 1) X.A) (hb : Binds X.K fd ps [])
    (I : Inv X pins σ H s) (r : Vals vs us) (h : sp vs H Q E0) : wpAny (model X.prog X.w) X.A.in1 (call (.ref f) us) (EP X pins σ Q) X.xe s := by
  have z := run_fn (X := inCx X) (ds := []) (dvs := []) F hr.in1 hb .nil (E := E0) pass0 (inCx_in I) r (Q := Q) (by rw [List.append_nil]; exact h)
  exact thn z fun u s' ⟨v, H', I', rv, q⟩ => ⟨v, H', inCx_out I', rv, q⟩
theorem spec_own {C a dx f : Addr} {fs : List (Str × V)} {m : Str} {pins : List (Addr × Obj)} {σ : L2.St} {H : Hp} {s : Shared} (hm : Meth X.K C m f) (I : Inv X pins σ H s) (ha : H a = some (.ins C dx fs)) : PySem.W.Looks (model X.prog X.w) s.heap (specialOf (.ref a) m) (some (.ref f)) := by
  obtain ⟨_, _, _, e, _⟩ := I.hok a _ ha
  exact (NwA.type_at e rfl).andThen (PySem.W.looks_findIn I.kIn hm.at_)
theorem fn_type {K : PySem.W.Frag} {f : Addr} (h : PySem.W.isFn K (.ref f) = true) : PySem.W.typeIn K (.ref f) = some (.type "function") := by
  unfold PySem.W.isFn at h
  first
    | exact eq_of_beq h
    | (simp at h; exact h)
    | simpa using h
theorem call_lenO {C f : Addr} {fd : FuncData} {k : Nat} {ps : List Str} {sp : Sp} (hm : Meth X.K C "__len__" f) (F : FnOk X.prog X.w X.K X.mg X.base CX0 k f fd ps sp) (hr : Room (k + 1) X.A) (hb : Binds X.K fd ps []) :
    CallR X (.builtin "len") (fun xs H Q => ∃ a dx fs, xs = [.ref a] ∧ H a = some (.ins C dx fs) ∧ sp [.ref a] H (fun v H' => ∃ n : Int, v = .int n ∧ 0 ≤ n ∧ n < 2 ^ 63 ∧ Q (.int n) H') E0) := by
  intro pins s σ H xs us Q I r h
  obtain ⟨a, dx, fs, rfl, ha, h⟩ := h
  obtain ⟨u, rfl, rx⟩ := vals1 r
  obtain rfl : u = Value.ref a := rx
  have sp1 := spec_own hm I ha
  have bf := PySem.W.bind_fn (M := model X.prog X.w) I.kIn (.ref a) (fn_type hm.fn)
  refine Calls.call_function_entry kind_len plain_len entry_len (args_len1 _) ?_
  unfold Builtin.«len»
  refine wpAny_bind (m := oneArg "len" _) (wpAny_pure ?_)
  have cs : wpAny (model X.prog X.w) X.A.in1 (callSpecial? (.ref a) (Str.ofString "__len__")) (fun o s' => ∃ v, o = some v ∧ EP X pins σ (fun v H' => ∃ n : Int, v = .int n ∧ 0 ≤ n ∧ n < 2 ^ 63 ∧ Q (.int n) H') v s') X.xe s := by
    simp only [callSpecial?]
    refine wpAny_bind (sp1.here ?_)
    refine wpAny_holding (wpAny_bind (bf.here ?_))
    exact wpAny_bind (thn (run_in (vs := [.ref a]) F hr hb I (.cons rfl .nil) h) fun v s' q => wpAny_pure ⟨v, rfl, q⟩)
  refine wpAny_bind (m := callSpecial? (.ref a) (Str.ofString "__len__")) (thn cs fun o s1 ⟨v, e, z⟩ => ?_)
  subst e
  obtain ⟨v', H1, I1, rv, n, rfl, h0, h1, q⟩ := z
  obtain ⟨t, rfl⟩ := rv
  refine wpAny_bind (wpAny_holding (wpAny_pure ?_))
  refine wpAny_bind (wpAny_letGo ?_)
  show wpAny _ _ (if n < 0 then _ else _) _ _ _
  rw [if_neg (Int.not_lt.mpr h0)]
  show wpAny _ _ (if n ≥ 2 ^ 63 then _ else _) _ _ _
  rw [if_neg (Int.not_le.mpr h1)]
  exact wpAny_bind (wpAny_mkInt (wpAny_pure ⟨_, rfl, ⟨.int n, H1, I1.tok _, ⟨_, rfl⟩, q⟩⟩))
theorem call_reprO {C f : Addr} {fd : FuncData} {k : Nat} {ps : List Str} {sp : Sp} (hm : Meth X.K C "__repr__" f) (F : FnOk X.prog X.w X.K X.mg X.base CX0 k f fd ps sp) (hr : Room (k + 1) X.A) (hb : Binds X.K fd ps []) :
    CallR X (.builtin "repr") (fun xs H Q => ∃ a dx fs, xs = [.ref a] ∧ H a = some (.ins C dx fs) ∧ sp [.ref a] H (fun v H' => ∃ m : Str, v = .str m ∧ Q (.str m) H') E0) := by
  intro pins s σ H xs us Q I r h
  obtain ⟨a, dx, fs, rfl, ha, h⟩ := h
  obtain ⟨u, rfl, rx⟩ := vals1 r
  obtain rfl : u = Value.ref a := rx
  have sp1 := spec_own hm I ha
  have bf := PySem.W.bind_fn (M := model X.prog X.w) I.kIn (.ref a) (fn_type hm.fn)
  have hu : X.A.in1.units < cLine := hr.in1.units0
  have hcall := run_in (vs := [.ref a]) F hr hb I (.cons rfl .nil) h
  refine Calls.call_function_entry PySem.F.kind_repr PySem.F.plain_repr PySem.F.entry_repr (PySem.F.args_repr1 _) ?_
  unfold Builtin.«repr»
  refine wpAny_bind (m := oneArg "repr" _) (wpAny_pure ?_)
  refine wpAny_bind (wpAny_cRoomFor hu (wpAny_bind (sp1.here ?_)))
  show wpAny _ _ (if (some (Value.ref f)).isNone = true then _ else _) _ _ _
  rw [if_neg (fun z => by cases z)]
  have cs : wpAny (model X.prog X.w) X.A.in1 (callSpecialIfBound? (.ref a) (Str.ofString "__repr__")) (fun o s' => ∃ v, o = some v ∧ EP X pins σ (fun v H' => ∃ m : Str, v = .str m ∧ Q (.str m) H') v s') X.xe s := by
    simp only [callSpecialIfBound?, bindSpecialIfBound?]
    have fin : wpAny (model X.prog X.w) X.A.in1 (call (.ref f) ([.ref a] ++ []) >>= fun v => pure (some v)) (fun o s' => ∃ v, o = some v ∧ EP X pins σ (fun v H' => ∃ m : Str, v = .str m ∧ Q (.str m) H') v s') X.xe s :=
      wpAny_bind (thn hcall fun v s' q => wpAny_pure ⟨v, rfl, q⟩)
    refine wpAny_holding (wpAny_bind (wpAny_bind (sp1.here ?_)))
    refine wpAny_bind (wpAny_askSetting (wpAny_ite ?_))
    split
    · exact wpAny_bind (bf.here (wpAny_pure (by exact fin)))
    · exact wpAny_tryCatch (wpAny_bind (bf.here (wpAny_pure (by exact fin))))
  refine wpAny_bind (m := callSpecialIfBound? (.ref a) (Str.ofString "__repr__") _) (thn cs fun o s1 ⟨v, e, z⟩ => ?_)
  subst e
  obtain ⟨v', H1, I1, rv, m, rfl, q⟩ := z
  obtain ⟨t, rfl⟩ := rv
  refine wpAny_bind (wpAny_isInstance (typeIs_str _ _ _) isSubtype_str_str ?_)
  have last : EP X pins σ Q (.str m t) s1 := ⟨.str m, H1, I1, ⟨_, rfl⟩, q⟩
  first
    | exact wpAny_pure ⟨_, rfl, last⟩
    | (rw [if_pos rfl]; exact wpAny_pure ⟨_, rfl, last⟩)
def dLenO (c : Str) (F : DF) (fe : DE) : DE := fun env M => (fe env M).bind fun x M1 => match objOf c x M1 with
  | some _ => (noex (F [x] M1)).bind fun d M2 => match d with
    | .int n => if 0 ≤ n ∧ n < 2 ^ 63 then .ok (.int n) M2 else .bad
    | _ => .bad
  | none => .bad
def dReprO (c : Str) (F : DF) (fe : DE) : DE := fun env M => (fe env M).bind fun x M1 => match objOf c x M1 with
  | some _ => (noex (F [x] M1)).bind fun d M2 => match d with
    | .str m => .ok (.str m) M2
    | _ => .bad
  | none => .bad
theorem se_lenO {c : Str} {C f : Addr} {fd : FuncData} {k : Nat} {ps : List Str} {F : DF} {e : Expr} {fe : DE} {p pos : Pos} (hC : cl c = some C) (hm : Meth X.K C "__len__" f) (Fk : FnOk X.prog X.w X.K X.mg X.base CX0 k f fd ps (spD (gx X cl) F)) (hr : Room (k + 1) X.A) (hb : Binds X.K fd ps [])
    (hg : Gl X "len") (hn : X.mg "len" = none) (he : SE X cl W e fe) (h1 : starEach [e] X.env = (false, eval e X.env) :: starEach [] X.env := by rfl) (hpl : (backTo pos (starEach [] X.env)).any (·.1) = false := by rfl) :
    SE X cl W (.Call (.Name "len" p) [e] [] pos) (dLenO c F fe) :=
  PEweak (pe_callB (call_lenO hm Fk hr hb) hg hn boot_len (pa_cons he pa_nil h1) (by decide) (by decide) h1 hpl) fun σ H Q ⟨ρ, env, M, hE, hS, h⟩ => by
    refine ⟨ρ, env, M, hE, hS, (post_bind h).imp (fun x M1 hx ρ1 v H1 e1 S1 r1 => ?_) (fun _ _ _ z => z)⟩
    split at hx
    · rename_i p hp
      obtain ⟨ks, ds⟩ := p
      obtain ⟨a, dx, vs, rfl, ha, hl, rs⟩ := objOf_ok (G := gx X cl) hC S1 r1 hp
      refine ⟨a, dx, _, rfl, ha, ρ1, M1, [x], S1, .one r1, (noexF (post_bind hx)).imp (fun d M2 hd ρ2 v2 H2 e2 S2 r2 => ?_) (fun _ _ _ z => z)⟩
      cases r2 with
      | int n =>
        have hd' : (if 0 ≤ n ∧ n < 2 ^ 63 then Out.ok (D.int n) M2 else .bad).post (oP (gx X cl) H ρ Q) (eP (gx X cl) W H ρ) := hd
        split at hd'
        · rename_i hn
          exact ⟨n, rfl, hn.1, hn.2, hd' ρ2 _ H2 (e1.trans e2) S2 (.int n)⟩
        · exact hd'.elim
      | _ => exact hd.elim
    · exact hx.elim
theorem se_reprO {c : Str} {C f : Addr} {fd : FuncData} {k : Nat} {ps : List Str} {F : DF} {e : Expr} {fe : DE} {p pos : Pos} (hC : cl c = some C) (hm : Meth X.K C "__repr__" f) (Fk : FnOk X.prog X.w X.K X.mg X.base CX0 k f fd ps (spD (gx X cl) F)) (hr : Room (k + 1) X.A) (hb : Binds X.K fd ps [])
    (hg : Gl X "repr") (hn : X.mg "repr" = none) (he : SE X cl W e fe) (h1 : starEach [e] X.env = (false, eval e X.env) :: starEach [] X.env := by rfl) (hpl : (backTo pos (starEach [] X.env)).any (·.1) = false := by rfl) :
    SE X cl W (.Call (.Name "repr" p) [e] [] pos) (dReprO c F fe) :=
  PEweak (pe_callB (call_reprO hm Fk hr hb) hg hn (by decide +kernel) (pa_cons he pa_nil h1) (by decide) (by decide) h1 hpl) fun σ H Q ⟨ρ, env, M, hE, hS, h⟩ => by
    refine ⟨ρ, env, M, hE, hS, (post_bind h).imp (fun x M1 hx ρ1 v H1 e1 S1 r1 => ?_) (fun _ _ _ z => z)⟩
    split at hx
    · rename_i p hp
      obtain ⟨ks, ds⟩ := p
      obtain ⟨a, dx, vs, rfl, ha, hl, rs⟩ := objOf_ok (G := gx X cl) hC S1 r1 hp
      refine ⟨a, dx, _, rfl, ha, ρ1, M1, [x], S1, .one r1, (noexF (post_bind hx)).imp (fun d M2 hd ρ2 v2 H2 e2 S2 r2 => ?_) (fun _ _ _ z => z)⟩
      cases r2 with
      | str m => exact ⟨m, rfl, hd ρ2 _ H2 (e1.trans e2) S2 (.str m)⟩
      | _ => exact hd.elim
    · exact hx.elim
/-! ### texts with fields -/
def dFmt (fe : DE) : DE := fun env M => (fe env M).bind fun x M1 => match x with
  | .str y => if y.length ≤ 16777216 then .ok (.str y) M1 else .bad
  | .int i => if i.natAbs.log2 < 1920 then .ok (.str (toString i)) M1 else .bad
  | _ => .bad
theorem se_fmt {e : Expr} {fe : DE} {pos : Pos} (he : SE X cl W e fe) : SE X cl W (.FormattedValue e (-1) none pos) (dFmt fe) :=
  PEweak (pe_fmt he) fun σ H Q ⟨ρ, env, M, hE, hS, h⟩ => by
    refine ⟨ρ, env, M, hE, hS, (post_bind h).imp (fun x M1 hx ρ1 v H1 e1 S1 r1 => ?_) (fun _ _ _ z => z)⟩
    cases r1 with
    | str y =>
      have hx' : (if y.length ≤ 16777216 then Out.ok (D.str y) M1 else .bad).post (oP (gx X cl) H ρ Q) (eP (gx X cl) W H ρ) := hx
      split at hx'
      · rename_i hl
        exact .inl ⟨y, rfl, line_of hl, hx' ρ1 _ H1 e1 S1 (.str y)⟩
      · exact hx'.elim
    | int i =>
      have hx' : (if i.natAbs.log2 < 1920 then Out.ok (D.str (toString i)) M1 else .bad).post (oP (gx X cl) H ρ Q) (eP (gx X cl) W H ρ) := hx
      split at hx'
      · rename_i hl
        exact .inr ⟨i, rfl, hl, hx' ρ1 _ H1 e1 S1 (.str _)⟩
      · exact hx'.elim
    | _ => exact hx.elim
def dJs : List DE → Str → DE
  | [], acc => fun _ M => .ok (.str acc) M
  | f :: fs, acc => fun env M => (f env M).bind fun x M1 => match x with
    | .str y => if (acc ++ y).length ≤ 16777216 then dJs fs (acc ++ y) env M1 else .bad
    | _ => .bad
inductive SJ (X : Cx) (cl : Str → Option Addr) (W : WX) : List Expr → List DE → Prop where
  | nil : SJ X cl W [] []
  | cons {e : Expr} {f : DE} {es : List Expr} {fs : List DE} (h : SE X cl W e f) (r : SJ X cl W es fs) : SJ X cl W (e :: es) (f :: fs)
theorem SJ.pj {es : List Expr} {fs : List DE} (h : SJ X cl W es fs) : PJ X es (fs.map (dE (gx X cl) W)) := by
  induction h with
  | nil => exact .nil
  | cons h r ih => exact .cons h ih
theorem dJs_ok : ∀ {fs : List DE} {acc : Str} {σ : L2.St} {H : Hp} {Q : Str → Hp → Prop}, dE G W (dJs fs acc) σ H (fun v H' => ∃ m, v = .str m ∧ Q m H') → tJs (fs.map (dE G W)) acc σ H Q
  | [], acc, σ, H, Q, ⟨ρ, env, M, hE, hS, h⟩ => by
    obtain ⟨m, e, q⟩ := h ρ (.str acc) H .refl hS (.str acc)
    cases e
    exact q
  | f :: fs, acc, σ, H, Q, ⟨ρ, env, M, hE, hS, h⟩ => by
    refine ⟨ρ, env, M, hE, hS, (post_bind h).imp (fun x M1 hx ρ1 v H1 e1 S1 r1 => ?_) (fun _ _ _ z => z)⟩
    cases r1 with
    | str y =>
      have hx' : (if (acc ++ y).length ≤ 16777216 then dJs fs (acc ++ y) env M1 else .bad).post (oP G H ρ (fun v H' => ∃ m, v = .str m ∧ Q m H')) (eP G W H ρ) := hx
      split at hx'
      · rename_i hl
        exact ⟨y, rfl, line_of hl, dJs_ok ⟨ρ1, env, M1, hE.mono e1, S1, hx'.imp (fun _ _ z => oP.sh e1 z) (fun _ _ _ z => eP.sh e1 z)⟩⟩
      · exact hx'.elim
    | _ => exact hx.elim
theorem dJs_str : ∀ {fs : List DE} {acc : Str} {env : En} {M : Sto} {H : Hp} {ρ : Rho} {Q : VK} {E : Exn → En → Sto → Prop}, (dJs fs acc env M).post (oP G H ρ Q) E → (dJs fs acc env M).post (oP G H ρ (fun v H' => ∃ m, v = .str m ∧ Q (.str m) H')) E
  | [], acc, env, M, H, ρ, Q, E, h => fun ρ1 v H1 e1 S1 r1 => by
    have z := h ρ1 v H1 e1 S1 r1
    cases r1
    exact ⟨_, rfl, z⟩
  | f :: fs, acc, env, M, H, ρ, Q, E, h => by
    have h' := post_bind h
    show (Out.bind (f env M) _).post _ _
    cases hf : f env M with
    | bad => rw [hf] at h'; exact h'
    | exc e ev M1 => rw [hf] at h'; exact h'
    | ok x M1 =>
      rw [hf] at h'
      show (match x with
        | .str y => if (acc ++ y).length ≤ 16777216 then dJs fs (acc ++ y) env M1 else .bad
        | _ => .bad).post _ _
      cases x with
      | str y =>
        have h2 : (if (acc ++ y).length ≤ 16777216 then dJs fs (acc ++ y) env M1 else .bad).post (oP G H ρ Q) E := h'
        show (if (acc ++ y).length ≤ 16777216 then dJs fs (acc ++ y) env M1 else .bad).post _ _
        split at h2
        · rename_i hl
          rw [if_pos hl]
          exact dJs_str h2
        · exact h2.elim
      | _ => exact h'.elim
theorem se_joined {v1 v2 : Expr} {rest : List Expr} {fs : List DE} {pos : Pos} (h : SJ X cl W (v1 :: v2 :: rest) fs) : SE X cl W (.JoinedStr (v1 :: v2 :: rest) pos) (dJs fs Str.empty) :=
  PEweak (pe_joined h.pj) fun σ H Q ⟨ρ, env, M, hE, hS, z⟩ => dJs_ok (G := gx X cl) (Q := fun m H' => Q (.str m) H') ⟨ρ, env, M, hE, hS, dJs_str z⟩
end
end Ip
end
section
set_option Elab.async false
set_option linter.all false
set_option maxRecDepth 100000
set_option maxHeartbeats 4000000
set_option autoImplicit false
namespace Ip
open PySem PyProof.Rows L2
open AutoSeq1 (wpAny_loadPart')
/-! ### enumerate over a tuple -/
abbrev tupIt (t : Addr) : Obj := { cls := .type "tuple_iterator", data := .fields #[.ref t, .int 0 0] }
abbrev enumOb (i : Addr) : Obj := { cls := .type "enumerate", data := .fields #[.none, .bool false, .ref i, rawInt 0, .none, .none] }
theorem enum_newT (t : Addr) (its : Array Value) :
    Meets (Builtin.«enumerate.__new__» ⟨[.type "enumerate", .ref t], []⟩) (fun _ R s => s.heap.IsTuple t its ∧
      R (.ok (.ret (.ref (s.heap.push (tupIt t)).objs.size))) { s with heap := (s.heap.push (tupIt t)).push (enumOb s.heap.objs.size) }) :=
  .of_wp fun prog w A R s hh => by
    obtain ⟨hp, g, dr, tk, os⟩ := s
    obtain ⟨ht, fin⟩ := hh
    have sb := sub_enumerate
    have hT : Heap.IsTuple (Shared.heap ⟨hp, g, dr, tk, os⟩) t its := ht
    obtain ⟨o, ho, hc, hd⟩ := id ht
    wp_walk using wpAny_loadPart' ho
    refine wpAny_stack_any fun stk => wpAny_pure ?_
    split
    · rename_i c _ _ _ _ _
      cases (c == Value.type "enumerate") <;> (wp_walk using wpAny_pyIter_tuple hT; exact ⟨_, rfl, fin⟩)
    · wp_walk using wpAny_pyIter_tuple hT
      exact ⟨_, rfl, fin⟩
theorem call_enumT {prog : Program} {w : World} {A : Around} {E : Value → Shared → Prop} {s : Shared} {t : Addr} {its : Array Value} {Q : Value → Shared → Prop} (ht : s.heap.IsTuple t its)
    (h : ∀ h', IsEnum h' (s.heap.objs.size + 1) s.heap.objs.size 0 .none → h'.IsTupleIter s.heap.objs.size t 0 → (∀ b o, s.heap.get? b = some o → h'.get? b = some o) → Q (.ref (s.heap.objs.size + 1)) { s with heap := h' }) :
    wpAny (model prog w) A (call (.type "enumerate") [.ref t]) Q E s := by
  refine callType_new PySem.F.called_enumerate (by decide) (PySem.F.typeCall_enumerate_1 _) (PySem.F.newCall_enumerate_1 _) (fun ob => PySem.F.args_object_init_2 ob _) PySem.F.entry_enumerate_new (enum_newT t its) ⟨ht, ?_⟩
  have hz : (s.heap.push (tupIt t)).objs.size = s.heap.objs.size + 1 := Heap.size_push ..
  show _ ∧ _
  rw [hz]
  have he : IsEnum ((s.heap.push (tupIt t)).push (enumOb s.heap.objs.size)) (s.heap.objs.size + 1) s.heap.objs.size 0 .none := by
    have q := Heap.get?_push_size (s.heap.push (tupIt t)) (o := enumOb s.heap.objs.size) rfl
    rw [hz] at q
    exact q
  exact ⟨⟨_, he, rfl⟩, h _ he ⟨_, Heap.get?_push_of_some _ (Heap.get?_push_size _ rfl), rfl, rfl⟩ fun b o x => Heap.get?_push_of_some _ (Heap.get?_push_of_some _ x)⟩
/-- the tuple at a, its items in new pairs -/
def IteT (K : PySem.W.Frag) (a : Addr) : It :=
  ⟨fun i H => ∃ (xs : List V) (x : V), SqT K H a xs ∧ xs[i]? = some x, fun i H v H' => ∃ T x, v = .ref T ∧ H T = none ∧ H' = upd H T (.tup [.int (i : Nat), x]) ∧ ∀ xs, SqT K H a xs → xs[i]? = some x, fun i H => ∃ xs : List V, SqT K H a xs ∧ xs.length ≤ i⟩
theorem turn_enumT {P : Program} {w : World} {K : PySem.W.Frag} {elts : List Expr} {kk : Nat} {tpos : Pos} (a e it : Addr) (hai : a ≠ it) (hae : a ≠ e) :
    Turn P w K (.Tuple elts kk tpos) (IteT K a) [e, it] e (fun i h => (∃ old, IsEnum h e it ((i : Nat) : Int) old) ∧ h.IsTupleIter it a i ∧ e ≠ it) where
  mem := by simp
  obj := fun i h st b hb => by
    obtain ⟨⟨old, he⟩, ⟨o, ho, hc, hd⟩, _⟩ := st
    rcases (show b = e ∨ b = it by simpa using hb) with z | z
    · rw [z]; exact ⟨_, he, fun v q => nomatch q⟩
    · rw [z]; exact ⟨o, ho, fun v q => by rw [hd] at q; cases q⟩
  keep := fun i h h' st k => let ⟨⟨old, he⟩, hi, hne⟩ := st; ⟨⟨old, k e (by simp) _ he⟩, hi.at fun o q => k it (by simp) o q, hne⟩
  item := by
    intro X hP hw hK hc i pins s σ H E I hf st hg
    subst hP hw hK
    obtain ⟨⟨old, he⟩, hit, hne⟩ := st
    obtain ⟨xs, x, hq, hx⟩ := hg
    obtain ⟨its, rv, pt, hz⟩ := I.tuple hq
    have ptu : s.heap.IsTuple a its.toArray := pt
    have hel : e < s.heap.objs.size := Heap.lt_size he
    have hil : it < s.heap.objs.size := by obtain ⟨_, q, _⟩ := id hit; exact Heap.lt_size q
    have hal : a < s.heap.objs.size := by obtain ⟨_, q, _⟩ := id ptu; exact Heap.lt_size q
    have hlen : i < its.toArray.size := by
      have q := (List.getElem?_eq_some_iff.mp hx).1
      rw [rv.length] at q
      simpa using q
    have Dr := Draws.tuple (prog := X.prog) (w := X.w) (A := X.A.in1) (I.ok.hd hc) it a hai its.toArray
    refine wpAny_pyNext_enum_itemD Dr he ⟨hit, ptu⟩ hlen hne (by simp; exact ⟨hne, Ne.symm hae⟩) fun u h' tk hu ho hst hT hsz hk => ?_
    obtain ⟨u', hu', ru⟩ := rv.get hx
    have eu : u = u' := by
      have q : its[i]? = some u := by simpa using hu
      rw [hu'] at q
      exact (Option.some.inj q).symm
    subst eu
    refine ⟨_, rfl, wpAny_letOwnedTupleGo_enum (s := { s with heap := h', toks := tk + 1 }) ho fun h'' he' sb => ?_⟩
    have hT2 : h''.get? s.heap.objs.size = some { cls := .type "tuple", data := .seq #[.int i tk, u] } := (sb.2 _ (Nat.ne_of_gt hel)).trans hT
    have new : ObjOk X.prog X.w (upd H s.heap.objs.size (.tup [.int (i : Nat), x])) h'' s.heap.objs.size (.tup [.int (i : Nat), x]) :=
      ⟨by show 2 ≤ sizeLine; decide, [.int i tk, u], .cons ⟨_, rfl⟩ (.cons ru .nil), ⟨_, hT2, rfl, _, rfl⟩⟩
    have I1 : Inv X pins σ (upd H s.heap.objs.size (.tup [.int (i : Nat), x])) { s with heap := h'', toks := tk + 1 } :=
      I.turnedNew (ch := [e, it]) (fun b ob hb q => (sb.2 b (fun z => hb (by simp [z]))).trans (hk b ob (fun z => hb (by simp [z])) (fun z => hb (by simp [z])) q)) hf (Nat.le_refl _) new
    refine ⟨.ref s.heap.objs.size, _, I1, rfl, ⟨_, x, rfl, I.hok.fresh (Nat.le_refl _), rfl, fun ys hy => by rw [I.tuple_inj hy hq]; exact hx⟩, ⟨⟨u, ?_⟩, hst.1.at fun o q => (sb.2 it (Ne.symm hne)).trans q, hne⟩, fun b hb => ?_⟩
    · rw [show ((i + 1 : Nat) : Int) = (i : Int) + 1 by omega]; exact he'
    · have hb' : b < s.heap.objs.size := by
        rcases (show b = e ∨ b = it by simpa using hb) with z | z
        · rw [z]; exact hel
        · rw [z]; exact hil
      rw [upd_ne (Nat.ne_of_lt hb')]
      exact (hf b hb).1
  done := by
    intro X hP hw hK hc i pins s σ H E I hf st hg
    subst hP hw hK
    obtain ⟨⟨old, he⟩, hit, hne⟩ := st
    obtain ⟨xs, hq, hx⟩ := hg
    obtain ⟨its, rv, pt, hz⟩ := I.tuple hq
    have ptu : s.heap.IsTuple a its.toArray := pt
    obtain ⟨f0, f1, f2, f3, f4, f5⟩ := hf it (by simp)
    have hl := rv.length
    have hT : s.TypeIs (.ref e) "enumerate" := ⟨_, he, rfl⟩
    unfold pyNext
    refine wpAny_bind (wpAny_attempt (wpAny_callSpecial?_slot (name := Str.ofString "__next__") hT PySem.F.slot_enumerate_next (wpAny_call_entry PySem.F.slot_enumerate_next hT PySem.F.entry_enumerate_next ?_ (PySem.F.args_enumerate_next_1 _))))
    show wpAny _ _ (field (.ref e) 2 >>= _) _ _ _
    refine wpAny_bind (wpAny_field he rfl (x := .ref it) rfl (wpAny_bind (wpAny_nextOf_tuple_end (I.ok.hd hc) hit ptu (by simp; omega) fun h' x he' hx' => ?_)))
    obtain ⟨o, ho, hcl⟩ := hx'
    refine wpAny_bind (wpAny_isInstance (T := "StopIteration") (b := true) ⟨o, ho, hcl⟩ isSubtype_stop (wpAny_pure ?_))
    exact ⟨rfl, I.turned (t' := s.toks) (fun b o hb q => he' b o hb q) f0 f1 f3 f4 f5⟩
  self := fun A i s Q E st h => let ⟨⟨_, he⟩, _⟩ := st; wpAny_pyIter_enum he h
def iEnumT (K : PySem.W.Frag) (ta : TA) : TI := fun σ H R => ta σ H fun vs H1 => ∃ a xs, vs = [.ref a] ∧ SqT K H1 a xs ∧ R (IteT K a) H1
theorem pi_enumT {X : Cx} {e : Expr} {ta : TA} {p pos tpos : Pos} {elts : List Expr} {kk : Nat} (hg : Gl X "enumerate") (hm : X.mg "enumerate" = none) (ha : PA X [e] ta) (hs : starEach [e] X.env = [(false, eval e X.env)] := by rfl) :
    PI X (.Tuple elts kk tpos) (.Call (.Name "enumerate" p) [e] [] pos) (iEnumT X.K ta) := by
  refine ⟨fun pins s σ H R I h => ?_⟩
  refine Call_ (ld_blt I hg hm boot_enumerate (PyProof.Rows.callWith_type1 (thn (ha.run pos pins s σ H _ I h) fun us s1 ⟨vs, H1, I1, r1, q1⟩ => ?_) hs rfl))
  obtain ⟨a, xs, ex, hq, q⟩ := q1
  subst ex
  cases r1 with
  | cons r rr =>
    cases rr
    cases r
    obtain ⟨its, rv, pt, hz⟩ := I1.tuple hq
    have ptu : s1.heap.IsTuple a its.toArray := pt
    have hal : a < s1.heap.objs.size := by obtain ⟨_, z, _⟩ := id ptu; exact Heap.lt_size z
    refine call_enumT ptu fun h' he hit hk => wpAny_pyIter_enum he ?_
    have I2 : Inv X pins σ H1 { s1 with heap := h' } := I1.kept (t' := s1.toks) hk
    refine ⟨s1.heap.objs.size + 1, [s1.heap.objs.size + 1, s1.heap.objs.size], _, _, H1, rfl, I2, turn_enumT a (s1.heap.objs.size + 1) s1.heap.objs.size (Nat.ne_of_lt hal) (Nat.ne_of_lt (Nat.lt_succ_of_lt hal)), ⟨⟨.none, he⟩, hit, Nat.succ_ne_self _⟩, fun b hb => ?_, q⟩
    have hle : s1.heap.objs.size ≤ b := by
      rcases (show b = s1.heap.objs.size + 1 ∨ b = s1.heap.objs.size by simpa using hb) with z | z
      · rw [z]; exact Nat.le_add_right _ _
      · rw [z]; exact Nat.le_refl _
    exact I1.fpOk hle (I1.hok.fresh hle)
section
variable {X : Cx} {cl : Str → Option Addr} {W : WX} {G : Gx}
theorem good_enumT {H0 : Hp} {ρ0 : Rho} {a : Addr} {vs : List V} {ds : List D} (hs : SqT G.K H0 a vs) (rs : RVs G H0 ρ0 ds vs) : Good (IteT G.K a) G (enumD 0 ds) ρ0 H0 := by
  intro H ρ mo i
  have hl := mo.tup _ _ hs
  have rs' := rs.mo mo
  refine ⟨fun d hd => ?_, fun hi => ⟨vs, hl, by rw [rs.length]; rw [enumD_len] at hi; exact hi⟩⟩
  rw [enumD_get] at hd
  cases e : ds[i]? with
  | none => rw [e] at hd; cases hd
  | some d0 =>
    rw [e] at hd
    cases hd
    obtain ⟨v, hv, rv⟩ := rs'.get e
    refine ⟨⟨vs, v, hl, hv⟩, fun x H' y ⟨M, S⟩ => ?_⟩
    obtain ⟨T, x', rfl, hT, rfl, y⟩ := y
    have e := y vs hl
    rw [hv] at e; cases e
    refine ⟨Ext.new S hT, fun M' S' => S'.new hT, .tup (SqT.of upd_same) (.cons ?_ (.one (rv.mono (Ext.new S hT))))⟩
    have e0 : ((0 + i : Nat) : Int) = (i : Nat) := by omega
    rw [e0]; exact .int _
/-- enumerate over a list or a tuple -/
def dEnumA (fa : DA) : DA := fun env M => (fa env M).bind fun ds M1 => match ds with
  | [.lst l] => .ok (enumD 0 l) M1
  | [.tup l] => .ok (enumD 0 l) M1
  | _ => .bad
theorem si_enumA {e : Expr} {fa : DA} {p pos tpos : Pos} {elts : List Expr} {kk : Nat} (hg : Gl X "enumerate") (hm : X.mg "enumerate" = none) (ha : SA X cl W [e] fa) (hs : starEach [e] X.env = [(false, eval e X.env)] := by rfl) :
    SI X cl W (.Tuple elts kk tpos) (.Call (.Name "enumerate" p) [e] [] pos) (dEnumA fa) :=
  PIweak (PI.or (pi_enum hg hm ha hs) (pi_enumT hg hm ha hs)) fun σ H R ⟨ρ, env, M, hE, hS, h⟩ => by
    have h' := post_bind h
    cases hf : fa env M with
    | bad => rw [hf] at h'; exact h'.elim
    | exc e ev M1 => exact .inl ⟨ρ, env, M, hE, hS, by rw [hf] at h' ⊢; exact h'⟩
    | ok ds M1 =>
      rw [hf] at h'
      change (match ds with
        | [.lst l] => Out.ok (enumD 0 l) M1
        | [.tup l] => .ok (enumD 0 l) M1
        | _ => .bad).post _ _ at h'
      split at h'
      · exact .inl ⟨ρ, env, M, hE, hS, by
          rw [hf]
          intro ρ1 vs H1 e1 S1 r1
          cases r1 with
          | cons q1 q2 =>
            cases q2
            cases q1 with
            | lst hs hn rs => exact ⟨_, _, rfl, SqL.of hs, h' ρ1 H1 _ e1 S1 (good_enum (G := gx X cl) hs hn rs)⟩⟩
      · exact .inr ⟨ρ, env, M, hE, hS, by
          rw [hf]
          intro ρ1 vs H1 e1 S1 r1
          cases r1 with
          | cons q1 q2 =>
            cases q2
            cases q1 with
            | tup hs rs => exact ⟨_, _, rfl, hs, h' ρ1 H1 _ e1 S1 (good_enumT (G := gx X cl) hs rs)⟩⟩
      · exact h'.elim
end
end Ip
end
section
set_option Elab.async false
set_option linter.all false
set_option maxRecDepth 100000
set_option maxHeartbeats 4000000
set_option autoImplicit false
namespace Ip
open PySem PyProof.Rows L2
section
variable {X : Cx} {cl : Str → Option Addr} {W : WX} {G : Gx}
theorem se_cval {x f : Str} {C : Addr} {mc : Value} {v : V} {u : Value} {d : D} {p pos : Pos} (hg : Gl X x) (hm : X.mg x = some (.ref C)) (r : ClX.CRead X.K C mc) (c : ClX.CVal X.K C mc f v u) (hr : ∀ H ρ, RV (gx X cl) H ρ d v)
    (hd : (x == ("__debug__" : Str)) = false := by decide) (hb : attributeBase (.Name x p) f X.env (eval (.Name x p) X.env) = eval (.Name x p) X.env := by rfl) : SE X cl W (.Attribute (.Name x p) f pos) (dC d) :=
  PEweak (ClX.pe_cval (pe_glob (v := .ref C) hg hm rfl hd) hb) fun σ H Q ⟨ρ, env, M, hE, hS, q⟩ => ⟨C, mc, v, u, rfl, r, c, q ρ v H .refl hS (hr H ρ)⟩
/-- a call's own cells go but one, the list that it returns -/
def frzCO (k : Nat) (d : D) (M1 : Sto) : Out D := match d with
  | .ref n => if k ≤ n then match M1[n]? with
      | some (.lst ds) => if closedAll k ds && (M1.take k).all (cellClosed k) then .ok (.ref k) (M1.take k ++ [.lst ds]) else .bad
      | _ => .bad
    else .bad
  | _ => .bad
theorem at_last {l : List Addr} {a : Addr} {n : Nat} (h : l.length = n) : (l ++ [a])[n]? = some a := by subst h; simp
def frzC (F : DF) : DF := fun ds M => (F ds M).bind fun d M1 => frzCO M.length d M1
theorem cutAdd_sub {ρ : Rho} {k : Nat} {a b : Addr} (ha : a ∈ ρ) (h : b ∉ ρ) : b ∉ (ρ.cut k).add a := fun z => by
  rcases z with z | z
  · rcases List.mem_append.mp z with z | z
    · exact Rho.cut_sub (k := k) h (.inl z)
    · exact h (by rw [show b = a by simpa using z]; exact ha)
  · exact h (.inr z)
mutual
theorem RV.cutAdd {H : Hp} {ρ : Rho} {k : Nat} {a : Addr} (ha : a ∈ ρ) : ∀ {d : D} {v : V}, RV G H ρ d v → closed k d = true → RV G H ((ρ.cut k).add a) d v
  | _, _, .non, _ => .non
  | _, _, .bl b, _ => .bl b
  | _, _, .int i, _ => .int i
  | _, _, .str s, _ => .str s
  | _, _, .ty s, _ => .ty s
  | _, _, .tup h r, c => .tup h (RVs.cutAdd ha r (by simpa [closed] using c))
  | _, _, .lst h n r, c => .lst h (cutAdd_sub ha n) (RVs.cutAdd ha r (by simpa [closed] using c))
  | _, _, .scr h, _ => .scr (h.elim (fun z => .inl ⟨z.1, cutAdd_sub ha z.2⟩) .inr)
  | _, _, .ref (n := n) (a := b) h, c => .ref (by
      have c' : n < k := by simpa [closed] using c
      show ((ρ.c.take k) ++ [a])[n]? = some b
      have hl : n < (ρ.c.take k).length := by
        have := (List.getElem?_eq_some_iff.mp h).1
        rw [List.length_take]; omega
      rw [List.getElem?_append_left hl, List.getElem?_take_of_lt c']; exact h)
  | _, _, .obj c h l n r, z => .obj c h l (cutAdd_sub ha n) (RVs.cutAdd ha r (by simpa [closed] using z))
  | _, _, .cls h, _ => .cls h
theorem RVs.cutAdd {H : Hp} {ρ : Rho} {k : Nat} {a : Addr} (ha : a ∈ ρ) : ∀ {ds : List D} {vs : List V}, RVs G H ρ ds vs → closedAll k ds = true → RVs G H ((ρ.cut k).add a) ds vs
  | _, _, .nil, _ => .nil
  | _, _, .cons p q, c => by
    simp only [closedAll, Bool.and_eq_true] at c
    exact .cons (RV.cutAdd ha p c.1) (RVs.cutAdd ha q c.2)
end
theorem frzCO_ok {H : Hp} {ρ : Rho} {M M1 : Sto} {d : D} {Q : VK} {E : Exn → En → Sto → Prop} (S : RS G H ρ M) (h : (frzCO M.length d M1).post (oP G H ρ Q) E) : oP G H ρ Q d M1 := by
  unfold frzCO at h
  split at h
  · rename_i n
    split at h
    · rename_i hkn
      split at h
      · rename_i ds hm
        split at h
        · rename_i hc
          rw [Bool.and_eq_true] at hc
          intro ρ1 v H1 e1 S1 r1
          cases r1 with
          | ref hn =>
            rename_i a
            obtain ⟨b, hb, vs, ea, rs⟩ := S1.at_ _ _ hm
            rw [hn] at hb; cases hb
            have Sc := S1.cut (k := M.length) hc.2
            have xc : Ext G H ρ H1 (ρ1.cut M.length) := Ext.cut (M' := M1) S e1
            have na : a ∉ ρ1.cut M.length := cut_notin S1 hkn hn
            have lc : (ρ1.cut M.length).c.length = M.length := by
              have l1 : M.length ≤ ρ1.c.length := by
                have q : M.length ≤ n := hkn
                have := (List.getElem?_eq_some_iff.mp hn).1
                omega
              show (ρ1.c.take M.length).length = _
              rw [List.length_take]; omega
            have ml : (M1.take M.length).length = M.length := by rw [← Sc.len, lc]
            refine h ((ρ1.cut M.length).add a) _ H1 ⟨fun m c z => ?_, xc.res, xc.same, xc.tup, fun c o z1 nt z2 => ⟨(xc.keep c o z1 nt z2).1, fun w => ?_⟩⟩ ?_ (.ref ?_)
            · show ((ρ1.cut M.length).c ++ [a])[m]? = some c
              rw [List.getElem?_append_left (List.getElem?_eq_some_iff.mp (xc.pre m c z)).1]; exact xc.pre m c z
            · have hnot := (e1.keep c o z1 nt z2).2
              rcases w with w | w
              · rcases List.mem_append.mp w with w | w
                · exact (xc.keep c o z1 nt z2).2 (.inl w)
                · have : c = a := by simpa using w
                  exact hnot (by rw [this]; exact .inl (List.mem_of_getElem? hn))
              · exact (xc.keep c o z1 nt z2).2 (.inr w)
            · have rcut : RVs G H1 (ρ1.cut M.length) ds vs := rs.cut hc.1
              refine ⟨?_, ?_, fun c hcm hct => ?_, Sc.trt, fun m c hmc => ?_, Sc.tb⟩
              · show ((ρ1.cut M.length).c ++ [a]).length = _
                simp [lc, ml]
              · refine List.nodup_append.mpr ⟨Sc.nd, by simp, fun x hx y hy => ?_⟩
                have : y = a := by simpa using hy
                rw [this]
                exact fun z => na (by rw [← z]; exact .inl hx)
              · rcases List.mem_append.mp hcm with w | w
                · exact Sc.dis c w hct
                · have : c = a := by simpa using w
                  exact na (by rw [← this]; exact .inr hct)
              · -- the cells' contents do not speak of a
                have moc : ∀ {es : List D} {ws : List V}, RVs G H1 ρ1 es ws → closedAll M.length es = true → RVs G H1 ((ρ1.cut M.length).add a) es ws := fun {es ws} r c0 => RVs.cutAdd (.inl (List.mem_of_getElem? hn)) r c0
                by_cases hm0 : m < M.length
                · have hmt : (M1.take M.length)[m]? = some c := by
                    rw [List.getElem?_append_left (by rw [ml]; exact hm0)] at hmc; exact hmc
                  have hcc : cellClosed M.length c = true := List.all_eq_true.mp hc.2 c (List.mem_of_getElem? hmt)
                  rw [List.getElem?_take_of_lt hm0] at hmt
                  obtain ⟨b, hb, q⟩ := S1.at_ m c hmt
                  refine ⟨b, ?_, ?_⟩
                  · show ((ρ1.c.take M.length) ++ [a])[m]? = some b
                    rw [List.getElem?_append_left (by rw [show (ρ1.c.take M.length).length = M.length from lc]; exact hm0), List.getElem?_take_of_lt hm0]; exact hb
                  · cases c with
                    | lst es => obtain ⟨ws, ew, rw'⟩ := q; exact ⟨ws, ew, moc rw' hcc⟩
                    | ins c ks es => obtain ⟨C, dx, ws, e0, ew, l, rw'⟩ := q; exact ⟨C, dx, ws, e0, ew, l, moc rw' hcc⟩
                · have em : m = M.length := by
                    have := (List.getElem?_eq_some_iff.mp hmc).1
                    simp [ml] at this; omega
                  subst em
                  have ec : c = .lst ds := by
                    rw [List.getElem?_append_right (by rw [ml]; exact Nat.le_refl _)] at hmc
                    simp [ml] at hmc
                    exact hmc.symm
                  subst ec
                  refine ⟨a, ?_, vs, ea, moc rs hc.1⟩
                  show ((ρ1.cut M.length).c ++ [a])[M.length]? = some a
                  exact at_last lc
            · show ((ρ1.cut M.length).c ++ [a])[M.length]? = some a
              exact at_last lc
        · exact h.elim
      · exact h.elim
    · exact h.elim
  · exact h.elim
theorem fn_frzC {P : Program} {w : World} {K : PySem.W.Frag} {mg : Str → Option Value} {base : Heap} {k : Nat} {f : Addr} {fd : FuncData} {ps : List Str} {G : Gx} {F : DF} (h : FnOk P w K mg base CX0 k f fd ps (spD G F)) : FnOk P w K mg base CX0 k f fd ps (spD G (frzC F)) :=
  h.imp fun _ _ _ _ ⟨ρ, M, ds, S, r, z⟩ => ⟨ρ, M, ds, S, r, (post_bind z).imp (fun d M1 hx => frzCO_ok S hx) (fun _ _ _ y => y)⟩
end
end Ip
end
section
set_option Elab.async false
set_option linter.all false
set_option maxRecDepth 100000
set_option maxHeartbeats 4000000
set_option autoImplicit false
namespace Ip
open PySem PyProof.Rows L2
/-! ### loops over what may be a cell -/
def celL (o : Option Cell) : Option (List D) := match o with
  | some (.lst l) => some l
  | _ => none
inductive Src where
  | items (l : List D) | cell (n : Nat) | ecell (n : Nat)
def Src.at_ : Src → Nat → Sto → Option (Option D)
  | .items l, i, _ => some l[i]?
  | .cell n, i, M => (celL M[n]?).map fun l => l[i]?
  | .ecell n, i, M => (celL M[n]?).map fun l => (l[i]?).map fun d => .tup [.int (i : Nat), d]
def Good2 (J : It) (G : Gx) (src : Src) (ρ0 : Rho) (H0 : Hp) : Prop := ∀ (H : Hp) (ρ : Rho) (M : Sto), Mo G H0 ρ0 H ρ → RS G H ρ M → ∀ i : Nat,
  (∀ d, src.at_ i M = some (some d) → J.go i H ∧ ∀ x H', J.yld i H x H' → Ext G H ρ H' ρ ∧ RS G H' ρ M ∧ RV G H' ρ d x) ∧ (src.at_ i M = some none → J.stop i H)
abbrev DI := En → Sto → Out Src
def dI2 (G : Gx) (W : WX) (f : DI) : TI := fun σ H R => ∃ ρ env M, RE G H ρ env σ ∧ RS G H ρ M ∧ (f env M).post (fun src M' => ∀ ρ' H' J, Ext G H ρ H' ρ' → RS G H' ρ' M' → Good2 J G src ρ' H' → R J H') (eP G W H ρ)
def SI2 (X : Cx) (cl : Str → Option Addr) (W : WX) (tg iter : Expr) (f : DI) : Prop := PI X tg iter (dI2 (gx X cl) W f)
def forS (t : DG) (fb : DS) (src : Src) : Nat → Nat → DS
  | 0, _, _, _ => .bad
  | f + 1, i, env, M => match src.at_ i M with
    | none => .bad
    | some none => .ok (.nx env) M
    | some (some d) => match t d env with
      | none => .bad
      | some env1 => (fb env1 M).bind fun fl M1 => match fl with
        | .nx e => forS t fb src f (i + 1) e M1
        | .ct e => forS t fb src f (i + 1) e M1
        | .bk e => .ok (.nx e) M1
        | .rt d => .ok (.rt d) M1
def dForS (t : DG) (fi : DI) (fb : DS) : DS := fun env M => (fi env M).bind fun src M1 => forS t fb src 20000000 0 env M1
section
variable {X : Cx} {cl : Str → Option Addr} {W : WX} {G : Gx}
theorem ss_forS {tg iter : Expr} {body : List Stmt} {t : DG} {fi : DI} {fb : DS} {pos : Pos} (hp : PassesOwn (model X.prog X.w) X.A X.env X.xe) (hc : X.calm = true) (hi : SI2 X cl W tg iter fi) (hg : SG X cl tg t) (hb : SSs X cl W body fb)
    (hs : ∀ x, foldedSetIterable iter X.env x = pure x := by intro _; rfl) : SS X cl W (.For tg iter body [] pos) (dForS t fi fb) :=
  PSweak (ps_for hp hc hi hg hb hs) fun D σ H ⟨ρ, env, M, hE, hS, h⟩ => by
    refine ⟨ρ, env, M, hE, hS, (post_bind h).imp (fun src M1 hx ρ1 H1 J e1 S1 good => ?_) (fun _ _ _ z => z)⟩
    refine ⟨fun i m σ H => ∃ ρ env M, Ext (gx X cl) H1 ρ1 H ρ ∧ RE (gx X cl) H ρ env σ ∧ RS (gx X cl) H ρ M ∧ (forS t fb src m i env M).post (sP (gx X cl) H ρ D) (eP (gx X cl) W H ρ),
      ⟨20000000, ρ1, env, M1, .refl, hE.mono e1, S1, Out.post.imp hx (fun _ _ z => sP.sh e1 z) (fun _ _ _ z => eP.sh e1 z)⟩, ?_⟩
    rintro i m σ' H' ⟨ρ', env', M', x1, E', S', q⟩
    obtain ⟨g1, g2⟩ := good H' ρ' M' x1.mo S' i
    cases m with
    | zero => exact q.elim
    | succ m =>
      unfold forS at q
      split at q
      · exact q.elim
      · rename_i hat
        exact .inl ⟨g2 hat, q ρ' σ' H' .refl S' E'⟩
      · rename_i d hat
        obtain ⟨go, yl⟩ := g1 d hat
        refine .inr ⟨go, fun σ H => ∃ ρ env M, Ext (gx X cl) H1 ρ1 H ρ ∧ RE (gx X cl) H ρ env σ ∧ RS (gx X cl) H ρ M ∧ (forS t fb src m (i + 1) env M).post (sP (gx X cl) H ρ D) (eP (gx X cl) W H ρ),
          fun σ2 H2 n2 => ⟨m, Nat.lt_succ_self _, n2⟩, fun x H2 y => ?_⟩
        obtain ⟨x2, rs2, r2⟩ := yl x H2 y
        split at q
        · exact q.elim
        · rename_i env1 he1
          refine ⟨ρ', env', d, env1, E'.mono x2, r2, he1, fun σ3 E3 => ?_⟩
          refine ⟨ρ', env1, M', E3, rs2, (post_bind q).imp (fun fl M4 h4 => ?_) (fun _ _ _ z => eP.sh x2 z)⟩
          cases fl with
          | nx e => exact fun ρ5 σ5 H5 x5 S5 E5 => ⟨ρ5, e, M4, x1.trans (x2.trans x5), E5, S5, Out.post.imp h4 (fun _ _ z => sP.sh (x2.trans x5) z) (fun _ _ _ z => eP.sh (x2.trans x5) z)⟩
          | ct e => exact fun ρ5 σ5 H5 x5 S5 E5 => ⟨ρ5, e, M4, x1.trans (x2.trans x5), E5, S5, Out.post.imp h4 (fun _ _ z => sP.sh (x2.trans x5) z) (fun _ _ _ z => eP.sh (x2.trans x5) z)⟩
          | bk e => exact nP.sh x2 h4
          | rt d => exact oP.sh x2 h4
theorem good2_of {J : It} {l : List D} {ρ0 : Rho} {H0 : Hp} (g : Good J G l ρ0 H0) : Good2 J G (.items l) ρ0 H0 := fun H ρ M mo S i => by
  obtain ⟨g1, g2⟩ := g H ρ mo i
  refine ⟨fun d hd => ?_, fun hn => g2 ?_⟩
  · obtain ⟨go, yl⟩ := g1 d (Option.some.inj hd)
    exact ⟨go, fun x H' y => let ⟨a, b, c⟩ := yl x H' y ⟨M, S⟩; ⟨a, b M S, c⟩⟩
  · exact List.getElem?_eq_none_iff.mp (Option.some.inj hn)
theorem cell_at {H : Hp} {ρ : Rho} {M : Sto} {n : Nat} {a : Addr} {l : List D} (S : RS G H ρ M) (ha : ρ.c[n]? = some a) (h : celL M[n]? = some l) : ∃ vs, H a = some (.lst vs) ∧ RVs G H ρ l vs := by
  cases e : M[n]? with
  | none => rw [e] at h; cases h
  | some c =>
    rw [e] at h
    cases c with
    | lst l' =>
      cases h
      obtain ⟨b, hb, vs, q, r⟩ := S.at_ _ _ e
      rw [ha] at hb; cases hb
      exact ⟨vs, q, r⟩
    | ins _ _ _ => cases h
theorem good2_cell {ρ0 : Rho} {H0 : Hp} {n : Nat} {a : Addr} (ha : ρ0.c[n]? = some a) : Good2 (Itl G.K a) G (.cell n) ρ0 H0 := fun H ρ M mo S i => by
  have ha' := mo.pre n a ha
  refine ⟨fun d hd => ?_, fun hn => ?_⟩
  · have hd' : (celL M[n]?).map (fun l => l[i]?) = some (some d) := hd
    cases e : celL M[n]? with
    | none => rw [e] at hd'; cases hd'
    | some l =>
      rw [e] at hd'
      have hi : l[i]? = some d := Option.some.inj hd'
      obtain ⟨vs, hv, rs⟩ := cell_at S ha' e
      obtain ⟨v, hvi, rv⟩ := rs.get hi
      refine ⟨⟨vs, v, SqL.of hv, hvi⟩, fun x H' y => ?_⟩
      obtain ⟨rfl, y⟩ := y
      have q := y vs (SqL.of hv)
      rw [hvi] at q; cases q
      exact ⟨.refl, S, rv⟩
  · have hn' : (celL M[n]?).map (fun l => l[i]?) = some none := hn
    cases e : celL M[n]? with
    | none => rw [e] at hn'; cases hn'
    | some l =>
      rw [e] at hn'
      have hi : l[i]? = none := Option.some.inj hn'
      obtain ⟨vs, hv, rs⟩ := cell_at S ha' e
      exact ⟨vs, SqL.of hv, by rw [rs.length]; exact List.getElem?_eq_none_iff.mp hi⟩
theorem good2_ecell {ρ0 : Rho} {H0 : Hp} {n : Nat} {a : Addr} (ha : ρ0.c[n]? = some a) : Good2 (Ite G.K a) G (.ecell n) ρ0 H0 := fun H ρ M mo S i => by
  have ha' := mo.pre n a ha
  refine ⟨fun d hd => ?_, fun hn => ?_⟩
  · have hd' : (celL M[n]?).map (fun l => (l[i]?).map fun d => D.tup [.int (i : Nat), d]) = some (some d) := hd
    cases e : celL M[n]? with
    | none => rw [e] at hd'; cases hd'
    | some l =>
      rw [e] at hd'
      have hi : (l[i]?).map (fun d => D.tup [.int (i : Nat), d]) = some d := Option.some.inj hd'
      cases e2 : l[i]? with
      | none => rw [e2] at hi; cases hi
      | some d0 =>
        rw [e2] at hi; cases hi
        obtain ⟨vs, hv, rs⟩ := cell_at S ha' e
        obtain ⟨v, hvi, rv⟩ := rs.get e2
        refine ⟨⟨vs, v, SqL.of hv, hvi⟩, fun x H' y => ?_⟩
        obtain ⟨T, x', rfl, hT, rfl, y⟩ := y
        have q := y vs (SqL.of hv)
        rw [hvi] at q; cases q
        exact ⟨Ext.new S hT, S.new hT, .tup (SqT.of upd_same) (.cons (.int _) (.one (rv.mono (Ext.new S hT))))⟩
  · have hn' : (celL M[n]?).map (fun l => (l[i]?).map fun d => D.tup [.int (i : Nat), d]) = some none := hn
    cases e : celL M[n]? with
    | none => rw [e] at hn'; cases hn'
    | some l =>
      rw [e] at hn'
      have hi : (l[i]?).map (fun d => D.tup [.int (i : Nat), d]) = none := Option.some.inj hn'
      have hi' : l[i]? = none := by
        cases e2 : l[i]? with
        | none => rfl
        | some d0 => rw [e2] at hi; cases hi
      obtain ⟨vs, hv, rs⟩ := cell_at S ha' e
      exact ⟨vs, SqL.of hv, by rw [rs.length]; exact List.getElem?_eq_none_iff.mp hi'⟩
def srcD (x : D) (M : Sto) : Option Src := match x with
  | .ref n => (celL M[n]?).map fun _ => .cell n
  | x => (iterD x).map .items
def dIter2 (fe : DE) : DI := fun env M => (fe env M).bind fun x M1 => match srcD x M1 with
  | some s => .ok s M1
  | none => .bad
theorem si2_iter {tg e : Expr} {fe : DE} (he : SE X cl W e fe) : SI2 X cl W tg e (dIter2 fe) :=
  PIweak (PI.or (pi_list he) (pi_tup he)) fun σ H R ⟨ρ, env, M, hE, hS, h⟩ => by
    have h' := post_bind h
    cases hf : fe env M with
    | bad => rw [hf] at h'; exact h'.elim
    | exc e ev M1 => exact .inl ⟨ρ, env, M, hE, hS, by rw [hf] at h' ⊢; exact h'⟩
    | ok d M1 =>
      rw [hf] at h'
      cases d with
      | lst l => exact .inl ⟨ρ, env, M, hE, hS, by
          rw [hf]
          intro ρ1 v H1 e1 S1 r1
          cases r1 with
          | lst hs hn rs => exact ⟨_, rfl, ⟨_, SqL.of hs⟩, h' ρ1 H1 _ e1 S1 (good2_of (good_lst (G := gx X cl) hs hn rs))⟩⟩
      | scr ns => exact .inl ⟨ρ, env, M, hE, hS, by
          rw [hf]
          intro ρ1 v H1 e1 S1 r1
          cases r1 with
          | scr hs =>
            refine ⟨_, rfl, ⟨ns.map V.int, ?_⟩, h' ρ1 H1 _ e1 S1 (good2_of (good_scr (G := gx X cl) hs))⟩
            rcases hs with ⟨h, _⟩ | h
            · exact .inl h
            · exact h H1⟩
      | tup l => exact .inr ⟨ρ, env, M, hE, hS, by
          rw [hf]
          intro ρ1 v H1 e1 S1 r1
          cases r1 with
          | tup hs rs => exact ⟨_, rfl, ⟨_, hs⟩, h' ρ1 H1 _ e1 S1 (good2_of (good_tup (G := gx X cl) hs rs))⟩⟩
      | ref n =>
        change (match (celL M1[n]?).map (fun _ => Src.cell n) with
          | some s => Out.ok s M1
          | none => .bad).post _ _ at h'
        cases hc : celL M1[n]? with
        | none => rw [hc] at h'; exact h'.elim
        | some l =>
          rw [hc] at h'
          exact .inl ⟨ρ, env, M, hE, hS, by
            rw [hf]
            intro ρ1 v H1 e1 S1 r1
            cases r1 with
            | ref ha =>
              obtain ⟨vs, hv, _⟩ := cell_at S1 ha hc
              exact ⟨_, rfl, ⟨_, SqL.of hv⟩, h' ρ1 H1 _ e1 S1 (good2_cell (G := gx X cl) ha)⟩⟩
      | _ => exact h'.elim
def esrcD (x : D) (M : Sto) : Option Src := match x with
  | .ref n => (celL M[n]?).map fun _ => .ecell n
  | .lst l => some (.items (enumD 0 l))
  | .tup l => some (.items (enumD 0 l))
  | _ => none
def dEnum2 (fe : DE) : DI := fun env M => (fe env M).bind fun x M1 => match esrcD x M1 with
  | some s => .ok s M1
  | none => .bad
theorem si2_enum {e : Expr} {fe : DE} {p pos tpos : Pos} {elts : List Expr} {kk : Nat} (hg : Gl X "enumerate") (hm : X.mg "enumerate" = none) (he : SE X cl W e fe) (hst : starEach [e] X.env = (false, eval e X.env) :: starEach [] X.env := by rfl) (hs : starEach [e] X.env = [(false, eval e X.env)] := by rfl) :
    SI2 X cl W (.Tuple elts kk tpos) (.Call (.Name "enumerate" p) [e] [] pos) (dEnum2 fe) :=
  PIweak (PI.or (pi_enum hg hm (sa_cons (cl := cl) (W := W) he sa_nil hst) hs) (pi_enumT hg hm (sa_cons (cl := cl) (W := W) he sa_nil hst) hs)) fun σ H R ⟨ρ, env, M, hE, hS, h⟩ => by
    have h' := post_bind h
    cases hf : fe env M with
    | bad => rw [hf] at h'; exact h'.elim
    | exc e ev M1 => exact .inl ⟨ρ, env, M, hE, hS, by unfold dConsA; rw [hf] at h' ⊢; exact h'⟩
    | ok d M1 =>
      rw [hf] at h'
      have fa : dConsA fe dNilA env M = .ok [d] M1 := by unfold dConsA; rw [hf]; rfl
      cases d with
      | lst l => exact .inl ⟨ρ, env, M, hE, hS, by
          rw [fa]
          intro ρ1 vs H1 e1 S1 r1
          cases r1 with
          | cons q1 q2 =>
            cases q2
            cases q1 with
            | lst hs hn rs => exact ⟨_, _, rfl, SqL.of hs, h' ρ1 H1 _ e1 S1 (good2_of (good_enum (G := gx X cl) hs hn rs))⟩⟩
      | tup l => exact .inr ⟨ρ, env, M, hE, hS, by
          rw [fa]
          intro ρ1 vs H1 e1 S1 r1
          cases r1 with
          | cons q1 q2 =>
            cases q2
            cases q1 with
            | tup hs rs => exact ⟨_, _, rfl, hs, h' ρ1 H1 _ e1 S1 (good2_of (good_enumT (G := gx X cl) hs rs))⟩⟩
      | ref n =>
        change (match (celL M1[n]?).map (fun _ => Src.ecell n) with
          | some s => Out.ok s M1
          | none => .bad).post _ _ at h'
        cases hc : celL M1[n]? with
        | none => rw [hc] at h'; exact h'.elim
        | some l =>
          rw [hc] at h'
          exact .inl ⟨ρ, env, M, hE, hS, by
            rw [fa]
            intro ρ1 vs H1 e1 S1 r1
            cases r1 with
            | cons q1 q2 =>
              cases q2
              cases q1 with
              | ref ha =>
                obtain ⟨ws, hv, _⟩ := cell_at S1 ha hc
                exact ⟨_, _, rfl, SqL.of hv, h' ρ1 H1 _ e1 S1 (good2_ecell (G := gx X cl) ha)⟩⟩
      | _ => exact h'.elim
end
/-- a loop by its invariant -/
theorem forS_inv {t : DG} {fb : DS} {src : Src} (n : Nat) (P : Nat → En → Sto → Prop) (hend : ∀ env M, P n env M → src.at_ n M = some none)
    (hstep : ∀ i env M, i < n → P i env M → ∃ d env1 env' M', src.at_ i M = some (some d) ∧ t d env = some env1 ∧ fb env1 M = .ok (.nx env') M' ∧ P (i + 1) env' M') :
    ∀ (k i f : Nat) (env : En) (M : Sto), i + k = n → k < f → P i env M → ∃ env' M', forS t fb src f i env M = .ok (.nx env') M' ∧ P n env' M'
  | 0, i, f + 1, env, M, hi, _, hP => by
    have : i = n := by omega
    subst this
    refine ⟨env, M, ?_, hP⟩
    unfold forS
    rw [hend env M hP]
  | k + 1, i, f + 1, env, M, hi, hf, hP => by
    obtain ⟨d, env1, env', M', h1, h2, h3, h4⟩ := hstep i env M (by omega) hP
    obtain ⟨e2, M2, h5, h6⟩ := forS_inv n P hend hstep k (i + 1) f env' M' (by omega) (by omega) h4
    refine ⟨e2, M2, ?_, h6⟩
    unfold forS
    rw [h1]
    simp only [h2, h3, Out.bind]
    exact h5
  | _, _, 0, _, _, _, h, _ => absurd h (by omega)
end Ip
end
section
set_option Elab.async false
set_option linter.all false
set_option maxRecDepth 100000
set_option maxHeartbeats 4000000
set_option autoImplicit false
namespace Ip
open PySem PySem.Spec PyProof.Rows L2
/-! ### properties, class methods, a class held by a name, two targets -/
def dProp (c : Str) (F : DF) (fe : DE) : DE := fun env M => (fe env M).bind fun x M1 => match objOf c x M1 with
  | some _ => noex (F [x] M1)
  | none => .bad
section
variable {X : Cx} {cl : Str → Option Addr} {W : WX} {G : Gx}
theorem se_prop {c f : Str} {C p g : Addr} {k : Nat} {fd : FuncData} {ps : List Str} {F : DF} {e : Expr} {fe : DE} {pos : Pos} (hC : cl c = some C) (he : SE X cl W e fe) (kc : Cls X.K C) (hp : PropOf X.K C f p g) (Fk : FnOk X.prog X.w X.K X.mg X.base CX0 k g fd ps (spD (gx X cl) F)) (hr : Room (k + 1) X.A) (hb : Binds X.K fd ps []) (hab : attributeBase e f X.env (eval e X.env) = eval e X.env := by rfl) : SE X cl W (.Attribute e f pos) (dProp c F fe) :=
  PEweak (pe_prop he kc hp Fk hr hb .nil (E := E0) pass0 hab) fun σ H Q ⟨ρ, env, M, hE, hS, h⟩ => by
    refine ⟨ρ, env, M, hE, hS, (post_bind h).imp (fun x M1 hx ρ1 v H1 e1 S1 r1 => ?_) (fun _ _ _ z => z)⟩
    split at hx
    · rename_i p hp
      obtain ⟨ks, ds⟩ := p
      obtain ⟨a, dx, vs, rfl, ha, hl, rs⟩ := objOf_ok (G := gx X cl) hC S1 r1 hp
      exact ⟨a, dx, _, rfl, ha, ρ1, M1, [x], S1, .one r1, (noexF hx).imp (fun _ _ z => oP.sh e1 z) (fun _ _ _ z => z)⟩
    · exact hx.elim
def tCMeth0 (C : Addr) (sp : Sp) (E : XK) (ta : TE) : TE := fun σ H Q => ta σ H fun x H1 => x = .ref C ∧ sp [.ref C] H1 Q E
theorem pe_cmeth0 {CX : CXT} {k : Nat} {C p g : Addr} {mc : Value} {fd : FuncData} {ps : List Str} {sp : Sp} {E : XK} {o : Expr} {m : Str} {pos apos : Pos} {ta : TE} {pl : Sem Bool} (he : PE X o ta) (r : ClX.CRead X.K C mc) (c : ClX.CMet X.K C mc m p g) (F : FnOk X.prog X.w X.K X.mg X.base CX k g fd ps sp) (hr : Room k X.A) (hb : Binds X.K fd ps []) (hx : Passes CX X E)
    (ht : eval (.Call (.Attribute o m apos) [] [] pos) X.env = (do
      let ov ← eval o X.env
      standAt apos.atName
      let (f, first) ← holding [ov] (getMethod ov m pl)
      callWith pos f first (backTo pos (starEach [] X.env)) (backToKw pos (keywordEach [] X.env))) := by rfl) :
    PE X (.Call (.Attribute o m apos) [] [] pos) (tCMeth0 C sp E ta) := by
  refine ⟨fun pins s σ H Q I h => ?_⟩
  refine PySem.W.methodCall_KW (pl := pl) (thn (he.run pins s σ H _ I h) fun u s1 ⟨x, H1, I1, rx, ex, q⟩ => ?_) ht
  subst ex
  obtain rfl : u = Value.ref C := rx
  refine ClX.getmethcm_ok I1 r c fun s2 I2 => ?_
  refine PySem.W.callWith_M0 (g := g) (self := .ref C) ⟨ClX.pin_at I2, I2.kIn⟩ c.fi ?_
  exact ClX.run_cm (us := []) (vs := []) (F.raw hb .nil) hr hx I2 .nil q
/-- C.m() -/
def dCMeth (c : Str) (F : DF) : DE := fun _ M => noex (F [.cls c] M)
theorem se_cmeth0 {c x : Str} {k : Nat} {C p g : Addr} {mc : Value} {fd : FuncData} {ps : List Str} {F : DF} {m : Str} {pos apos npos : Pos} {pl : Sem Bool} (hC : cl c = some C) (hg : Gl X x) (hm : X.mg x = some (.ref C)) (r : ClX.CRead X.K C mc) (cm : ClX.CMet X.K C mc m p g) (Fk : FnOk X.prog X.w X.K X.mg X.base CX0 k g fd ps (spD (gx X cl) F)) (hr : Room k X.A) (hb : Binds X.K fd ps []) (hd : (x == ("__debug__" : Str)) = false := by decide)
    (ht : eval (.Call (.Attribute (.Name x npos) m apos) [] [] pos) X.env = (do
      let ov ← eval (.Name x npos) X.env
      standAt apos.atName
      let (f, first) ← holding [ov] (getMethod ov m pl)
      callWith pos f first (backTo pos (starEach [] X.env)) (backToKw pos (keywordEach [] X.env))) := by rfl) :
    SE X cl W (.Call (.Attribute (.Name x npos) m apos) [] [] pos) (dCMeth c F) :=
  PEweak (pe_cmeth0 (E := E0) (pe_glob (v := .ref C) hg hm rfl hd) r cm Fk hr hb pass0 ht) fun σ H Q ⟨ρ, env, M, hE, hS, h⟩ =>
    ⟨rfl, ρ, M, [.cls c], hS, .one (.cls hC), (noexF h).imp (fun _ _ z => z) (fun _ _ _ z => z)⟩
/-- x(..), x a local name that holds a class -/
def tMakeV (i : Nat) (C : Addr) (t : TE) : TE := fun σ H Q => σ[i]? = some (some (.ref C)) ∧ t σ H Q
theorem pe_makeV {CX : CXT} {k i : Nat} {f C : Addr} {fd : FuncData} {ps : List Str} {ds : List Value} {dvs : List V} {sp : Sp} {E : XK} {x : Str} {p pos : Pos} {e : Expr} {es : List Expr} {t : TA} (M : Mk X.K C f) (F : FnOk X.prog X.w X.K X.mg X.base CX k f fd ps sp) (hr : Room (k + 1) X.A) (hN : X.N[i]? = some x) (hv : Vis X.env.scope x) (hb : Binds X.K fd ps ds) (hd : Vals dvs ds) (hx : Passes CX X E)
    (ha : PA X (e :: es) t) (hdb : (x == ("__debug__" : Str)) = false := by decide) (hcd : (x == ("__classdict__" : Str)) = false := by decide) (he : starEach (e :: es) X.env = (false, eval e X.env) :: starEach es X.env := by rfl) (hpl : (backTo pos (starEach es X.env)).any (·.1) = false := by rfl) :
    PE X (.Call (.Name x p) (e :: es) [] pos) (tMakeV i C (tMake C sp dvs E t)) := by
  refine ⟨fun pins s σ H Q I h => ?_⟩
  obtain ⟨hs, h⟩ := h
  refine wpAny_Call_Name_kw (thn ((pe_var (pos := p) hN hv hdb hcd).run pins s σ H (fun v H1 => v = .ref C ∧ H1 = H) I ⟨.ref C, hs, rfl, rfl⟩) fun u s1 ⟨v, H1, I1, r1, q1⟩ => ?_)
  obtain ⟨rfl, rfl⟩ := q1
  cases r1
  refine PySem.W.callWith_K (h₀ := X.base) I.ok.mod.kin M.kp (thn (ha.run pos pins s1 σ _ _ I1 h) fun us s2 ⟨vs, H2, I2, r, q⟩ => ⟨I2.kIn, ?_⟩) he hpl
  exact run_make M F hr hb hd hx I2 r q
def dMakeV (i : Nat) (c : Str) (F : DF) (fa : DA) : DE := fun env M => match env[i]? with
  | some (some (.cls c')) => if c' = c then dMake c F fa env M else .bad
  | _ => .bad
theorem make_ok {c : Str} {C : Addr} {F : DF} {fa : DA} {σ : L2.St} {H : Hp} {Q : VK} (hC : G.cl c = some C) (h : dE G W (dMake c F fa) σ H Q) : tMake C (spD G F) [] E0 (dA G W fa) σ H Q := by
  obtain ⟨ρ, env, M, hE, hS, h⟩ := h
  refine ⟨ρ, env, M, hE, hS, (post_bind h).imp (fun ds M1 hx ρ1 vs H1 e1 S1 r1 x dx nx ndx nex => ?_) (fun _ _ _ z => z)⟩
  show spD G F (.ref x :: (vs ++ [])) _ _ E0
  rw [List.append_nil]
  have S2 : RS G (upd H1 dx (.own x)) ρ1 M1 := S1.new ndx
  have x2 : Ext G H1 ρ1 (upd H1 dx (.own x)) ρ1 := Ext.new S1 ndx
  have nx2 : upd H1 dx (.own x) x = none := by rw [upd_ne (Ne.symm nex)]; exact nx
  have x3 : Ext G (upd H1 dx (.own x)) ρ1 (upd (upd H1 dx (.own x)) x (.ins C dx [])) (ρ1.add x) := Ext.cell S2 nx2
  have S3 : RS G (upd (upd H1 dx (.own x)) x (.ins C dx [])) (ρ1.add x) (M1 ++ [.ins c [] []]) := S2.cell nx2 ⟨C, dx, [], hC, upd_same, rfl, .nil⟩
  refine ⟨ρ1.add x, _, .ref M1.length :: ds, S3, .cons (.ref S1.at_new) ((r1.mono x2).mono x3), (noexF (post_bind hx)).imp (fun d M2 hd ρ4 v H4 e4 S4 r4 => ?_) (fun _ _ _ z => z)⟩
  split at hd
  · cases r4
    refine ⟨rfl, frzO_ok (H := H1) (ρ := ρ1) S1 (hd.imp (fun _ _ z => oP.sh e1 z) (fun _ _ _ z => z)) ρ4 (.ref x) H4 (x2.trans (x3.trans e4)) S4 (.ref (e4.pre _ _ S1.at_new))⟩
  · exact hd.elim
theorem se_makeV (i : Nat) {c : Str} {C f : Addr} {k : Nat} {fd : FuncData} {ps : List Str} {F : DF} {x : Str} {e : Expr} {es : List Expr} {fa : DA} {p pos : Pos} (hC : cl c = some C) (Mk' : Mk X.K C f) (Fk : FnOk X.prog X.w X.K X.mg X.base CX0 k f fd ps (spD (gx X cl) F)) (hr : Room (k + 1) X.A) (hN : X.N[i]? = some x) (hv : Vis X.env.scope x) (hb : Binds X.K fd ps [])
    (ha : SA X cl W (e :: es) fa) (hdb : (x == ("__debug__" : Str)) = false := by decide) (hcd : (x == ("__classdict__" : Str)) = false := by decide) (he : starEach (e :: es) X.env = (false, eval e X.env) :: starEach es X.env := by rfl) (hpl : (backTo pos (starEach es X.env)).any (·.1) = false := by rfl) :
    SE X cl W (.Call (.Name x p) (e :: es) [] pos) (dMakeV i c F fa) :=
  PEweak (pe_makeV (i := i) Mk' Fk hr hN hv hb .nil (E := E0) pass0 ha hdb hcd he hpl) fun σ H Q ⟨ρ, env, M, hE, hS, h⟩ => by
    unfold dMakeV at h
    split at h
    · rename_i c' hc'
      split at h
      · rename_i e
        subst e
        obtain ⟨v, hv, r⟩ := hE.2 i _ hc'
        cases r with
        | cls e0 =>
          have e1 : some _ = some C := e0.symm.trans hC
          cases e1
          exact ⟨hv, make_ok (G := gx X cl) hC ⟨ρ, env, M, hE, hS, h⟩⟩
      · exact h.elim
    · exact h.elim
/-- x = y = e -/
def dSet2 (i j : Nat) (fe : DE) : DS := fun env M => (fe env M).bind fun d M1 => .ok (.nx ((env.set i (some d)).set j (some d))) M1
theorem ss_set2 (i j : Nat) {x y : Str} {e : Expr} {fe : DE} {px py pos : Pos} (hN : X.N.Nodup) (he : SE X cl W e fe) (hi : X.N[i]? = some x := by rfl) (hj : X.N[j]? = some y := by rfl) (hx : Loc X.env.scope x := by first | exact Or.inl rfl | exact Or.inr rfl) (hy : Loc X.env.scope y := by first | exact Or.inl rfl | exact Or.inr rfl)
    (hfx : X.fn x = true ∨ X.env.scope.names.lookup x = some .local := by first | exact .inl rfl | exact .inr rfl | assumption) (hfy : X.fn y = true ∨ X.env.scope.names.lookup y = some .local := by first | exact .inl rfl | exact .inr rfl | assumption)
    (ha : (assignEach [.Name x px, .Name y py] X.env).map (·.2) = [assign (.Name x px) X.env, assign (.Name y py) X.env] := by rfl) (hw : swappedStores [.Name x px, .Name y py] e X.env = pure none := by rfl) :
    SS X cl W (.Assign [.Name x px, .Name y py] e pos) (dSet2 i j fe) :=
  PSweak (ps_asg2 he (pg_name hN hi hx hfx) (pg_name hN hj hy hfy) ha hw) fun D σ H ⟨ρ, env, M, hE, hS, h⟩ =>
    ⟨ρ, env, M, hE, hS, (post_bind h).imp (fun d M1 hx ρ1 v H1 e1 S1 r1 => hx ρ1 _ H1 e1 S1 (((hE.mono e1).set i r1).set j r1)) (fun _ _ _ z => z)⟩
theorem rv_plain {K : PySem.W.Frag} {cl : Str → Option Addr} {a b : Addr} {od oe : Option Addr} {n m : Nat} {sl sm : Array (Option Value)} {t1 t2 : Tok}
    (h1 : K.lookup a = some ⟨.type "tuple", od, .seq #[.ref b] n, sl⟩) (h2 : K.lookup b = some ⟨.type "tuple", oe, .seq #[.str "old" t1, .int 0 t2, .none] m, sm⟩) (H : Hp) (ρ : Rho) :
    RV ⟨K, cl⟩ H ρ (.tup [.tup [.str "old", .int 0, .non]]) (.ref a) :=
  .tup (vs := [.ref b]) (.inr ⟨_, _, _, h1, rfl, rfl, by rw [sizeLine_eq]; exact (by decide : (1 : Nat) ≤ 16777216), .cons rfl .nil⟩)
    (.one (.tup (vs := [.str "old", .int 0, .non]) (.inr ⟨_, _, _, h2, rfl, rfl, by rw [sizeLine_eq]; exact (by decide : (3 : Nat) ≤ 16777216), .cons ⟨t1, rfl⟩ (.cons ⟨t2, rfl⟩ (.cons rfl .nil))⟩) (.cons (.str _) (.cons (.int 0) (.cons .non .nil)))))
end
end Ip
end
section
set_option Elab.async false
set_option linter.all false
set_option maxRecDepth 100000
set_option maxHeartbeats 4000000
set_option autoImplicit false
namespace Ip
open PySem PySem.Spec PyProof.Rows L2
/-! ### an own __eq__ -/
/-- what the text must say of a class whose instances have types -/
structure InsT (K : PySem.W.Frag) (C : Addr) : Prop where
  cl : Cls K C
  ha : PySem.W.findIn K (.ref C) "__class__" = some (some (.builtin "object.__class__"))
  hn : PySem.W.specialIn K (.builtin "object.__class__") "__get__" = some (some (.builtin "getset_descriptor.__get__"))
  tk : PySem.W.takesIn K (.builtin "object.__class__") = some true
  hm : PySem.W.mroIn K C (.type "object") = some true
structure EqOwn (K : PySem.W.Frag) (C f : Addr) : Prop where
  it : InsT K C
  eq : PySem.W.findIn K (.ref C) "__eq__" = some (some (.ref f))
  fn : PySem.W.isFn K (.ref f) = true
  ne : PySem.W.findIn K (.ref C) "__ne__" = some (some (.builtin "object.__ne__"))
def mroTys : List String := ["NoneType", "bool", "int", "str", "tuple", "list"]
theorem mro_ok : ∀ t ∈ mroTys, ∃ l : List String, fastBuiltinMro t = some (l.map Value.type) := by
  intro t ht
  simp only [mroTys, List.mem_cons, List.not_mem_nil, or_false] at ht
  rcases ht with rfl | rfl | rfl | rfl | rfl | rfl
  · exact ⟨["NoneType", "object"], by decide +kernel⟩
  · exact ⟨["bool", "int", "object"], by decide +kernel⟩
  · exact ⟨["int", "object"], by decide +kernel⟩
  · exact ⟨["str", "object"], by decide +kernel⟩
  · exact ⟨["tuple", "object"], by decide +kernel⟩
  · exact ⟨["list", "object"], by decide +kernel⟩
theorem sub_own {K : PySem.W.Frag} {C : Addr} {t : String} (ht : t ∈ mroTys) : PySem.W.subIn K (.type t) (.ref C) = some false := by
  obtain ⟨l, e⟩ := mro_ok t ht
  show (fastBuiltinMro t).map (·.contains (.ref C)) = some false
  rw [e, Option.map_some]
  congr 1
  rw [List.contains_eq_any_beq, List.any_eq_false]
  intro v hv
  obtain ⟨n, _, rfl⟩ := List.mem_map.mp hv
  exact fun z => by cases eq_of_beq z
/-- the type of a value beside instances of the class at C -/
theorem tyD_mem {x : D} {M : Sto} {t : String} (h : tyD x M = some t) : t ∈ mroTys := by
  unfold tyD at h
  cases x with
  | ref n =>
    simp only at h
    split at h
    · cases h; decide
    · cases h
  | _ => first | (cases h; decide) | (cases h; done)
section
variable {X : Cx} {cl : Str → Option Addr} {W : WX} {G : Gx}
def rEqO (K : PySem.W.Frag) (C : Addr) (n : Bool) (sp : Sp) : R2 := fun x y H Q => ∃ a dx fs t, x = .ref a ∧ H a = some (.ins C dx fs) ∧ TyX K H y t ∧ PySem.W.notFirst K C t = true ∧ sp [.ref a, y] H (fun v H' => ∃ b, v = .bl b ∧ Q (.bl (if n then !b else b)) H') E0
theorem op_eqO {C f : Addr} {fd : FuncData} {k : Nat} {ps : List Str} {sp : Sp} (F : FnOk X.prog X.w X.K X.mg X.base CX0 k f fd ps sp) (o : EqOwn X.K C f) (hr : Room (k + 1) X.A) (hb : Binds X.K fd ps []) : OpR X (compareOp .Eq) (rEqO X.K C false sp) := by
  intro pins s σ H x y v u Q I rx ry h
  obtain ⟨a, dx, fs, t, rfl, ha, ty, hn, h⟩ := h
  cases rx
  obtain ⟨mA, O, _⟩ := ins_get I.hok ha
  obtain ⟨od, J, _⟩ := O.look
  obtain ⟨m, hF⟩ := I.fr
  obtain ⟨P, Z, p, _⟩ := kit_of I ry ty
  show wpAny (model X.prog X.w) X.A (richCompare .Eq (.ref a) u) (EP X pins σ Q) X.xe s
  refine PySem.W.cmp_K (op := .Eq) (tb := t) hr.units0 hF I.ok.mod.kin J (Z.ty _ _ I.kIn p) hn o.eq o.fn ?_
  refine thn (run_fn (vs := [.ref a, y]) F (hr.mono (Nat.le_succ k)) hb .nil (E := E0) pass0 I (.cons rfl (.cons ry .nil)) h) fun w s1 ⟨z, H1, I1, rz, b, ez, q⟩ => ?_
  subst ez
  cases rz
  exact ⟨.bl b, H1, I1, rfl, q⟩
theorem call_objNe {prog : Program} {w : World} {A : Around} {E : Value → Shared → Prop} {s : Shared} {K : PySem.W.Frag} {x C f : Addr} {ox : Obj} {od : Option Obj} {u : Value} {Q : Value → Shared → Prop} (hu : A.units + 1 < cLine) (X : K.In s.heap) (I : PySem.W.InstAt s.heap x ox C od) (hm : PySem.W.mroIn K C (.type "object") = some true)
    (hs : PySem.W.findIn K (.ref C) "__eq__" = some (some (.ref f))) (hf : PySem.W.isFn K (.ref f) = true) (h : wpAny (model prog w) A.in1 (call (.ref f) [.ref x, u]) (fun v s' => ∃ b, v = .bool b ∧ Q (.bool (!b)) s') E s) :
    wpAny (model prog w) A (call (.builtin "object.__ne__") [.ref x, u]) Q E s := by
  refine wpAny_call (codeAny_call_builtin F.cmp_object.ne.plain F.cmpEntry_ne (PySem.W.check_slot F.cmpKind_ne F.cmpSplit_ne (I.type.andThen (PySem.W.looks_mroIn X hm)) (F.cmpArgs_ne _ _) ?_))
  unfold Builtin.«object.__ne__»
  repeat (first
    | with_reducible refine wpAny_cRoomFor hu ?_
    | (refine wpAny_bind (m := callSpecialIfBound? (.ref x) (Str.ofString "__eq__") [u])
        (PySem.W.ifBound_K X I hs hf (wpAny_mono h (fun r s' hr => by
          obtain ⟨b, rfl, hq⟩ := hr
          repeat (first | exact hq | exact wpAny_pure hq | exact wpAny_truthy_bool hq | (refine wpAny_bind (m := truthy (.bool _)) (wpAny_truthy_bool ?_)) | wp_step)) fun _ _ e => e)))
    | wp_step)
theorem ifBound_objNe {M : Model} {A : Around} {E : Value → Shared → Prop} {s : Shared} {K : PySem.W.Frag} {x C : Addr} {ox : Obj} {od : Option Obj} {args : List Value} {Q : Option Value → Shared → Prop} (X : K.In s.heap) (I : PySem.W.InstAt s.heap x ox C od) (hs : PySem.W.findIn K (.ref C) "__ne__" = some (some (.builtin "object.__ne__")))
    (h : wpAny M A (call (.builtin "object.__ne__") (.ref x :: args)) (fun v => Q (some v)) E s) : wpAny M A (callSpecialIfBound? (.ref x) "__ne__" args) Q E s := by
  simp only [callSpecialIfBound?, bindSpecialIfBound?]
  refine wpAny_holding (wpAny_bind (wpAny_bind (wpAny_bind (I.type.here ((PySem.W.looks_findIn X hs).here ?_)))))
  refine wpAny_bind (wpAny_askSetting (wpAny_ite ?_))
  have fin : wpAny M A (call (.builtin "object.__ne__") ([.ref x] ++ args) >>= fun v => pure (some v)) Q E s := wpAny_bind (wpAny_mono h (fun v s' h' => wpAny_pure h') fun _ _ h' => h')
  split
  · exact wpAny_bind (wpAny_of_eq (F.cmp_object.ne.bind _) (wpAny_pure (by exact fin)))
  · exact wpAny_tryCatch (wpAny_bind (wpAny_of_eq (F.cmp_object.ne.bind _) (wpAny_pure (by exact fin))))
theorem op_neO {C f : Addr} {fd : FuncData} {k : Nat} {ps : List Str} {sp : Sp} (F : FnOk X.prog X.w X.K X.mg X.base CX0 k f fd ps sp) (o : EqOwn X.K C f) (hr : Room (k + 1) X.A) (hb : Binds X.K fd ps []) : OpR X (compareOp .NotEq) (rEqO X.K C true sp) := by
  intro pins s σ H x y v u Q I rx ry h
  obtain ⟨a, dx, fs, t, rfl, ha, ty, hn, h⟩ := h
  cases rx
  obtain ⟨mA, O, _⟩ := ins_get I.hok ha
  obtain ⟨od, J, _⟩ := O.look
  obtain ⟨P, Z, p, _⟩ := kit_of I ry ty
  show wpAny (model X.prog X.w) X.A (richCompare .NotEq (.ref a) u) (EP X pins σ Q) X.xe s
  have one : wpAny (model X.prog X.w) X.A (tryCompare (.ref a) (cmpInfo .NotEq).2.1 u) (fun r s' => ∃ v, r = some v ∧ EP X pins σ Q v s') X.xe s := by
    unfold tryCompare
    refine wpAny_bind (ifBound_objNe I.kIn J o.ne (call_objNe (by have := hr.units; omega) I.kIn J o.it.hm o.eq o.fn (thn (run_in (vs := [.ref a, y]) F hr hb I (.cons rfl (.cons ry .nil)) h) fun w s1 ⟨z, H1, I1, rz, b, ez, q⟩ => ?_)))
    subst ez
    cases rz
    exact ⟨b, rfl, wpAny_pure ⟨_, rfl, .bl (!b), H1, I1, rfl, q⟩⟩
  unfold richCompare
  simp only [oneThing_ref]
  refine wpAny_holding (wpAny_bind (wpAny_cRoomFor hr.units0 ?_))
  refine wpAny_bind (J.type.here (wpAny_bind ((Z.ty _ _ I.kIn p).here ?_)))
  split
  · rename_i q
    have e : PySem.W.subIn X.K t (.ref C) = some false := by
      rcases Bool.or_eq_true_iff.mp hn with e | e
      · rw [beq_iff_eq.mp e] at q; simp at q
      · exact beq_iff_eq.mp e
    refine wpAny_bind ((PySem.W.looks_subIn I.kIn e).here ?_)
    simp only [Bool.false_eq_true, if_false]
    refine wpAny_bind (wpAny_mono one (fun r s' z => ?_) fun _ _ e => e)
    obtain ⟨v, rfl, hq⟩ := z
    exact wpAny_pure hq
  · refine wpAny_bind (wpAny_pure ?_)
    simp only [Bool.false_eq_true, if_false]
    refine wpAny_bind (wpAny_mono one (fun r s' z => ?_) fun _ _ e => e)
    obtain ⟨v, rfl, hq⟩ := z
    exact wpAny_pure hq
end
end Ip
end
section
set_option Elab.async false
set_option linter.all false
set_option maxRecDepth 100000
set_option maxHeartbeats 4000000
set_option autoImplicit false
namespace GQ
open PySem PySem.SeqAt
open AutoSeq1 (wpAny_loadPart')
open MeetsSeq MeetsSeq2 MeetsSeq3 SeqRoads2
section
variable {prog : Program} {w : World} {A : Around} {R : Result → Shared → Prop}
def IsOne (l : Addr) (y : Value) (s : Shared) : Prop := ∃ (items : Array Value) (n : Nat) (dd : Option Addr) (sl : Array (Option Value)), items = #[y] ∧ s.heap.get? l = some { cls := .type "list", dict := dd, data := .seq items n, slots := sl }
theorem in_end (l : Addr) (x y : Value) {s : Shared} (hl : IsOne l y s) (fin : R (.ok (.ret (.bool false))) s) :
    wpAny (model prog w) A.in1 (Builtin.«list.__contains__.loop» ⟨[.ref l, x, rawInt (1 : Nat)], []⟩) (FinOf prog w A R) (fun e s' => R (.error e) s') s := by
  obtain ⟨items, n, dd, sl, hit, hl⟩ := hl
  obtain ⟨hp, g, d, tk, os⟩ := s
  wp_walk using wpAny_loadPart' hl
  have hi : items[((1 : Nat) : Int).toNat]? = none := by subst hit; simp
  rw [hi]
  wp_walk
  exact fin
theorem in_first (l : Addr) (x y : Value) {s : Shared} (hl : IsOne l y s)
    (h : wpAny (model prog w) A.in1 (eqBool y x) (fun r s' => IsOne l y s' ∧ R (.ok (.ret (.bool r))) s') (fun e s' => R (.error e) s') s) :
    wpAny (model prog w) A.in1 (Builtin.«list.__contains__.loop» ⟨[.ref l, x, rawInt (0 : Nat)], []⟩) (FinOf prog w A R) (fun e s' => R (.error e) s') s := by
  obtain ⟨items, n, dd, sl, hit, hl⟩ := hl
  obtain ⟨hp, g, d, tk, os⟩ := s
  wp_walk using wpAny_loadPart' hl
  have hi : items[((0 : Nat) : Int).toNat]? = some y := by subst hit; simp
  rw [hi]
  refine wpAny_bind (wpAny_mono h (fun r s2 h2 => ?_) fun _ _ x => x)
  obtain ⟨h2, hR⟩ := h2
  cases r with
  | true =>
    obtain ⟨hp2, g2, d2, tk2, os2⟩ := s2
    wp_walk
    exact hR
  | false =>
    have hrec := in_end (A := A) (R := R) (prog := prog) (w := w) l x y h2 hR
    obtain ⟨hp2, g2, d2, tk2, os2⟩ := s2
    wp_walk
    rw [show (((0 : Nat) : Int) + 1) = ((1 : Nat) : Int) from rfl]
    exact ⟨plainId_quiet plain_contains_loop _, codeAny_builtin entry_contains_loop (by
      rw [Around.under_plainId plain_contains_loop _]
      exact hrec)⟩
theorem in_list1 (l : Addr) (x y : Value) {s : Shared} (hl : IsOne l y s)
    (h : wpAny (model prog w) A.in1 (eqBool y x) (fun r s' => IsOne l y s' ∧ R (.ok (.ret (.bool r))) s') (fun e s' => R (.error e) s') s) :
    wpAny (model prog w) A.in1 (Builtin.«list.__contains__» ⟨[.ref l, x], []⟩) (FinOf prog w A R) (fun e s' => R (.error e) s') s := by
  have hrec := in_first (A := A) (R := R) (prog := prog) (w := w) l x y hl h
  obtain ⟨items, n, dd, sl, hit, hl⟩ := hl
  obtain ⟨hp, g, d, tk, os⟩ := s
  wp_walk using wpAny_loadPart' hl
  exact ⟨plainId_quiet plain_contains_loop _, codeAny_builtin entry_contains_loop (by
    rw [Around.under_plainId plain_contains_loop _]
    exact hrec)⟩
theorem in_one {E : Value → Shared → Prop} {Q : Value → Shared → Prop} (l : Addr) (x y : Value) {s : Shared} (hl : IsOne l y s)
    (h : wpAny (model prog w) A.in1 (eqBool y x) (fun r s' => IsOne l y s' ∧ Q (.bool r) s') E s) : wpAny (model prog w) A (compareOp .In x (.ref l)) Q E s := by
  have hT : s.TypeIs (.ref l) "list" := by
    obtain ⟨items, n, dd, sl, hit, e⟩ := hl
    exact ⟨_, e, rfl⟩
  show wpAny (model prog w) A (contains (.ref l) x >>= fun b => pure (.bool b)) Q E s
  refine wpAny_bind (wpAny_contains_slot hT F.slot_list_contains (call_here F.slot_list_contains hT F.entry_list_contains (F.args_list_contains_2 _ _) ?_))
  refine in_list1 (R := wants _ E) l x y hl (wpAny_mono h (fun r s' q => ⟨q.1, ?_⟩) fun _ _ e => e)
  exact wpAny_truthy_bool (wpAny_pure q.2)
end
end GQ
end
section
set_option Elab.async false
set_option linter.all false
set_option maxRecDepth 100000
set_option maxHeartbeats 4000000
set_option autoImplicit false
namespace Ip
open PySem PySem.Spec PyProof.Rows L2
/-! ### objects as cells; own ==, != and in -/
def dMakeC (c : Str) (F : DF) (fa : DA) : DE := fun env M => (fa env M).bind fun ds M1 => (noex (F (.ref M1.length :: ds) (M1 ++ [.ins c [] []]))).bind fun d M2 => match d with
  | .non => .ok (.ref M1.length) M2
  | _ => .bad
/-- what is compared with an instance: another one, or a plain value -/
def hasTy (c : Str) (y : D) (M : Sto) : Bool := (objOf c y M).isSome || (tyD y M).isSome
def dEqO (c : Str) (n : Bool) (F : DF) (fa fb : DE) : DE := fun env M => (fa env M).bind fun x M1 => (fb env M1).bind fun y M2 => match objOf c x M2, hasTy c y M2 with
  | some _, true => (noex (F [x, y] M2)).bind fun d M3 => match d with
    | .bl b => .ok (.bl (if n then !b else b)) M3
    | _ => .bad
  | _, _ => .bad
def gIsiO (c : Str) : D → Sto → Option (D × Sto) := fun x M => match objOf c x M with
  | some _ => some (.bl true, M)
  | none => match tyD x M with
    | some _ => some (.bl false, M)
    | none => none
def dInO (c : Str) (F : DF) (fa fb : DE) : DE := fun env M => (fa env M).bind fun x M1 => (fb env M1).bind fun y M2 => match x, y with
  | .ref n, .lst [.ref m] => if n = m then .ok (.bl true) M2 else match objOf c (.ref n) M2, objOf c (.ref m) M2 with
    | some _, some _ => (noex (F [.ref m, .ref n] M2)).bind fun d M3 => match d with
      | .bl b => .ok (.bl b) M3
      | _ => .bad
    | _, _ => .bad
  | _, _ => .bad
def gInt1 : List D → Sto → Option (D × Sto) := fun as M => match as with
  | [.int i] => some (.int i, M)
  | [.bl b] => some (.int (if b then 1 else 0), M)
  | _ => none
section
variable {X : Cx} {cl : Str → Option Addr} {W : WX} {G : Gx}
theorem cs_int1 : CallS G (fun xs H Q => (∃ i, xs = [.int i] ∧ Q (.int i) H) ∨ ∃ k, xs = [.bl k] ∧ Q (.int (if k then 1 else 0)) H) gInt1 := fun H ρ M xs ds d M' Q S rs e h => by
  unfold gInt1 at e
  split at e
  · cases e
    cases rs with
    | cons r1 r2 =>
      cases r1
      cases r2
      exact .inl ⟨_, rfl, h ρ _ H .refl S (.int _)⟩
  · cases e
    cases rs with
    | cons r1 r2 =>
      cases r1
      cases r2
      exact .inr ⟨_, rfl, h ρ _ H .refl S (.int _)⟩
  · cases e
theorem se_makeC {c : Str} {C f : Addr} {k : Nat} {fd : FuncData} {ps : List Str} {F : DF} {x : Str} {e : Expr} {es : List Expr} {fa : DA} {p pos : Pos} (hC : cl c = some C) (Mk' : Mk X.K C f) (Fk : FnOk X.prog X.w X.K X.mg X.base CX0 k f fd ps (spD (gx X cl) F)) (hr : Room (k + 1) X.A) (hg : Gl X x) (hm : X.mg x = some (.ref C)) (hb : Binds X.K fd ps [])
    (ha : SA X cl W (e :: es) fa) (hdb : (x == ("__debug__" : Str)) = false := by decide) (he : starEach (e :: es) X.env = (false, eval e X.env) :: starEach es X.env := by rfl) (hpl : (backTo pos (starEach es X.env)).any (·.1) = false := by rfl) :
    SE X cl W (.Call (.Name x p) (e :: es) [] pos) (dMakeC c F fa) :=
  PEweak (pe_make Mk' Fk hr hg hm hb .nil (E := E0) pass0 ha hdb he hpl) fun σ H Q ⟨ρ, env, M, hE, hS, h⟩ => by
    refine ⟨ρ, env, M, hE, hS, (post_bind h).imp (fun ds M1 hx ρ1 vs H1 e1 S1 r1 x dx nx ndx nex => ?_) (fun _ _ _ z => z)⟩
    show spD (gx X cl) F (.ref x :: (vs ++ [])) _ _ E0
    rw [List.append_nil]
    have S2 : RS (gx X cl) (upd H1 dx (.own x)) ρ1 M1 := S1.new ndx
    have x2 : Ext (gx X cl) H1 ρ1 (upd H1 dx (.own x)) ρ1 := Ext.new S1 ndx
    have nx2 : upd H1 dx (.own x) x = none := by rw [upd_ne (Ne.symm nex)]; exact nx
    have x3 : Ext (gx X cl) (upd H1 dx (.own x)) ρ1 (upd (upd H1 dx (.own x)) x (.ins C dx [])) (ρ1.add x) := Ext.cell S2 nx2
    have S3 : RS (gx X cl) (upd (upd H1 dx (.own x)) x (.ins C dx [])) (ρ1.add x) (M1 ++ [.ins c [] []]) := S2.cell nx2 ⟨C, dx, [], hC, upd_same, rfl, .nil⟩
    refine ⟨ρ1.add x, _, .ref M1.length :: ds, S3, .cons (.ref S1.at_new) ((r1.mono x2).mono x3), (noexF (post_bind hx)).imp (fun d M2 hd ρ4 v H4 e4 S4 r4 => ?_) (fun _ _ _ z => z)⟩
    split at hd
    · cases r4
      exact ⟨rfl, hd ρ4 (.ref x) H4 (e1.trans (x2.trans (x3.trans e4))) S4 (.ref (e4.pre _ _ S1.at_new))⟩
    · exact hd.elim
theorem hasTy_ok {c : Str} {C : Addr} (hC : G.cl c = some C) (it : InsT G.K C) {H : Hp} {ρ : Rho} {M : Sto} {y : D} {v : V} (S : RS G H ρ M) (r : RV G H ρ y v) (h : hasTy c y M = true) : ∃ t, TyX G.K H v t ∧ PySem.W.notFirst G.K C t = true := by
  unfold hasTy at h
  cases ho : objOf c y M with
  | some p =>
    obtain ⟨ks, ds⟩ := p
    obtain ⟨a, dx, vs, rfl, ha, _⟩ := objOf_ok hC S r ho
    exact ⟨.ref C, .base (.ins ha it.cl it.ha it.hn it.tk it.hm), by simp [PySem.W.notFirst]⟩
  | none =>
    rw [ho] at h
    cases ht : tyD y M with
    | none => rw [ht] at h; cases h
    | some t =>
      refine ⟨.type t, tyD_ok S r ht, ?_⟩
      unfold PySem.W.notFirst
      rw [sub_own (tyD_mem ht)]
      simp
theorem eqO_ok {c : Str} {C f : Addr} {n : Bool} {F : DF} {fa fb : DE} (hC : cl c = some C) (it : InsT X.K C) {σ : L2.St} {H : Hp} {Q : VK} (h : dE (gx X cl) W (dEqO c n F fa fb) σ H Q) : tOp (rEqO X.K C n (spD (gx X cl) F)) (dE (gx X cl) W fa) (dE (gx X cl) W fb) σ H Q := by
  obtain ⟨ρ, env, M, hE, hS, h⟩ := h
  refine ⟨ρ, env, M, hE, hS, (post_bind h).imp (fun x M1 hx ρ1 v H1 e1 S1 r1 => ?_) (fun _ _ _ z => z)⟩
  refine ⟨ρ1, env, M1, hE.mono e1, S1, (post_bind hx).imp (fun y M2 hy ρ2 w H2 e2 S2 r2 => ?_) (fun _ _ _ z => eP.sh e1 z)⟩
  split at hy
  · rename_i p ho ht
    obtain ⟨ks, ds⟩ := p
    obtain ⟨a, dx, vs, rfl, ha, _⟩ := objOf_ok (G := gx X cl) hC S2 (r1.mono e2) ho
    obtain ⟨t, ty, nf⟩ := hasTy_ok (G := gx X cl) hC it S2 r2 ht
    refine ⟨a, dx, _, t, rfl, ha, ty, nf, ρ2, M2, [x, y], S2, .two (r1.mono e2) r2, (noexF (post_bind hy)).imp (fun d M3 hd ρ3 v3 H3 e3 S3 r3 => ?_) (fun _ _ _ z => z)⟩
    cases r3 with
    | bl b => exact ⟨b, rfl, hd ρ3 _ H3 (e1.trans (e2.trans e3)) S3 (.bl _)⟩
    | _ => exact hd.elim
  · exact hy.elim
theorem se_eqO {c : Str} {C f : Addr} {k : Nat} {fd : FuncData} {ps : List Str} {F : DF} {a b : Expr} {fa fb : DE} {pos : Pos} (hC : cl c = some C) (o : EqOwn X.K C f) (Fk : FnOk X.prog X.w X.K X.mg X.base CX0 k f fd ps (spD (gx X cl) F)) (hr : Room (k + 1) X.A) (hb : Binds X.K fd ps []) (ha : SE X cl W a fa) (hb' : SE X cl W b fb) :
    SE X cl W (.Compare a [.Eq] [b] pos) (dEqO c false F fa fb) :=
  PEweak (pe_cmpR (op_eqO Fk o hr hb) ha hb' (nomark _)) fun σ H Q h => eqO_ok (f := f) hC o.it h
theorem se_neO {c : Str} {C f : Addr} {k : Nat} {fd : FuncData} {ps : List Str} {F : DF} {a b : Expr} {fa fb : DE} {pos : Pos} (hC : cl c = some C) (o : EqOwn X.K C f) (Fk : FnOk X.prog X.w X.K X.mg X.base CX0 k f fd ps (spD (gx X cl) F)) (hr : Room (k + 1) X.A) (hb : Binds X.K fd ps []) (ha : SE X cl W a fa) (hb' : SE X cl W b fb) :
    SE X cl W (.Compare a [.NotEq] [b] pos) (dEqO c true F fa fb) :=
  PEweak (pe_cmpR (op_neO Fk o hr hb) ha hb' (nomark _)) fun σ H Q h => eqO_ok (f := f) hC o.it h
theorem st_eqO {c : Str} {C f : Addr} {k : Nat} {fd : FuncData} {ps : List Str} {F : DF} {a b : Expr} {fa fb : DE} {pos : Pos} (hC : cl c = some C) (o : EqOwn X.K C f) (Fk : FnOk X.prog X.w X.K X.mg X.base CX0 k f fd ps (spD (gx X cl) F)) (hr : Room (k + 1) X.A) (hb : Binds X.K fd ps []) (ha : SE X cl W a fa) (hb' : SE X cl W b fb) :
    ST X cl W (.Compare a [.Eq] [b] pos) (dB (dEqO c false F fa fb)) :=
  PTweak (pt_cmpR (op_eqO Fk o hr hb) ha hb' (nomark _)) fun σ H Q h => eqO_ok (f := f) hC o.it (dB_ok h)
theorem st_neO {c : Str} {C f : Addr} {k : Nat} {fd : FuncData} {ps : List Str} {F : DF} {a b : Expr} {fa fb : DE} {pos : Pos} (hC : cl c = some C) (o : EqOwn X.K C f) (Fk : FnOk X.prog X.w X.K X.mg X.base CX0 k f fd ps (spD (gx X cl) F)) (hr : Room (k + 1) X.A) (hb : Binds X.K fd ps []) (ha : SE X cl W a fa) (hb' : SE X cl W b fb) :
    ST X cl W (.Compare a [.NotEq] [b] pos) (dB (dEqO c true F fa fb)) :=
  PTweak (pt_cmpR (op_neO Fk o hr hb) ha hb' (nomark _)) fun σ H Q h => eqO_ok (f := f) hC o.it (dB_ok h)
/-! ### isinstance with an own class -/
theorem kit_same {K : PySem.W.Frag} {C : Addr} : PySem.W.kitOne K (.ref C) (.ref C) = some true := by
  unfold PySem.W.kitOne
  rw [if_pos (by simp)]
theorem kit_other {K : PySem.W.Frag} {C : Addr} {t : String} (k : Cls K C) (ty : PySem.W.typeIn K (.ref C) = some (.type "type")) (ht : t ∈ mroTys) : PySem.W.kitOne K (.type t) (.ref C) = some false := by
  unfold PySem.W.kitOne
  rw [if_neg (by simp)]
  show (if ((PySem.W.clsIn K C).isSome && PySem.W.typeIn K (.ref C) == some (.type "type")) = true then PySem.W.subIn K (.type t) (.ref C) else none) = some false
  have hc : (PySem.W.clsIn K C).isSome = true := by
    obtain ⟨cd, hc, _⟩ := PySem.W.any_some k.hd
    rw [hc]
    rfl
  rw [hc, ty, sub_own ht]
  simp
theorem se_isiO {c : Str} {C : Addr} {x : Str} {e : Expr} {fe : DE} {p p2 pos : Pos} (hC : cl c = some C) (it : InsT X.K C) (ty : PySem.W.typeIn X.K (.ref C) = some (.type "type")) (hg : Gl X "isinstance") (hm : X.mg "isinstance" = none) (hgT : Gl X x) (hmT : X.mg x = some (.ref C)) (he : SE X cl W e fe)
    (hdT : (x == ("__debug__" : Str)) = false := by decide)
    (h1 : starEach [e, .Name x p2] X.env = (false, eval e X.env) :: starEach [.Name x p2] X.env := by rfl) (h2 : starEach [.Name x p2] X.env = (false, eval (.Name x p2) X.env) :: starEach [] X.env := by rfl) (hpl : (backTo pos (starEach [.Name x p2] X.env)).any (·.1) = false := by rfl) :
    SE X cl W (.Call (.Name "isinstance" p) [e, .Name x p2] [] pos) (dUn (gIsiO c) fe) :=
  PEweak (pe_callB call_isi hg hm (by decide +kernel) (pa_cons he (pa_cons (pe_glob (v := .ref C) hgT hmT rfl hdT) pa_nil h2) h1) (by decide) (by decide) h1 hpl) fun σ H Q ⟨ρ, env, M, hE, hS, h⟩ => by
    refine ⟨ρ, env, M, hE, hS, (post_bind h).imp (fun y M1 hx ρ1 v H1 e1 S1 r1 => ?_) (fun _ _ _ z => z)⟩
    obtain ⟨d, M', eq, q⟩ := lift_some hx
    unfold gIsiO at eq
    split at eq
    · rename_i p hp
      obtain ⟨ks, ds⟩ := p
      cases eq
      obtain ⟨a, dx, vs, rfl, ha, _⟩ := objOf_ok (G := gx X cl) hC S1 r1 hp
      exact ⟨_, .ref C, .ref C, .ref C, true, rfl, .own C, .base (.ins ha it.cl it.ha it.hn it.tk it.hm), kit_same, q ρ1 _ H1 e1 S1 (.bl _)⟩
    · split at eq
      · rename_i t ht
        cases eq
        exact ⟨v, .ref C, .type t, .ref C, false, rfl, .own C, tyD_ok (G := gx X cl) S1 r1 ht, kit_other it.cl ty (tyD_mem ht), q ρ1 _ H1 e1 S1 (.bl _)⟩
      · cases eq
/-! ### x in [y], both instances -/
def rInO (C : Addr) (sp : Sp) : R2 := fun x y H Q => ∃ a b l, x = .ref a ∧ y = .ref l ∧ H l = some (.lst [.ref b]) ∧ ((a = b ∧ Q (.bl true) H) ∨ (a ≠ b ∧ ∃ dx fs dy gs, H a = some (.ins C dx fs) ∧ H b = some (.ins C dy gs) ∧ sp [.ref b, .ref a] H (fun v H' => ∃ r, v = .bl r ∧ H' l = some (.lst [.ref b]) ∧ Q (.bl r) H') E0))
theorem isOne_of {pins : List (Addr × Obj)} {σ : L2.St} {H : Hp} {s : Shared} {l b : Addr} (I : Inv X pins σ H s) (h : H l = some (.lst [.ref b])) : GQ.IsOne l (.ref b) s := by
  obtain ⟨z, its, k, r, e⟩ := I.hok l _ h
  cases r with
  | cons r1 r2 =>
    cases r1
    cases r2
    exact ⟨_, _, _, _, rfl, e⟩
theorem op_inO {C f : Addr} {fd : FuncData} {k : Nat} {ps : List Str} {sp : Sp} (F : FnOk X.prog X.w X.K X.mg X.base CX0 k f fd ps sp) (o : EqOwn X.K C f) (hr : Room (k + 1) X.A) (hb : Binds X.K fd ps []) : OpR X (compareOp .In) (rInO C sp) := by
  intro pins s σ H x y v u Q I rx ry h
  obtain ⟨a, b, l, rfl, rfl, hl, h⟩ := h
  cases rx
  cases ry
  refine GQ.in_one l (.ref a) (.ref b) (isOne_of I hl) ?_
  rcases h with ⟨rfl, q⟩ | ⟨hne, dx, fs, dy, gs, ha, hb', h⟩
  · exact SeqAt.EqAt.same (A := X.A.in1) (s := s) (.ref a) X.prog X.w X.xe _ ⟨isOne_of I hl, .bl true, H, I, rfl, q⟩
  · refine GQ.eqBool_refG (Ne.symm hne) ?_
    obtain ⟨mB, O, _⟩ := ins_get I.hok hb'
    obtain ⟨od, J, _⟩ := O.look
    obtain ⟨mA, O', _⟩ := ins_get I.hok ha
    obtain ⟨od', J', _⟩ := O'.look
    obtain ⟨m, hF⟩ := I.fr
    refine PySem.W.cmp_K (op := .Eq) (tb := .ref C) (hr.in1).units0 hF I.ok.mod.kin J J'.type (by simp [PySem.W.notFirst]) o.eq o.fn ?_
    refine thn (run_in (vs := [.ref b, .ref a]) F hr hb I (.cons rfl (.cons rfl .nil)) h) fun w s1 ⟨z, H1, I1, rz, r, ez, hl1, q⟩ => ?_
    subst ez
    cases rz
    exact ⟨r, rfl, isOne_of I1 hl1, .bl r, H1, I1, rfl, q⟩
theorem nodup_ne {ρ : Rho} {M : Sto} {H : Hp} (S : RS G H ρ M) {n m : Nat} {a b : Addr} (hn : ρ.c[n]? = some a) (hm : ρ.c[m]? = some b) (h : n ≠ m) : a ≠ b := fun z => by
  subst z
  exact h (nodup_at S.nd hn hm)
theorem inO_ok {c : Str} {C : Addr} {F : DF} {fa fb : DE} (hC : G.cl c = some C) {σ : L2.St} {H : Hp} {Q : VK} (h : dE G W (dInO c F fa fb) σ H Q) : tOp (rInO C (spD G F)) (dE G W fa) (dE G W fb) σ H Q := by
  obtain ⟨ρ, env, M, hE, hS, h⟩ := h
  refine ⟨ρ, env, M, hE, hS, (post_bind h).imp (fun x M1 hx ρ1 v H1 e1 S1 r1 => ?_) (fun _ _ _ z => z)⟩
  refine ⟨ρ1, env, M1, hE.mono e1, S1, (post_bind hx).imp (fun y M2 hy ρ2 w H2 e2 S2 r2 => ?_) (fun _ _ _ z => eP.sh e1 z)⟩
  split at hy
  · rename_i n m
    cases r2 with
    | lst hl hnl rs =>
      cases rs with
      | cons q1 q2 =>
        cases q2
        cases q1 with
        | ref hm =>
          have r1' := r1.mono e2
          cases r1' with
          | ref hn =>
            rename_i l b a
            split at hy
            · rename_i e
              subst e
              rw [hn] at hm
              cases hm
              exact ⟨_, _, _, rfl, rfl, hl, .inl ⟨rfl, hy ρ2 _ H2 (e1.trans e2) S2 (.bl true)⟩⟩
            · rename_i e
              split at hy
              · rename_i p q hp hq
                obtain ⟨ks, ds⟩ := p
                obtain ⟨ks', ds'⟩ := q
                obtain ⟨a', dx, vs, ea, ha, _⟩ := objOf_ok hC S2 (.ref hn) hp
                obtain ⟨b', dy, vs', eb, hb, _⟩ := objOf_ok hC S2 (.ref hm) hq
                cases ea
                cases eb
                refine ⟨_, _, _, rfl, rfl, hl, .inr ⟨nodup_ne S2 hn hm e, dx, _, dy, _, ha, hb, ρ2, M2, [.ref m, .ref n], S2, .two (.ref hm) (.ref hn), (noexF (post_bind hy)).imp (fun d M3 hd ρ3 v3 H3 e3 S3 r3 => ?_) (fun _ _ _ z => z)⟩⟩
                cases r3 with
                | bl r => exact ⟨r, rfl, (e3.keep _ _ hnl (fun _ z => by cases z) hl).1, hd ρ3 _ H3 (e1.trans (e2.trans e3)) S3 (.bl _)⟩
                | _ => exact hd.elim
              · exact hy.elim
  · exact hy.elim
theorem se_inO {c : Str} {C f : Addr} {k : Nat} {fd : FuncData} {ps : List Str} {F : DF} {a b : Expr} {fa fb : DE} {pos : Pos} (hC : cl c = some C) (o : EqOwn X.K C f) (Fk : FnOk X.prog X.w X.K X.mg X.base CX0 k f fd ps (spD (gx X cl) F)) (hr : Room (k + 1) X.A) (hb : Binds X.K fd ps []) (ha : SE X cl W a fa) (hb' : SE X cl W b fb) (hm : behindInMarks .In b = false := by rfl) :
    SE X cl W (.Compare a [.In] [b] pos) (dInO c F fa fb) :=
  PEweak (pe_cmpR (op_inO Fk o hr hb) ha hb' hm) fun σ H Q h => inO_ok (G := gx X cl) hC h
end
end Ip
end
section
set_option Elab.async false
set_option linter.all false
set_option maxRecDepth 100000
set_option maxHeartbeats 4000000
set_option autoImplicit false
namespace Ip
open PySem PySem.Spec PyProof.Rows L2
/-! ### zip of two lists; is of truth values -/
def zipD : List D → List D → List D
  | x :: xs, y :: ys => .tup [x, y] :: zipD xs ys
  | _, _ => []
theorem zipD_get : ∀ {xs ys : List D} {i : Nat} {d : D}, (zipD xs ys)[i]? = some d → ∃ x y, xs[i]? = some x ∧ ys[i]? = some y ∧ d = .tup [x, y]
  | [], _, _, _, h => by simp [zipD] at h
  | _ :: _, [], _, _, h => by simp [zipD] at h
  | x :: xs, y :: ys, 0, d, h => by
    simp [zipD] at h
    exact ⟨x, y, rfl, rfl, h.symm⟩
  | x :: xs, y :: ys, i + 1, d, h => by
    simp only [zipD, List.getElem?_cons_succ] at h
    obtain ⟨a, b, h1, h2, h3⟩ := zipD_get h
    exact ⟨a, b, by simpa using h1, by simpa using h2, h3⟩
theorem zipD_len : ∀ {xs ys : List D}, (zipD xs ys).length = min xs.length ys.length
  | [], ys => by simp [zipD]
  | x :: xs, [] => by simp [zipD]
  | x :: xs, y :: ys => by simp [zipD, zipD_len]
section
variable {X : Cx} {cl : Str → Option Addr} {W : WX} {G : Gx}
theorem good_zip {H0 : Hp} {ρ0 : Rho} {a b : Addr} {vs ws : List V} {ds es : List D} (hs : H0 a = some (.lst vs)) (hn : a ∉ ρ0) (rs : RVs G H0 ρ0 ds vs) (hs' : H0 b = some (.lst ws)) (hn' : b ∉ ρ0) (rs' : RVs G H0 ρ0 es ws) : Good (Itz G.K a b) G (zipD ds es) ρ0 H0 := by
  intro H ρ mo i
  have hl := (mo.keep _ _ hn (by first | exact .l | exact .f) hs).1
  have hl' := (mo.keep _ _ hn' (by first | exact .l | exact .f) hs').1
  have q := rs.mo mo
  have q' := rs'.mo mo
  refine ⟨fun d hd => ?_, fun hi => ⟨vs, ws, SqL.of hl, SqL.of hl', ?_⟩⟩
  · obtain ⟨x, y, h1, h2, rfl⟩ := zipD_get hd
    obtain ⟨v, hv, rv⟩ := q.get h1
    obtain ⟨w, hw, rw'⟩ := q'.get h2
    refine ⟨⟨vs, ws, v, w, SqL.of hl, SqL.of hl', hv, hw⟩, fun z H' yl ⟨M, S⟩ => ?_⟩
    obtain ⟨T, x', y', rfl, hT, rfl, y1, y2⟩ := yl
    have e1 := y1 vs (SqL.of hl)
    have e2 := y2 ws (SqL.of hl')
    rw [hv] at e1; cases e1
    rw [hw] at e2; cases e2
    exact ⟨Ext.new S hT, fun M' S' => S'.new hT, .tup (SqT.of upd_same) (.two (rv.mono (Ext.new S hT)) (rw'.mono (Ext.new S hT)))⟩
  · rw [zipD_len] at hi
    rw [rs.length, rs'.length]
    omega
def dZip (fa : DA) : DA := fun env M => (fa env M).bind fun ds M1 => match ds with
  | [.lst xs, .lst ys] => .ok (zipD xs ys) M1
  | _ => .bad
theorem si_zip {e e2 : Expr} {fa : DA} {p pos tpos : Pos} {elts : List Expr} {kk : Nat} (hg : Gl X "zip") (hm : X.mg "zip" = none) (ha : SA X cl W [e, e2] fa) (hs : starEach [e, e2] X.env = (false, eval e X.env) :: starEach [e2] X.env := by rfl) (hpl : (backTo pos (starEach [e2] X.env)).any (·.1) = false := by rfl) :
    SI X cl W (.Tuple elts kk tpos) (.Call (.Name "zip" p) [e, e2] [] pos) (dZip fa) :=
  PIweak (pi_zip hg hm ha hs hpl) fun σ H R ⟨ρ, env, M, hE, hS, h⟩ => by
    refine ⟨ρ, env, M, hE, hS, (post_bind h).imp (fun ds M1 hx ρ1 vs H1 e1 S1 r1 => ?_) (fun _ _ _ z => z)⟩
    split at hx
    · cases r1 with
      | cons q1 q2 =>
        cases q2 with
        | cons q2 q3 =>
          cases q3
          cases q1 with
          | lst hs hn rs =>
            cases q2 with
            | lst hs' hn' rs' => exact ⟨_, _, _, _, rfl, SqL.of hs, SqL.of hs', hx ρ1 H1 _ e1 S1 (good_zip (G := gx X cl) hs hn rs hs' hn' rs')⟩
    · exact hx.elim
def gIsB (n : Bool) : G2 := fun x y M => match x, y with
  | .bl a, .bl b => some (.bl (if n then !decide (a = b) else decide (a = b)), M)
  | _, _ => none
theorem ops_isB : OpS G rIsB (gIsB false) := fun H ρ M x y dx dy d M' Q S rx ry e z => by
  cases rx with
  | bl a => cases ry with
    | bl b => cases e; exact ⟨a, b, rfl, rfl, z ρ _ H .refl S (.bl _)⟩
    | _ => cases e
  | _ => cases e
theorem ops_notB : OpS G rNotB (gIsB true) := fun H ρ M x y dx dy d M' Q S rx ry e z => by
  cases rx with
  | bl a => cases ry with
    | bl b => cases e; exact ⟨a, b, rfl, rfl, z ρ _ H .refl S (.bl _)⟩
    | _ => cases e
  | _ => cases e
variable {a b : Expr} {fa fb : DE} {pos : Pos}
theorem se_isB (ha : SE X cl W a fa) (hb : SE X cl W b fb) : SE X cl W (.Compare a [.Is] [b] pos) (dBin (gIsB false) fa fb) := se_cmp op_isBl ops_isB ha hb (nomark _)
theorem se_isnotB (ha : SE X cl W a fa) (hb : SE X cl W b fb) : SE X cl W (.Compare a [.IsNot] [b] pos) (dBin (gIsB true) fa fb) := se_cmp op_notBl ops_notB ha hb (nomark _)
theorem st_isB (ha : SE X cl W a fa) (hb : SE X cl W b fb) : ST X cl W (.Compare a [.Is] [b] pos) (dB (dBin (gIsB false) fa fb)) := st_cmp op_isBl ops_isB ha hb (nomark _)
theorem st_isnotB (ha : SE X cl W a fa) (hb : SE X cl W b fb) : ST X cl W (.Compare a [.IsNot] [b] pos) (dB (dBin (gIsB true) fa fb)) := st_cmp op_notBl ops_notB ha hb (nomark _)
end
end Ip
end
section
set_option Elab.async false
set_option linter.all false
set_option maxRecDepth 100000
set_option maxHeartbeats 4000000
set_option autoImplicit false
namespace Ip
open PySem PySem.Spec PyProof.Rows L2
/-! ### xs.extend(ys), a cell and a list that is none; three names at once -/
def gExt : GM := fun x as M => match as with
  | [.lst ys] => (setL x M fun l => if l.length + ys.length ≤ 16777216 then some (l ++ ys) else none).map (D.non, ·)
  | _ => none
section
variable {X : Cx} {cl : Str → Option Addr} {W : WX} {G : Gx}
theorem mts_ext : MtS G rExtend gExt := fun H ρ M x dx vs ds d M' Q S rx rs e h => by
  unfold gExt at e
  split at e
  · rename_i ys
    cases rs with
    | cons q1 q2 =>
      cases q2
      cases q1 with
      | lst hs hn rl' =>
        rename_i b zs
        cases e2 : setL dx M fun l => if l.length + ys.length ≤ 16777216 then some (l ++ ys) else none with
        | none => rw [e2] at e; cases e
        | some M2 =>
          rw [e2] at e; cases e
          obtain ⟨a, l, l', ws, rfl, ha, rl, ek, up⟩ := setL_ok S rx e2
          split at ek
          · rename_i hl
            cases ek
            obtain ⟨x1, s1⟩ := up _ (rl.append rl')
            exact ⟨a, b, ws, zs, rfl, rfl, ha, hs, by rw [rl.length, rl'.length, sizeLine_eq]; exact hl, h ρ _ _ x1 s1 .non⟩
          · cases ek
  · cases e
theorem se_extend {o e : Expr} {fo fe : DE} {apos cpos : Pos} (ho : SE X cl W o fo) (ha : SE X cl W e fe) (hst : starEach [e] X.env = (false, eval e X.env) :: starEach [] X.env := by rfl)
    (hbase : attributeBase o "extend" X.env (eval o X.env) = eval o X.env := by rfl)
    (hfew : ((backTo cpos (starEach [e] X.env)).all (fun x => !x.1) && (backToKw cpos (keywordEach [] X.env)).all (fun x => x.1.isSome)
      && decide ([e].length + ([] : List Keyword).length + (if ([] : List Keyword).isEmpty then 0 else 1) < 30)) = true := by rfl)
    (hline : (apos.endLine == cpos.line) = true := by rfl) (hplain : (backTo cpos (starEach [] X.env)).any (·.1) = false := by rfl) : SE X cl W (.Call (.Attribute o "extend" apos) [e] [] cpos) (dLm gExt fo (dConsA fe dNilA)) :=
  se_lm PySem.F.slot_list_extend PySem.F.type_list_extend mt_extend mts_ext ho (sa_cons ha sa_nil hst) hbase hfew hline hst hplain
def dPar3 (i j l : Nat) (fa : DA) : DS := fun env M => (fa env M).bind fun ds M1 => match ds with
  | [x, y, z] => .ok (.nx (((env.set i (some x)).set j (some y)).set l (some z))) M1
  | _ => .bad
theorem ss_par3 {i j l : Nat} {x y z : Str} {a b c : Expr} {fa : DA} {px py pz pt pos : Pos} {kt k2 pt2} (hc : X.calm = true) (hN : X.N.Nodup) (hi : X.N[i]? = some x) (hj : X.N[j]? = some y) (hl : X.N[l]? = some z) (hij : i ≠ j) (hil : i ≠ l) (hjl : j ≠ l)
    (hx : X.env.scope.names.lookup x = some .local) (hy : X.env.scope.names.lookup y = some .local) (hz : X.env.scope.names.lookup z = some .local) (ha : SA X cl W [a, b, c] fa)
    (hw : swappedStores [.Tuple [.Name x px, .Name y py, .Name z pz] kt pt] (.Tuple [a, b, c] k2 pt2) X.env = pure (some [x, y, z]))
    (hs : swapsWithSole [.Tuple [.Name x px, .Name y py, .Name z pz] kt pt] (.Tuple [a, b, c] k2 pt2) pos.line X.env = pure false := by rfl) :
    SS X cl W (.Assign [.Tuple [.Name x px, .Name y py, .Name z pz] kt pt] (.Tuple [a, b, c] k2 pt2) pos) (dPar3 i j l fa) :=
  PSweak (ps_par3 hc hN hi hj hl hij hil hjl hx hy hz ha hw hs) fun D σ H ⟨ρ, env, M, hE, hS, h⟩ => by
    refine ⟨ρ, env, M, hE, hS, (post_bind h).imp (fun ds M1 hx ρ1 vs H1 e1 S1 r1 => ?_) (fun _ _ _ z => z)⟩
    cases r1 with
    | nil => exact hx.elim
    | cons q1 q2 =>
      cases q2 with
      | nil => exact hx.elim
      | cons q2 q3 =>
        cases q3 with
        | nil => exact hx.elim
        | cons q3 q4 =>
          cases q4 with
          | cons _ _ => exact hx.elim
          | nil => exact ⟨_, _, _, rfl, hx ρ1 _ H1 e1 S1 ((((hE.mono e1).set i q1).set j q2).set l q3)⟩
end
end Ip
end
section
set_option Elab.async false
set_option linter.all false
set_option maxRecDepth 100000
set_option maxHeartbeats 4000000
set_option autoImplicit false
namespace Ip
open PySem PySem.Spec PyProof.Rows L2
/-! ### a def whose keyword-only parameters are all None unless written, called without keywords -/
def dCallD (m : Nat) (F : DF) (fa : DA) : DE := fun env M => (fa env M).bind fun ds M1 => noex (F (ds ++ List.replicate m .non) M1)
theorem RVs.nons {G : Gx} {H : Hp} {ρ : Rho} : ∀ m : Nat, RVs G H ρ (List.replicate m .non) (List.replicate m .non)
  | 0 => .nil
  | m + 1 => .cons .non (RVs.nons m)
/-- what the call binds -/
abbrev BindsD (K : PySem.W.Frag) (fd : FuncData) (ps : List Str) (m : Nat) : Prop := ∃ ds, Vals (List.replicate m V.non) ds ∧ Binds K fd ps ds
section
variable {X : Cx} {cl : Str → Option Addr} {W : WX} {G : Gx}
theorem se_callD {F : DF} {k m : Nat} {f : Addr} {fd : FuncData} {ps : List Str} {x : Str} {e : Expr} {es : List Expr} {fa : DA} {p pos : Pos} (Fk : FnOk X.prog X.w X.K X.mg X.base CX0 k f fd ps (spD (gx X cl) F)) (hr : Room k X.A) (hg : Gl X x) (hm : X.mg x = some (.ref f)) (hk : PySem.W.keepIn X.K (.ref f) = true) (hb : BindsD X.K fd ps m)
    (ha : SA X cl W (e :: es) fa) (hdb : (x == ("__debug__" : Str)) = false := by decide) (he : starEach (e :: es) X.env = (false, eval e X.env) :: starEach es X.env := by rfl) (hpl : (backTo pos (starEach es X.env)).any (·.1) = false := by rfl) :
    SE X cl W (.Call (.Name x p) (e :: es) [] pos) (dCallD m F fa) := by
  obtain ⟨ds, hv, hb⟩ := hb
  exact PEweak (pe_call Fk hr hg hm hk hb hv (E := E0) pass0 ha hdb he hpl) fun σ H Q ⟨ρ, env, M, hE, hS, h⟩ => by
    refine ⟨ρ, env, M, hE, hS, (post_bind h).imp (fun ds M1 hx ρ1 vs H1 e1 S1 r1 => ?_) (fun _ _ _ z => z)⟩
    exact ⟨ρ1, M1, _, S1, r1.append (RVs.nons m), (noexF hx).imp (fun _ _ z => oP.sh e1 z) (fun _ _ _ z => z)⟩
end
/-- one keyword-only parameter, None by default, as the top has left it -/
theorem binds_kw1 {K : PySem.W.Frag} {x qual y : Str} {st : Stmt} {f D : Addr} {oc : Value} {od an : Option Addr} {osl : Array (Option Value)} {doc pm cdv ct : Value} {ps : List Str} (n : Nat)
    (l : K.lookup f = some ⟨oc, od, .func (PySem.W.fnOf x qual (defArgs st) (defBody st) (defScope st) .none (.ref D) doc pm an cdv ct), osl⟩) (c : PySem.W.codeIn K cdv qual = true) (k : PySem.W.keepIn K (.ref f) = true)
    (hd : PySem.W.nsIn K D y = some (some .none)) (hn : n + 1 = ps.length)
    (h : ∀ (D : Addr) (doc pm : Value) (an : Option Addr) (cdv ct : Value) (us ks : List Value), us.length = n → ks.length = 1 →
      KwChain D ([y].zip ks) (bindArgs (PySem.W.fnOf x qual (defArgs st) (defBody st) (defScope st) .none (.ref D) doc pm an cdv ct) ⟨us, []⟩) (ps.zip (us ++ ks))) :
    BindsD K (PySem.W.fnOf x qual (defArgs st) (defBody st) (defScope st) .none (.ref D) doc pm an cdv ct) ps 1 :=
  FunD.binds0 (x := x) (qual := qual) (params := defArgs st) (body := defBody st) (scope := defScope st) (kws := [(y, .non)]) (f := f)
    ⟨⟨oc, od, .none, .ref D, doc, pm, an, cdv, ct, osl, rfl, l, c, .inl ⟨rfl, rfl⟩, .inr ⟨D, rfl, fun q hq => by
      cases hq with
      | head => exact ⟨.none, hd, rfl⟩
      | tail _ z => cases z⟩⟩, k⟩ n (by simp) hn h
end Ip
end
section
set_option Elab.async false
set_option linter.all false
set_option maxRecDepth 100000
set_option maxHeartbeats 4000000
set_option autoImplicit false
namespace Ip
open PySem PySem.Spec PyProof.Rows L2
/-! ### def f(*v) -/
def runS (n : Nat) (fb : DS) : DF := fun ds M => if ds.length ≤ 1000 then runF n 1 fb [.tup ds] M else .bad
theorem fnS {P : Program} {w : World} {K : PySem.W.Frag} {mg : Str → Option Value} {base : Heap} {cl : Str → Option Addr} {x qual pv : Str} {st : Stmt} {f : Addr} {fd : FuncData} {N : List Str} {k : Nat} {fb : DS} (F : Fun K x qual st f fd) (S : FnScope N ([] ++ [pv]) (defScope st))
    (hbind : ∀ (kV doc pm : Value) (an : Option Addr) (cdv ct : Value) (us : List Value), bindArgs (PySem.W.fnOf x qual (defArgs st) (defBody st) (defScope st) .none kV doc pm an cdv ct) ⟨us, []⟩ = (newTuple us >>= fun t => pure [(pv, t)]))
    (hb : ∀ (cdv : Value) (A : Around) (outer : List Env) (s : Shared) (H : Hp) (E : XK), Room k (A.deeper (envOfC qual (defScope st) s.heap.objs.size f cdv)) → SSs (cxOf CX0 P w K mg base N qual (defScope st) f cdv A outer s H E).nox cl W0 (defBody st) fb) :
    FnR P w K mg base CX0 (k + 1) f (spD ⟨K, cl⟩ (runS N.length fb)) := by
  obtain ⟨oc, od, kV, doc, pm, an, cdv, ct, osl, rfl, lk, hcd⟩ := F.ex
  refine FnR.imp (StX.fn_star (CX := CX0) (ps := []) (pv := pv) (k := k) (sp := spD ⟨K, cl⟩ (runF N.length 1 fb)) lk hcd S StX.cxUp_none (fun us rest hl => ?_) fun A outer s H vs Q E hr ⟨ρ, M, ds, hS, r, h⟩ => ⟨_, (hb cdv A outer s H E hr).nox, ?_⟩) fun vs H Q E ⟨ρ, M, ds, hS, r, h⟩ => ?_
  · cases us with
    | nil => exact hbind kV doc pm an cdv ct rest
    | cons a b => cases hl
  · obtain ⟨hl, h⟩ := runF_len h
    rw [← hl] at h
    refine ⟨ρ, _, M, RE.start (N := N) r, hS, (post_bind h).imp (fun fl M1 hx => ?_) (fun _ _ _ z => z.elim)⟩
    cases fl with
    | nx env => exact fun ρ1 σ1 H1 e1 S1 E1 => hx ρ1 .non H1 e1 S1 .non
    | rt d => exact hx
    | bk env => exact hx.elim
    | ct env => exact hx.elim
  · unfold runS at h
    split at h
    · rename_i hl
      refine ⟨[], vs, rfl, rfl, by rw [r.length]; exact line_of (by omega), fun p hp => ⟨ρ, M, [.tup ds], hS.new hp, .cons (RV.newT hS hp r) .nil, h.imp (fun d M1 hx => ?_) (fun _ _ _ z => z)⟩⟩
      exact oP.sh (Ext.new hS hp) hx
    · exact h.elim
theorem fnR_frz {P : Program} {w : World} {K : PySem.W.Frag} {mg : Str → Option Value} {base : Heap} {k : Nat} {f : Addr} {G : Gx} {F : DF} (h : FnR P w K mg base CX0 k f (spD G F)) : FnR P w K mg base CX0 k f (spD G (frz F)) :=
  h.imp fun _ _ _ _ z => spD_frz z
section
variable {X : Cx} {cl : Str → Option Addr} {W : WX} {G : Gx}
theorem pe_callR {CX : CXT} {k : Nat} {f : Addr} {sp : Sp} {E : XK} {x : Str} {e : Expr} {es : List Expr} {t : TA} {p pos : Pos} (F : FnR X.prog X.w X.K X.mg X.base CX k f sp) (hr : Room k X.A) (hg : Gl X x) (hm : X.mg x = some (.ref f)) (hk : PySem.W.keepIn X.K (.ref f) = true) (hx : Passes CX X E)
    (ha : PA X (e :: es) t) (hdb : (x == ("__debug__" : Str)) = false := by decide) (he : starEach (e :: es) X.env = (false, eval e X.env) :: starEach es X.env := by rfl) (hpl : (backTo pos (starEach es X.env)).any (·.1) = false := by rfl) :
    PE X (.Call (.Name x p) (e :: es) [] pos) (fun σ H Q => t σ H fun vs H1 => sp vs H1 Q E) := by
  refine ⟨fun pins s σ H Q I h => ?_⟩
  refine wpAny_Call_Name_kw (ld_glob I hg hm ?_ hdb)
  refine PySem.W.callWith_K (h₀ := X.base) I.ok.mod.kin hk (thn (ha.run pos pins s σ H _ I h) fun us s1 ⟨vs, H1, I1, r, q⟩ => ⟨I1.kIn, ?_⟩) he hpl
  exact wpAny_call (run_fnR F hr hx I1 r q)
theorem pe_callR0 {CX : CXT} {k : Nat} {f : Addr} {sp : Sp} {E : XK} {x : Str} {p pos : Pos} (F : FnR X.prog X.w X.K X.mg X.base CX k f sp) (hr : Room k X.A) (hg : Gl X x) (hm : X.mg x = some (.ref f)) (hk : PySem.W.keepIn X.K (.ref f) = true) (hx : Passes CX X E)
    (hdb : (x == ("__debug__" : Str)) = false := by decide) : PE X (.Call (.Name x p) [] [] pos) (fun σ H Q => sp [] H Q E) := by
  refine ⟨fun pins s σ H Q I h => ?_⟩
  refine wpAny_Call_Name_kw (ld_glob I hg hm ?_ hdb)
  exact PySem.W.callWith_K0 I.kIn hk (wpAny_call (run_fnR (us := []) F hr hx I .nil h))
theorem se_callR {F : DF} {k : Nat} {f : Addr} {x : Str} {e : Expr} {es : List Expr} {fa : DA} {p pos : Pos} (Fk : FnR X.prog X.w X.K X.mg X.base CX0 k f (spD (gx X cl) F)) (hr : Room k X.A) (hg : Gl X x) (hm : X.mg x = some (.ref f)) (hk : PySem.W.keepIn X.K (.ref f) = true)
    (ha : SA X cl W (e :: es) fa) (hdb : (x == ("__debug__" : Str)) = false := by decide) (he : starEach (e :: es) X.env = (false, eval e X.env) :: starEach es X.env := by rfl) (hpl : (backTo pos (starEach es X.env)).any (·.1) = false := by rfl) :
    SE X cl W (.Call (.Name x p) (e :: es) [] pos) (dCall F fa) :=
  PEweak (pe_callR Fk hr hg hm hk (E := E0) pass0 ha hdb he hpl) fun σ H Q ⟨ρ, env, M, hE, hS, h⟩ => by
    refine ⟨ρ, env, M, hE, hS, (post_bind h).imp (fun ds M1 hx ρ1 vs H1 e1 S1 r1 => ?_) (fun _ _ _ z => z)⟩
    exact ⟨ρ1, M1, ds, S1, r1, (noexF hx).imp (fun _ _ z => oP.sh e1 z) (fun _ _ _ z => z)⟩
theorem se_callR0 {F : DF} {k : Nat} {f : Addr} {x : Str} {p pos : Pos} (Fk : FnR X.prog X.w X.K X.mg X.base CX0 k f (spD (gx X cl) F)) (hr : Room k X.A) (hg : Gl X x) (hm : X.mg x = some (.ref f)) (hk : PySem.W.keepIn X.K (.ref f) = true)
    (hdb : (x == ("__debug__" : Str)) = false := by decide) : SE X cl W (.Call (.Name x p) [] [] pos) (dCall F dNilA) :=
  PEweak (pe_callR0 Fk hr hg hm hk (E := E0) pass0 hdb) fun σ H Q ⟨ρ, env, M, hE, hS, h⟩ => by
    have h' : (noex (F [] M)).post (oP (gx X cl) H ρ Q) _ := h
    exact ⟨ρ, M, [], hS, .nil, noexF h'⟩
end
end Ip
end
section
set_option Elab.async false
set_option linter.all false
set_option maxRecDepth 100000
set_option maxHeartbeats 4000000
set_option autoImplicit false
namespace Ip
open PySem PySem.Spec PyProof.Rows L2
section
variable {X : Cx} {cl : Str → Option Addr} {W : WX} {G : Gx}
/-! ### a, b, .. = a list -/
def tgLst (is : List Nat) : DG := fun d env => match d with
  | .lst ds => tgAll is ds env
  | _ => none
theorem sg_lst {es : List Expr} {k n : Nat} {is : List Nat} {pos : Pos} (hc : X.calm = true) (h : PGs X es (gsNames is)) (hl : is.length = n) (hn : (assignEach es X.env).length = n := by rfl) (hst : (assignEach es X.env).findIdx? (·.1) = none := by rfl) : SG X cl (.Tuple es k pos) (tgLst is) :=
  PGweak (pg_lst hc h hn hst) fun v σ H Q ⟨ρ, env, d, env', hE, r, e, q⟩ => by
    cases r with
    | lst hs hno rs => exact ⟨_, _, rfl, SqL.of hs, by rw [rs.length, tgAll_len e, hl], gsNames_ok rs hE e q⟩
    | _ => cases e
end
end Ip
end
section
set_option Elab.async false
set_option linter.all false
set_option maxRecDepth 100000
set_option maxHeartbeats 4000000
set_option autoImplicit false
namespace Ip
open PySem PySem.Spec PyProof.Rows L2
/-! ### defs that may raise -/
def xP (G : Gx) (H : Hp) (ρ : Rho) (E : XK) : Exn → En → Sto → Prop := fun e _ M' =>
  ∀ ρ' H' C d vs, Ext G H ρ H' ρ' → RS G H' ρ' M' → G.cl e.c = some C → H' d = some (.xd (e.ks.zip vs)) → d ∉ ρ' → e.ks.length = vs.length → RVs G H' ρ' e.vs vs → E (.ref C) (some d) H'
theorem xP.sh {G : Gx} {H H1 : Hp} {ρ ρ1 : Rho} {E : XK} (x : Ext G H ρ H1 ρ1) {e : Exn} {env : En} {M : Sto} (h : xP G H ρ E e env M) : xP G H1 ρ1 E e env M :=
  fun ρ' H' C d vs a b e1 e2 e3 e4 e5 => h ρ' H' C d vs (x.trans a) b e1 e2 e3 e4 e5
def spX (G : Gx) (F : DF) : Sp := fun vs H Q E => ∃ ρ M ds, RS G H ρ M ∧ RVs G H ρ ds vs ∧ (F ds M).post (oP G H ρ Q) (xP G H ρ E)
/-- what is raised is wished for wherever the slots stand -/
abbrev WC (E : XK) : WX := fun cls d _ H => E cls d H
theorem fnX {P : Program} {w : World} {K : PySem.W.Frag} {mg : Str → Option Value} {base : Heap} {cl : Str → Option Addr} {x qual : Str} {st : Stmt} {f : Addr} {fd : FuncData} {N ps : List Str} {k : Nat} {fb : DS} (F : Fun K x qual st f fd) (S : FnScope N ps (defScope st))
    (hb : ∀ (cdv : Value) (A : Around) (outer : List Env) (s : Shared) (H : Hp) (E : XK), Room k (A.deeper (envOfC qual (defScope st) s.heap.objs.size f cdv)) → Takes (cxOf (L2.CX P w) P w K mg base N qual (defScope st) f cdv A outer s H E) (WC E) → SSs (cxOf (L2.CX P w) P w K mg base N qual (defScope st) f cdv A outer s H E) cl (WC E) (defBody st) fb) :
    FnOk P w K mg base (L2.CX P w) (k + 1) f fd ps (spX ⟨K, cl⟩ (runF N.length ps.length fb)) := by
  refine F.okX S (fun vs H Q E ⟨ρ, M, ds, hS, r, h⟩ => by rw [r.length]; exact (runF_len h).1) fun cdv A outer s H vs Q E hr ⟨ρ, M, ds, hS, r, h⟩ => ⟨_, hb cdv A outer s H E hr (takes_of rfl rfl rfl rfl), ?_⟩
  obtain ⟨hl, h⟩ := runF_len h
  rw [← hl] at h
  refine ⟨ρ, _, M, RE.start (N := N) r, hS, (post_bind h).imp (fun fl M1 hx => ?_) (fun e ev M1 hx ρ' H' σ' C d vs a b c e1 e2 e3 e4 e5 => hx ρ' H' C d vs a b e1 e2 e3 e4 e5)⟩
  cases fl with
  | nx env => exact fun ρ1 σ1 H1 e1 S1 E1 => hx ρ1 .non H1 e1 S1 .non
  | rt d => exact hx
  | bk env => exact hx.elim
  | ct env => exact hx.elim
/-- what a def has raised, seen by its caller -/
def atE {α : Type} (env : En) (o : Out α) : Out α := match o with
  | .exc e _ M => .exc e env M
  | o => o
theorem atE_post {α : Type} {env : En} {o : Out α} {Q : α → Sto → Prop} {E : Exn → En → Sto → Prop} (h : (atE env o).post Q E) : o.post Q (fun e _ M => E e env M) := by
  cases o <;> exact h
def dCallX (F : DF) (fa : DA) : DE := fun env M => (fa env M).bind fun ds M1 => atE env (F ds M1)
section
variable {X : Cx} {cl : Str → Option Addr} {W : WX} {G : Gx} {Ex : XK}
theorem exc_at {H H1 : Hp} {ρ ρ1 : Rho} {env : En} {σ : L2.St} (hE : RE G H ρ env σ) (e1 : Ext G H ρ H1 ρ1) {e : Exn} {ev : En} {M : Sto} (h : eP G (WC Ex) H ρ e env M) : xP G H1 ρ1 Ex e ev M :=
  fun ρ' H' C d vs a b c1 c2 c3 c4 c5 => h ρ' H' σ C d vs (e1.trans a) b (hE.mono (e1.trans a)) c1 c2 c3 c4 c5
theorem se_callX {F : DF} {k : Nat} {f : Addr} {fd : FuncData} {ps : List Str} {x : Str} {e : Expr} {es : List Expr} {fa : DA} {p pos : Pos} (tk : Takes X (WC Ex)) (Fk : FnOk X.prog X.w X.K X.mg X.base (L2.CX X.prog X.w) k f fd ps (spX (gx X cl) F)) (hr : Room k X.A) (hg : Gl X x) (hm : X.mg x = some (.ref f)) (hk : PySem.W.keepIn X.K (.ref f) = true) (hb : Binds X.K fd ps [])
    (ha : SA X cl (WC Ex) (e :: es) fa) (hdb : (x == ("__debug__" : Str)) = false := by decide) (he : starEach (e :: es) X.env = (false, eval e X.env) :: starEach es X.env := by rfl) (hpl : (backTo pos (starEach es X.env)).any (·.1) = false := by rfl) :
    SE X cl (WC Ex) (.Call (.Name x p) (e :: es) [] pos) (dCallX F fa) :=
  PEweak (pe_call Fk hr hg hm hk hb .nil (E := Ex) (passes_call tk fun _ _ _ _ h => h) ha hdb he hpl) fun σ H Q ⟨ρ, env, M, hE, hS, h⟩ => by
    refine ⟨ρ, env, M, hE, hS, (post_bind h).imp (fun ds M1 hx ρ1 vs H1 e1 S1 r1 => ?_) (fun _ _ _ z => z)⟩
    show spX (gx X cl) F (vs ++ []) H1 Q Ex
    rw [List.append_nil]
    exact ⟨ρ1, M1, ds, S1, r1, (atE_post hx).imp (fun _ _ z => oP.sh e1 z) (fun _ _ _ z => exc_at hE e1 z)⟩
/-- .. where nothing is raised -/
theorem se_callL {F : DF} {k : Nat} {f : Addr} {fd : FuncData} {ps : List Str} {x : Str} {e : Expr} {es : List Expr} {fa : DA} {p pos : Pos} (Fk : FnOk X.prog X.w X.K X.mg X.base (L2.CX X.prog X.w) k f fd ps (spX (gx X cl) F)) (hr : Room k X.A) (hg : Gl X x) (hm : X.mg x = some (.ref f)) (hk : PySem.W.keepIn X.K (.ref f) = true) (hb : Binds X.K fd ps [])
    (ha : SA X cl W (e :: es) fa) (hdb : (x == ("__debug__" : Str)) = false := by decide) (he : starEach (e :: es) X.env = (false, eval e X.env) :: starEach es X.env := by rfl) (hpl : (backTo pos (starEach es X.env)).any (·.1) = false := by rfl) :
    SE X cl W (.Call (.Name x p) (e :: es) [] pos) (dCall F fa) :=
  PEweak (pe_call Fk hr hg hm hk hb .nil (E := E0) passL ha hdb he hpl) fun σ H Q ⟨ρ, env, M, hE, hS, h⟩ => by
    refine ⟨ρ, env, M, hE, hS, (post_bind h).imp (fun ds M1 hx ρ1 vs H1 e1 S1 r1 => ?_) (fun _ _ _ z => z)⟩
    show spX (gx X cl) F (vs ++ []) H1 Q E0
    rw [List.append_nil]
    exact ⟨ρ1, M1, ds, S1, r1, (noexF hx).imp (fun _ _ z => oP.sh e1 z) (fun _ _ _ z => z.elim)⟩
/-! ### methods that may raise -/
def dMethX (c m : Str) (F : DF) (fo : DE) (fa : DA) : DE := fun env M => (fo env M).bind fun x M1 => match objOf c x M1 with
  | some (ks, ds) => match (ks.zip ds).lookup m with
    | none => (fa env M1).bind fun as M2 => atE env (F (x :: as) M2)
    | some _ => .bad
  | none => .bad
theorem methX_ok {c m : Str} {C : Addr} (hC : G.cl c = some C) {F : DF} {fo : DE} {fa : DA} {σ : L2.St} {H : Hp} {Q : VK} (h : dE G (WC Ex) (dMethX c m F fo fa) σ H Q) : tMeth C m (spX G F) [] Ex (dE G (WC Ex) fo) (dA G (WC Ex) fa) σ H Q := by
  obtain ⟨ρ, env, M, hE, hS, h⟩ := h
  refine ⟨ρ, env, M, hE, hS, (post_bind h).imp (fun x M1 hx ρ1 v H1 e1 S1 r1 => ?_) (fun _ _ _ z => z)⟩
  split at hx
  · rename_i ks ds ho
    split at hx
    · rename_i hl
      obtain ⟨a, dx, vs, rfl, ha, hlen, rs⟩ := objOf_ok hC S1 r1 ho
      refine ⟨a, dx, _, rfl, ha, zip_none rs.length hl, ρ1, env, M1, hE.mono e1, S1, (post_bind hx).imp (fun as M2 hy ρ2 ws H2 e2 S2 r2 => ?_) (fun _ _ _ z => eP.sh e1 z)⟩
      show spX G F (.ref a :: (ws ++ [])) H2 Q Ex
      rw [List.append_nil]
      exact ⟨ρ2, M2, x :: as, S2, .cons (r1.mono e2) r2, (atE_post hy).imp (fun _ _ z => oP.sh (e1.trans e2) z) (fun _ _ _ z => exc_at hE (e1.trans e2) z)⟩
    · exact hx.elim
  · exact hx.elim
theorem se_methX {c m : Str} {C f : Addr} {k : Nat} {fd : FuncData} {ps : List Str} {F : DF} {o e : Expr} {es : List Expr} {fo : DE} {fa : DA} {apos pos : Pos} {pl : Sem Bool} (tk : Takes X (WC Ex)) (hC : cl c = some C) (ho : SE X cl (WC Ex) o fo) (kc : Cls X.K C) (hm : Meth X.K C m f) (Fk : FnOk X.prog X.w X.K X.mg X.base (L2.CX X.prog X.w) k f fd ps (spX (gx X cl) F)) (hr : Room k X.A) (hb : Binds X.K fd ps []) (ha : SA X cl (WC Ex) (e :: es) fa)
    (hst : starEach (e :: es) X.env = (false, eval e X.env) :: starEach es X.env := by rfl) (hpl : (backTo pos (starEach es X.env)).any (·.1) = false := by rfl)
    (ht : eval (.Call (.Attribute o m apos) (e :: es) [] pos) X.env = (do
      let ov ← eval o X.env
      standAt apos.atName
      let (f, first) ← holding [ov] (getMethod ov m pl)
      callWith pos f first (backTo pos (starEach (e :: es) X.env)) (backToKw pos (keywordEach [] X.env))) := by rfl) :
    SE X cl (WC Ex) (.Call (.Attribute o m apos) (e :: es) [] pos) (dMethX c m F fo fa) :=
  PEweak (pe_meth ho kc hm Fk hr hb .nil (E := Ex) (passes_call tk fun _ _ _ _ h => h) ha hst hpl ht) fun σ H Q h => methX_ok (G := gx X cl) hC h
/-! ### raise C(..) -/
/-- C.m(..) where m is a plain def of the class -/
theorem pe_cfn {CX : CXT} {k : Nat} {C g : Addr} {mc : Value} {fd : FuncData} {ps : List Str} {sp : Sp} {E : XK} {o e : Expr} {es : List Expr} {m : Str} {pos apos : Pos} {ta : TE} {t : TA} {pl : Sem Bool} (he : PE X o ta) (r : ClX.CRead X.K C mc) (c : PySem.W.findCls X.K (.ref C) mc m = some (.val (.ref g))) (hk : PySem.W.keepIn X.K (.ref g) = true)
    (F : FnOk X.prog X.w X.K X.mg X.base CX k g fd ps sp) (hr : Room k X.A) (hb : Binds X.K fd ps []) (hx : Passes CX X E) (ha : PA X (e :: es) t)
    (hst : starEach (e :: es) X.env = (false, eval e X.env) :: starEach es X.env := by rfl) (hpl : (backTo pos (starEach es X.env)).any (·.1) = false := by rfl)
    (ht : eval (.Call (.Attribute o m apos) (e :: es) [] pos) X.env = (do
      let ov ← eval o X.env
      standAt apos.atName
      let (f, first) ← holding [ov] (getMethod ov m pl)
      callWith pos f first (backTo pos (starEach (e :: es) X.env)) (backToKw pos (keywordEach [] X.env))) := by rfl) :
    PE X (.Call (.Attribute o m apos) (e :: es) [] pos) (fun σ H Q => ta σ H fun x H1 => x = .ref C ∧ t σ H1 fun vs H2 => sp vs H2 Q E) := by
  refine ⟨fun pins s σ H Q I h => ?_⟩
  refine PySem.W.methodCall_KW (pl := pl) (thn (he.run pins s σ H _ I h) fun u s1 ⟨x, H1, I1, rx, ex, q⟩ => ?_) ht
  subst ex
  obtain rfl : u = Value.ref C := rx
  refine PySem.W.method_cls I1.kIn r.ga (PySem.W.cls_value I1.kIn r.rd c rfl ?_)
  refine PySem.W.callWith_K (first := []) (h₀ := X.base) I.ok.mod.kin hk (thn (ha.run pos pins _ σ H1 _ (I1.tok _) q) fun us s2 ⟨vs, H2, I2, rv, q2⟩ => ⟨I2.kIn, ?_⟩) hst hpl
  exact run_fn F hr hb .nil hx I2 rv (by rw [List.append_nil]; exact q2)
end
/-- __init__ of the errors' base class: self, word, message -/
def spSE (K : PySem.W.Frag) : Sp := fun vs H Q _ => ∃ (a C : Addr) (w : Str) (m : V), vs = [.ref a, .str w, m] ∧ OexC K C ∧ PySem.W.findIn K (.ref C) "word" = some none ∧ H a = some (exo a C none) ∧
  ∀ dx, H dx = none → dx ≠ a → Q .non (upd (upd H dx (exd dx [("word", .str w)])) a (exo a C (some dx)))
/-- __init__ of an error with one field; ok: which values its message can show -/
def spE1 (C : Addr) (wd fl : Str) (ok : V → Hp → Prop) : Sp := fun vs H Q _ => ∃ (a : Addr) (x : V), vs = [.ref a, x] ∧ H a = some (exo a C none) ∧ ok x H ∧
  ∀ dx, H dx = none → dx ≠ a → Q .non (upd (upd (upd H dx (exd dx [("word", .str wd)])) a (exo a C (some dx))) dx (exd dx [(fl, x), ("word", .str wd)]))
/-- .. without fields -/
def spE0 (C : Addr) (wd : Str) : Sp := fun vs H Q _ => ∃ (a : Addr), vs = [.ref a] ∧ H a = some (exo a C none) ∧
  ∀ dx, H dx = none → dx ≠ a → Q .non (upd (upd H dx (exd dx [("word", .str wd)])) a (exo a C (some dx)))
def dRaise1 (c wd fl : Str) (okD : D → Bool) (fe : DE) : DS := fun env M => (fe env M).bind fun d M1 => if okD d = true then .exc ⟨c, [fl, "word"], [d, .str wd]⟩ env M1 else .bad
def dRaise0 (c wd : Str) : DS := fun env M => .exc ⟨c, ["word"], [.str wd]⟩ env M
section
variable {X : Cx} {cl : Str → Option Addr} {G : Gx} {Ex : XK}
/-- what is raised stands in the heap as it is told -/
theorem left_eP {H H1 : Hp} {ρ ρ1 : Rho} {M1 : Sto} {env : En} {σ : L2.St} {e : Exn} {a dx C : Addr} {us : List V} (hE : RE G H ρ env σ) (e1 : Ext G H ρ H1 ρ1) (S1 : RS G H1 ρ1 M1) (hC : G.cl e.c = some C) (hl : e.ks.length = us.length) (rv : RVs G H1 ρ1 e.vs us) (nd : H1 dx = none)
    (h : eP G (WC Ex) H ρ e env M1) : Ex (.ref C) (some dx) (upd H1 dx (.xd (e.ks.zip us))) := by
  have x := Ext.new (o := .xd (e.ks.zip us)) S1 nd
  exact h ρ1 _ σ C dx us (e1.trans x) (S1.new nd) (hE.mono (e1.trans x)) hC upd_same (S1.fresh nd) hl (rv.mono x)
/-- C(..): of its heap only the dict of what was made is left -/
theorem dict_left {H : Hp} {a dx C : Addr} {wd : Str} {u : HO} {fs : List (Str × V)} (na : H a = none) (nd : upd H a (exo a C none) dx = none) (ne : dx ≠ a) :
    H dx = none ∧ upd (del (upd (upd (upd (upd H a (exo a C none)) dx (exd dx [("word", .str wd)])) a (exo a C (some dx))) dx u) a) dx (.xd fs) = upd H dx (.xd fs) ∧ upd (del (upd (upd (upd H a (exo a C none)) dx u) a (exo a C (some dx))) a) dx (.xd fs) = upd H dx (.xd fs) := by
  have nd' : H dx = none := by rw [← nd, upd_ne ne]
  refine ⟨nd', ?_, ?_⟩ <;> funext b <;> by_cases h1 : b = dx
  · rw [h1, upd_same, upd_same]
  · rw [upd_ne h1, upd_ne h1]
    by_cases h2 : b = a
    · rw [h2, del_same, na]
    · rw [del_ne h2, upd_ne h1, upd_ne h2, upd_ne h1, upd_ne h2]
  · rw [h1, upd_same, upd_same]
  · rw [upd_ne h1, upd_ne h1]
    by_cases h2 : b = a
    · rw [h2, del_same, na]
    · rw [del_ne h2, upd_ne h2, upd_ne h1, upd_ne h2]
theorem ss_raise1 {c wd fl q : Str} {C fI : Addr} {k : Nat} {fd : FuncData} {e : Expr} {fe : DE} {ok : V → Hp → Prop} {okD : D → Bool} {p pos pos' : Pos} (hok : ∀ {H : Hp} {ρ : Rho} {M : Sto} {d : D} {v : V}, RS (gx X cl) H ρ M → RV (gx X cl) H ρ d v → okD d = true → ok v H) (hc : X.calm = true) (tk : Takes X (WC Ex)) (hC : cl c = some C) (T : OexC X.K C) (iC : PySem.W.findIn X.K (.ref C) "__init__" = some (some (.ref fI))) (tI : PySem.W.typeIn X.K (.ref fI) = some (.type "function"))
    (F1 : FnOk X.prog X.w X.K X.mg X.base CX0 k fI fd ["self", q] (spE1 C wd fl ok)) (hr : Room (k + 1) X.A) (hb : Binds X.K fd ["self", q] []) (hg : Gl X c) (hm : X.mg c = some (.ref C)) (he : SE X cl (WC Ex) e fe)
    (hdb : (c == ("__debug__" : Str)) = false := by decide) (hst : starEach [e] X.env = (false, eval e X.env) :: starEach [] X.env := by rfl) : SS X cl (WC Ex) (.Raise (some (.Call (.Name c p) [e] [] pos)) none pos') (dRaise1 c wd fl okD fe) :=
  PSweak (ps_raise hc tk (pmk_oex (CX := CX0) (dvs := []) T iC tI F1 hr hb .nil (fun _ _ _ _ _ _ _ z => z.elim) hg hm (pa_cons he pa_nil hst) hdb hst rfl)) fun D σ H ⟨ρ, env, M, hE, hS, h⟩ => by
    refine ⟨ρ, env, M, hE, hS, (post_bind h).imp (fun d M1 hx ρ1 v H1 e1 S1 r1 => ?_) (fun _ _ _ z => z)⟩
    split at hx
    · rename_i hd
      refine ⟨by simp, fun a na => ⟨a, v, rfl, upd_same, hok (S1.new na) (r1.mono (Ext.new S1 na)) hd, fun dx nd ne => ?_⟩⟩
      obtain ⟨nd', eq1, _⟩ := dict_left (wd := wd) (u := exd dx [(fl, v), ("word", .str wd)]) (fs := [(fl, v), ("word", .str wd)]) na nd ne
      refine ⟨rfl, dx, [(fl, v), ("word", .str wd)], by rw [upd_ne (Ne.symm ne)]; exact upd_same, upd_same, nd', ?_⟩
      rw [eq1]
      exact left_eP (a := a) (us := [v, .str wd]) hE e1 S1 hC rfl (.two r1 (.str wd)) nd' hx
    · exact hx.elim
theorem ss_raise0 {c wd : Str} {C : Addr} {p pos pos' : Pos} (hc : X.calm = true) (tk : Takes X (WC Ex)) (hC : cl c = some C) (hmk : PMk X (.Call (.Name c p) [] [] pos) (tMkO C (spE0 C wd) [] (fun σ H Q => Q [] H))) : SS X cl (WC Ex) (.Raise (some (.Call (.Name c p) [] [] pos)) none pos') (dRaise0 c wd) :=
  PSweak (ps_raise hc tk hmk) fun D σ H ⟨ρ, env, M, hE, hS, h⟩ => by
    refine ⟨by simp, fun a na => ⟨a, rfl, upd_same, fun dx nd ne => ?_⟩⟩
    obtain ⟨nd', _, eq2⟩ := dict_left (wd := wd) (u := exd dx [("word", .str wd)]) (fs := [("word", .str wd)]) na nd ne
    refine ⟨rfl, dx, [("word", .str wd)], upd_same, by rw [upd_ne ne]; exact upd_same, nd', ?_⟩
    rw [eq2]
    exact left_eP (a := a) (us := [.str wd]) hE .refl hS hC rfl (.one (.str wd)) nd' h
end
end Ip
end
section
set_option Elab.async false
set_option linter.all false
set_option maxRecDepth 100000
set_option maxHeartbeats 4000000
set_option autoImplicit false
namespace Ip
open PySem PySem.Spec PyProof.Rows L2
section
variable {X : Cx} {pins : List (Addr × Obj)}
/-! ### an error of an own class is made of any values -/
theorem make_err {CX : CXT} {C fI : Addr} {k : Nat} {fd : FuncData} {ps : List Str} {sp : Sp} {σ : L2.St} {H : Hp} {s : Shared} {vs : List V} {us : List Value} {Q : XK} (T : OexC X.K C) (iC : PySem.W.findIn X.K (.ref C) "__init__" = some (some (.ref fI))) (tI : PySem.W.typeIn X.K (.ref fI) = some (.type "function"))
    (F1 : FnOk X.prog X.w X.K X.mg X.base CX k fI fd ps sp) (hr : Room (k + 1) X.A) (hb : Binds X.K fd ps []) (hx : Passes CX X (fun _ _ _ => False)) (I : Inv X pins σ H s) (r : Vals vs us) (hz : vs.length ≤ 1000)
    (h : ∀ a, H a = none → sp (.ref a :: vs) (upd H a (exo a C none)) (fun v H2 => v = .non ∧ ∃ (d : Addr) (fs : List (Str × V)), H2 a = some (exo a C (some d)) ∧ H2 d = some (exd d fs) ∧ H d = none ∧ Q (.ref C) (some d) (upd (del H2 a) d (.xd fs))) (fun _ _ _ => False)) :
    wpAny (model X.prog X.w) X.A (call (.ref C) us) (MkP X pins σ Q) X.xe s := by
  have ⟨_, _, _, _, bm, _, _, _, _, _, _, _, _, _, _, hC, hbm⟩ := T.cls
  have ha : ((s.heap.push (PySem.W.kdv_tup us)).push (PySem.HandSPX.excO C s.heap.objs.size)).get? (s.heap.objs.size + 1) = some (PySem.HandSPX.excO C s.heap.objs.size) := by heap_get
  let a := s.heap.objs.size + 1
  let h2 := (s.heap.push (PySem.W.kdv_tup us)).push (PySem.HandSPX.excO C s.heap.objs.size)
  have up : ∀ b o, s.heap.get? b = some o → h2.get? b = some o := fun b o e => Heap.get?_push_of_some _ (Heap.get?_push_of_some _ e)
  have big : s.heap.objs.size ≤ a := Nat.le_succ _
  have J := I.laid (t' := s.toks) (o := exo a C none) up big (exo_ok ha)
  have q := h a (I.hok.fresh big)
  have len : (Value.ref a :: us).length = ps.length := by
    have := F1.len _ _ _ _ q
    rw [List.length_cons, ← r.length]
    simpa using this
  have bd := hb _ (Value.ref a :: us) J.kIn (by rw [List.append_nil]; exact len)
  rw [List.append_nil] at bd
  have body := F1.run _ X.stack _ _ ⟨Value.ref a :: us, []⟩ (Value.ref a :: us) (.ref a :: vs) _ (fun _ _ _ => False) (hr.make C us []) (J.env0.make C us []) bd (.cons rfl r) q
  have few : us.length ≤ sizeLine := by rw [← r.length, sizeLine_eq]; omega
  refine wpAny_call (PySem.HandSPX.call_own F.excBase_ValueError (fun Y => PySem.HandSPX.refsVE_contains Y bm hbm) (I.kIn _ _ hC) (PySem.W.looks_findIn I.kIn iC) (fun self => PySem.W.bind_fn I.kIn self tI) few (codeAny_mono body ?_))
  rintro (er | fl) s' z
  · exact hx pins σ _ _ er s' J z
  · cases fl with
    | ret u =>
      obtain ⟨v, H2, os2, bare, un, hok, rv, ev, d, fs, ea, ed, hd, q2⟩ := z
      subst ev
      exact ⟨rv, mk_end (raises_own T.exC T.tyC) I big up un hok os2 bare ea ed hd q2⟩
    | _ => exact z.elim
theorem pmk_none {CX : CXT} {x : Str} {C fI : Addr} {k : Nat} {fd : FuncData} {ps : List Str} {sp : Sp} {p pos : Pos} (T : OexC X.K C) (iC : PySem.W.findIn X.K (.ref C) "__init__" = some (some (.ref fI))) (tI : PySem.W.typeIn X.K (.ref fI) = some (.type "function"))
    (F1 : FnOk X.prog X.w X.K X.mg X.base CX k fI fd ps sp) (hr : Room (k + 1) X.A) (hb : Binds X.K fd ps []) (hx : Passes CX X (fun _ _ _ => False)) (hg : Gl X x) (hm : X.mg x = some (.ref C)) (hdb : (x == ("__debug__" : Str)) = false := by decide) :
    PMk X (.Call (.Name x p) [] [] pos) (tMkO C sp [] (fun σ H Q => Q [] H)) := fun pins s σ H Q I h =>
  wpAny_Call_Name_kw (ld_glob I hg hm (PySem.W.callWith_K0 I.kIn T.kC (make_err T iC tI F1 hr hb hx I .nil (by simp) h.2)) hdb)
/-! ### the first of several except clauses takes what is raised -/
/-- an exception at a, of the class cls and with the dict d, that is about to be handled in X's frame -/
def Caught (X : Cx) (pins : List (Addr × Obj)) (a : Addr) (cls : Value) (d : Option Addr) (σ : L2.St) (H : Hp) (s : Shared) : Prop :=
  H a = none ∧ ∃ (B : Heap) (g : Shared), Inv X pins σ H g ∧ (∀ b o, g.heap.get? b = some o → b ∉ frs X.stack → B.get? b = some o) ∧ g.heap.UpToSlots s.heap ∧ HandSPX.FlyingZ B (X.env :: X.outer) a (Zc cls d) s.heap ∧ s.os = g.os ∧ AllBare s.gens
variable {a : Addr} {cls : Value} {d : Option Addr} {σ : L2.St} {H : Hp} {s : Shared}
theorem Caught.inv (c : Caught X pins a cls d σ H s) : Inv X pins σ H s := by
  obtain ⟨_, B, g, J, nb, up, fl, os, ag⟩ := c
  exact J.landed nb fl.1 up os ag
theorem Caught.suite (c : Caught X pins a cls d σ H s) (hf : X.env.frame = some X.env.locals) : ∃ oe vs, s.heap.get? a = some oe ∧ Zc cls d oe ∧ oe.data = .fields vs ∧ Inv (X.suite a ((a, oe) :: (X.pn ++ pins))) [] σ H s := by
  have J := c.inv
  obtain ⟨na, B, g, _, _, _, fl, _⟩ := c
  obtain ⟨oe, vs, he, hz, hd⟩ := fl.there
  have off : a ∉ frs (X.env :: X.outer) := fun m => by
    obtain ⟨_, o, ho, no⟩ := fl.2.2.1.mem m
    cases he.symm.trans ho
    exact no _ hd
  refine ⟨oe, vs, he, hz, hd, J.suite he hd na (fun z => off (List.mem_filterMap.mpr ⟨_, List.mem_cons_self, by rw [hf, z]⟩)) fun m => off ?_⟩
  obtain ⟨e, h1, h2⟩ := List.mem_filterMap.mp m
  exact List.mem_filterMap.mpr ⟨e, List.mem_cons_of_mem _ h1, h2⟩
/-- it comes down into the frame of the try -/
theorem caught_of {W : WX} {xe : Value → Shared → Prop} {u : Value} {E : Value → Shared → Prop} (hs : X.stack = X.env :: X.outer) (hf : X.env.frame = some X.env.locals) (ok : X.Ok) (x : XE (X.tr (X.pn ++ pins) xe) W u s) {R : Unit → Shared → Prop}
    (k : ∀ a cls d σ H s', u = .ref a → W cls d σ H → Caught X pins a cls d σ H s' → R () s') :
    wpAny (model X.prog X.w) X.A (noteFrame u X.env) (fun _ s2 => wpAny (model X.prog X.w) X.A (setFlight u none) R E s2) E s := by
  obtain ⟨a, B, g, pn', σ, H, cls, d, rfl, J, nb, up, sky, na, os, ag, w⟩ := x
  have fr : X.A.frames = some (X.env :: X.outer) := by rw [ok.frames, hs]
  have sky' : Sky B (X.env :: X.outer) a (Zc cls d) X.env.locals s.heap := hs ▸ sky
  exact Sky.land Zc.steady fr hf sky' fun h3 fl up3 => k a cls d σ H _ rfl w ⟨na, B, g, J.ofTry ok, nb, up.trans up3, fl, os, ag⟩
/-- the clause 'except x as n', the first one, x a class that the exception is of -/
theorem clause_first {x n : Str} {c : Value} {i : Nat} {b₀ : Stmt} {suite : List Stmt} {np pos' : Pos} {rest : List ExceptHandler} {D : Ends} {ts : TS} (hs : X.stack = X.env :: X.outer) (hf : X.env.frame = some X.env.locals) (hN : X.N.Nodup) (hi : X.N[i]? = some n) (hln : X.env.kindOf n = some .local) (hc : Names X x c) (ct : Caught X pins a cls d σ H s)
    (hm : PySem.W.exmOne X.K cls c = some true) (hsu : ∀ (oe : Obj) (pn : List (Addr × Obj)), Zc cls d oe → (∃ vs, oe.data = .fields vs) → PSs (X.suite a ((a, oe) :: pn)) (b₀ :: suite) ts)
    (h : ts { nx := fun σ' H' => D.nx (σ'.set i none) H', rt := D.rt, bk := fun σ' H' => D.bk (σ'.set i none) H', ct := fun σ' H' => D.ct (σ'.set i none) H' } (σ.set i (some (.ref a))) H) :
    wpAny (model X.prog X.w) X.A (handleBy (.ref a) X.env (.ExceptHandler (some (.Name x np)) (some n) (b₀ :: suite) pos' :: rest)) (SP X pins D) X.xe s := by
  have ok := ct.inv.ok
  obtain ⟨oe, _, he, hz, _, S⟩ := ct.suite hf
  have isA : PySem.W.Looks (model X.prog X.w) s.heap (typeOf (.ref a)) cls := fun _ _ _ _ k q => wpAny_typeOf_ref (k _ _ he) (by rw [hz.1]; exact q)
  have yes := PySem.W.exm_one (M := model X.prog X.w) ct.inv.kIn isA hm
  refine wpAny_handleBy_cons (codeAny_handlers_test ?_) (fun q => by cases q)
  have look : ∀ {R : Value → Shared → Prop} {E : Value → Shared → Prop}, R c s → wpAny (model X.prog X.w) (X.A.mark (some (.ref a))) (eval (.Name x np) X.env) R E s := fun {R E} q => by
    rcases hc with ⟨g1, g2, g3 | ⟨g3, g4, g5⟩⟩
    · exact ld_glob (X := X.suite a ((a, oe) :: (X.pn ++ pins))) S g1 g3 q g2
    · exact ld_blt (X := X.suite a ((a, oe) :: (X.pn ++ pins))) S g1 g3 g4 q g5 g2
  refine look (yes.here (codeAny_handlers_suite_as ?_))
  have back := ct
  obtain ⟨na, B, g, J, nb, up, fl, os, ag⟩ := back
  refine HandSPX.lands_againZ fl fun h4 fl4 up4 => ?_
  have ct4 : Caught X pins a cls d σ H { s with heap := h4 } := ⟨na, B, g, J, nb, up.trans up4, fl4, os, ag⟩
  obtain ⟨oe4, vs4, he4, hz4, hd4, S4⟩ := ct4.suite hf
  refine store_ok (X := X.suite a ((a, oe4) :: (X.pn ++ pins))) (v := .ref a) S4 hN hi (.inl hln) rfl (fun s5 S5 => ?_) (.inr hln)
  refine wpAny_mono ((hsu oe4 (X.pn ++ pins) hz4 ⟨_, hd4⟩).run [] s5 _ H _ S5 h) (fun f s6 z => ?_) fun _ _ z => z.elim
  cases f with
  | ret u =>
    obtain ⟨v, σ6, H6, S6, r6, q6⟩ := z
    exact gone_ok (S6.unsuite ok) hN hi hln fun s7 J7 => ⟨v, _, _, J7, r6, q6⟩
  | _ =>
    obtain ⟨σ6, H6, S6, q6⟩ := z
    exact gone_ok (S6.unsuite ok) hN hi hln fun s7 J7 => ⟨_, _, J7, q6⟩
/-- what is wished for: it is of the first clause's class, and its suite does the rest -/
def wFirst (K : PySem.W.Frag) (c : Value) (i : Nat) (ts : Addr → Value → Option Addr → TS) (D : Ends) : WX := fun cls d σ H => PySem.W.exmOne K cls c = some true ∧ (i < σ.length →
  ∀ a, H a = none → ts a cls d { nx := fun σ' H' => D.nx (σ'.set i none) H', rt := D.rt, bk := fun σ' H' => D.bk (σ'.set i none) H', ct := fun σ' H' => D.ct (σ'.set i none) H' } (σ.set i (some (.ref a))) H)
theorem ps_try_first {x n : Str} {c : Value} {i : Nat} {body suite : List Stmt} {b₀ : Stmt} {np pos pos' : Pos} {rest : List ExceptHandler} {tb : WX → TS} {ts : Addr → Value → Option Addr → TS} (hs : X.stack = X.env :: X.outer) (hf : X.env.frame = some X.env.locals) (hN : X.N.Nodup) (hi : X.N[i]? = some n) (hln : X.env.kindOf n = some .local) (hc : Names X x c)
    (hb : ∀ (W : WX) (pn : List (Addr × Obj)) (xe : Value → Shared → Prop), Takes (X.tr pn xe) W → PSs (X.tr pn xe) body (tb W))
    (hsu : ∀ (a : Addr) (oe : Obj) (cls : Value) (d : Option Addr) (pn : List (Addr × Obj)), Zc cls d oe → (∃ vs, oe.data = .fields vs) → PSs (X.suite a ((a, oe) :: pn)) (b₀ :: suite) (ts a cls d)) :
    PS X (.Try body (.ExceptHandler (some (.Name x np)) (some n) (b₀ :: suite) pos' :: rest) [] [] pos) (fun D σ H => tb (wFirst X.K c i ts D) D σ H) := by
  constructor
  intro pins s σ H D I h
  have ok := I.ok
  have run := (hb (wFirst X.K c i ts D) (X.pn ++ pins) (fun e s₁ => wpAny (model X.prog X.w) X.A (noteFrame e X.env) (fun _ s₂ => wpAny (model X.prog X.w) X.A (setFlight e none) (fun _ s₃ => wpAny (model X.prog X.w) X.A (handleBy e X.env (.ExceptHandler (some (.Name x np)) (some n) (b₀ :: suite) pos' :: rest)) (SP X pins D) X.xe s₃) X.xe s₂) X.xe s₁)
    (fun u s' z => caught_of hs hf ok z fun a cls d σ1 H1 s3 eu w ct => by
      subst eu
      exact clause_first hs hf hN hi hln hc ct w.1 (fun oe pn => hsu a oe cls d pn) (w.2 (by rw [ct.inv.len]; exact (List.getElem?_eq_some_iff.mp hi).1) a ct.1))).run [] s σ H D (I.toTry _) h
  refine wpAny_Try_except (wpAny_mono run (fun f s1 z => ?_) fun _ _ z => z)
  cases f with
  | next =>
    obtain ⟨σ', H', J, q⟩ := z
    exact wpAny_execs_nil ⟨σ', H', J.ofTry ok, q⟩
  | ret u =>
    obtain ⟨v, σ', H', J, r, q⟩ := z
    exact ⟨v, σ', H', J.ofTry ok, r, q⟩
  | _ =>
    obtain ⟨σ', H', J, q⟩ := z
    exact ⟨σ', H', J.ofTry ok, q⟩
end
end Ip
end
section
set_option Elab.async false
set_option linter.all false
set_option maxRecDepth 100000
set_option maxHeartbeats 4000000
set_option autoImplicit false
namespace Ip
open PySem PySem.Spec PyProof.Rows L2
/-! ### a def called with the exception that is handled -/
structure FnP (P : Program) (w : World) (K : PySem.W.Frag) (mg : Str → Option Value) (base : Heap) (k : Nat) (f : Addr) (fd : FuncData) (ps : List Str) (sp : Addr × Obj → Sp) : Prop where
  len : ∀ p vs H Q E, sp p vs H Q E → vs.length = ps.length
  run : ∀ (A : Around) (outer : List Env) (s : Shared) (H : Hp) (args : Args) (us : List Value) (vs : List V) (Q : VK) (E : XK) (p : Addr × Obj), L2H.RoomH k A → L2H.PinOk outer H s p → Env0 P w K mg base A outer s H → BindsTo s fd args (ps.zip us) → Vals vs us → sp p vs H Q E →
    codeAny (model P w) A (.call (.ref f) args) (CR CX0 outer P w H s Q E) s
theorem fnP_of {P : Program} {w : World} {K : PySem.W.Frag} {mg : Str → Option Value} {base : Heap} {k : Nat} {f : Addr} {x qual : Str} {st : Stmt} {fd : FuncData} {N ps : List Str} {sp : Addr × Obj → Sp} (F : Fun K x qual st f fd) (S : FnScope N ps (defScope st))
    (len : ∀ p vs H Q E, sp p vs H Q E → vs.length = ps.length)
    (hbody : ∀ (cdv : Value) (A : Around) (outer : List Env) (s : Shared) (H : Hp) (vs : List V) (Q : VK) (E : XK) (p : Addr × Obj), L2H.RoomH k (A.deeper (envOfC qual (defScope st) s.heap.objs.size f cdv)) → sp p vs H Q E →
      ∃ t, PSs (L2H.cxH CX0 P w K mg base N qual (defScope st) f cdv A outer s H E p) (defBody st) t ∧ t { nx := fun _ H' => Q .non H', rt := Q } (L2.start N vs) H) :
    FnP P w K mg base (k + 1) f fd ps sp := by
  obtain ⟨_, _, _, _, _, _, cdv, _, _, rfl, text, code⟩ := F.ex
  constructor
  · exact len
  intro A outer s H args us vs Q E p room pin e0 bound rv h
  have stay := fun b o e => (e0.bs b o e).1
  have frag := e0.mod.kin.keeps stay
  have kinds : ∀ y ∈ ps.zip us, (defScope st).names.lookup y.1 = some .local ∨ ((defScope st).names.lookup y.1 = some .cell ∧ ((cellsFrom (s.heap.objs.size + 1) (defScope st).names []).lookup y.1).isSome = true) := by
    rintro ⟨n, v⟩ hy
    exact (S.par n (List.of_mem_zip hy).1).imp id fun c => ⟨c, PySem.W.cellsFrom_some _ _ _ (.inl c)⟩
  refine codeAny_call_function room.depth (frag _ _ text) rfl S.co S.gen rfl (PySem.W.codeRec_of frag code) (bound _ _ _ _ (wpAny_newFunctionEnv_cells S.kind kinds ?_))
  rintro _ rfl s1 entered
  obtain ⟨t, body, q⟩ := hbody cdv A outer s H vs Q E p (room.deeper _) h
  have I0 := L2H.inv_startH (CX := CX0) (N := N) (E := E) S pin e0 (len _ _ _ _ _ h) rv entered
  refine ⟨(e0.mod.nolimit.keeps stay).keeps entered.toInCall.keep, codeAny_func (wpAny_mono (body.run [] s1 _ H _ I0 q) (fun fl s' z => ?_) fun _ _ z => z)⟩
  cases fl with
  | ret u =>
    obtain ⟨v, _, H', J, r, q'⟩ := z
    exact ⟨v, H', J.os, J.bare, J.base, J.hok, r, q'⟩
  | next =>
    obtain ⟨_, H', J, q'⟩ := z
    exact ⟨V.non, H', J.os, J.bare, J.base, J.hok, rfl, q'⟩
  | _ =>
    obtain ⟨_, _, _, q'⟩ := z
    exact q'.elim
section
variable {X : Cx}
theorem pin_ok {pins : List (Addr × Obj)} {σ : L2.St} {H : Hp} {s : Shared} {p : Addr × Obj} (I : Inv X pins σ H s) (hp : p ∈ X.pn) : L2H.PinOk X.stack H s p := by
  obtain ⟨h1, h2, h3, h4, h5⟩ := I.pin p (List.mem_append_left _ hp)
  refine ⟨h1, h2, fun m => ?_, h5⟩
  rcases List.mem_cons.mp (I.stkSub p.1 m) with z | z
  · exact h3 z
  · exact h4 z
theorem pe_callP {k : Nat} {f : Addr} {fd : FuncData} {ps : List Str} {sp : Addr × Obj → Sp} {x : Str} {q pos : Pos} {e : Expr} {es : List Expr} {t : TA} {p : Addr × Obj} (hp : p ∈ X.pn) (F : FnP X.prog X.w X.K X.mg X.base k f fd ps sp) (hr : L2H.RoomH k X.A) (hg : Gl X x) (hm : X.mg x = some (.ref f)) (hk : PySem.W.keepIn X.K (.ref f) = true) (hb : Binds X.K fd ps [])
    (ha : PA X (e :: es) t) (hdb : (x == ("__debug__" : Str)) = false := by decide) (he : starEach (e :: es) X.env = (false, eval e X.env) :: starEach es X.env := by rfl) (hpl : (backTo pos (starEach es X.env)).any (·.1) = false := by rfl) :
    PE X (.Call (.Name x q) (e :: es) [] pos) (fun σ H Q => t σ H fun vs H1 => sp p vs H1 Q E0) := by
  constructor
  intro pins s σ H Q I h
  refine wpAny_Call_Name_kw (ld_glob I hg hm (PySem.W.callWith_K (h₀ := X.base) I.ok.mod.kin hk (thn (ha.run pos pins s σ H _ I h) ?_) he hpl) hdb)
  rintro us s1 ⟨vs, H1, I1, r, z⟩
  have bound := hb s1 us I1.kIn (by rw [List.append_nil, ← r.length]; exact F.len _ _ _ _ _ z)
  rw [List.append_nil] at bound
  refine ⟨I1.kIn, wpAny_call (codeAny_mono (F.run X.A X.stack s1 H1 ⟨us, []⟩ us vs Q E0 p hr (pin_ok I1 hp) I1.env0 bound r z) ?_)⟩
  rintro (er | fl) s' y
  · exact (show False from y).elim
  · cases fl with
    | ret u => exact I1.after y
    | _ => exact y.elim
/-- e.n of the exception that is handled -/
theorem pe_xfP {C : Addr} {d : Option Addr} {p : Addr × Obj} {e : Expr} {te : TE} {pos : Pos} {n : Str} (hp : p ∈ X.pn) (T : XfC X.K C) (hno : PySem.W.findIn X.K (.ref C) n = some none)
    (hz : Zc (.ref C) d p.2) (hf : ∃ vs, p.2.data = .fields vs) (he : PE X e te) (hb : attributeBase e n X.env (eval e X.env) = eval e X.env := by rfl) :
    PE X (.Attribute e n pos) (tXf p.1 (.ref C) d C n te) := by
  constructor
  intro pins s σ H Q I h
  refine attr_of hb (thn (he.run pins s σ H _ I h) ?_)
  rintro u s1 ⟨_, H1, I1, ru, rfl, _, dd, fs, v, rfl, xd, l, q⟩
  cases ru
  have ⟨mA, ns, rel⟩ : ObjOk X.prog X.w H1 s1.heap dd (.xd fs) := I1.hok dd _ xd
  obtain ⟨od, ho, hl⟩ := lookIn_ns ns
  have rn := rel n
  rw [l] at rn
  obtain ⟨u, hu, ru⟩ := RelO.some_of rn
  obtain ⟨_, data⟩ := hf
  have it : PySem.W.InstAt s1.heap p.1 p.2 C (some od) := ⟨(pin_ok I1 hp).get, hz.1, by unfold PySem.W.notCls; rw [data], by rw [hz.2]; exact ho⟩
  exact HandSPX.exc_get I1.kIn it T.ga T.gg T.exC (PySem.W.findObj_own T.hdC hno rfl (by rw [hl, hu])) (handed_of ru) ⟨v, H1, I1.tok _, ru, q⟩
end
/-! ### what the law tells of an error -/
def xNames : List Str := ["word", "number", "at", "name", "cell", "most", "label", "other"]
structure XcC (K : PySem.W.Frag) (C : Addr) : Prop where
  xf : XfC K C
  no : ∀ n ∈ xNames, PySem.W.findIn K (.ref C) n = some none
def xcB (K : PySem.W.Frag) (C : Addr) : Bool := xfB K C && xNames.all fun n => decide (PySem.W.findIn K (.ref C) n = some none)
theorem xcB_ok {K : PySem.W.Frag} {C : Addr} (h : xcB K C = true) : XcC K C := by
  obtain ⟨h1, h2⟩ := Bool.and_eq_true_iff.mp h
  exact ⟨xfB_ok h1, fun n hn => of_decide_eq_true (List.all_eq_true.mp h2 n hn)⟩
def Exn.at (e : Exn) (n : Str) : Option D := (e.ks.zip e.vs).lookup n
def fieldD (e : Exn) (w : Str) : Option D :=
  if w = "BadRow" ∨ w = "BadCount" then e.at "number"
  else if w = "BadPieces" ∨ w = "BadCommand" ∨ w = "BadDeed" ∨ w = "BadText" then e.at "at"
  else if w = "BadName" ∨ w = "Taken" then e.at "name"
  else if w = "Gone" ∨ w = "Ring" then e.at "cell"
  else if w = "TooManyPieces" ∨ w = "Full" then e.at "most"
  else if w = "Clash" then match e.at "label", e.at "other" with
    | some a, some b => some (.tup [a, b])
    | _, _ => none
  else some .non
/-- what stands of an exception in the heap -/
structure ExS (G : Gx) (H : Hp) (ρ : Rho) (M : Sto) (e : Exn) (dd : Addr) (us : List V) : Prop where
  rs : RS G H ρ M
  xd : H dd = some (.xd (e.ks.zip us))
  no : dd ∉ ρ
  len : e.ks.length = us.length
  rv : RVs G H ρ e.vs us
theorem zip_look {G : Gx} {H : Hp} {ρ : Rho} : ∀ {ks : List Str} {ds : List D} {us : List V} {n : Str} {d : D}, RVs G H ρ ds us → (ks.zip ds).lookup n = some d → ∃ v, (ks.zip us).lookup n = some v ∧ RV G H ρ d v
  | [], _, _, _, _, _, h => by simp at h
  | _ :: _, [], _, _, _, .nil, h => by simp at h
  | k :: ks, d0 :: ds, u :: us, n, d, .cons r rs, h => by
    simp only [List.zip_cons_cons, List.lookup] at h ⊢
    split at h
    · cases h; exact ⟨u, rfl, r⟩
    · exact zip_look rs h
theorem ExS.at {G : Gx} {H : Hp} {ρ : Rho} {M : Sto} {e : Exn} {dd : Addr} {us : List V} (x : ExS G H ρ M e dd us) {n : Str} {d : D} (h : e.at n = some d) : ∃ v, (e.ks.zip us).lookup n = some v ∧ RV G H ρ d v := zip_look x.rv h
theorem ExS.new {G : Gx} {H : Hp} {ρ : Rho} {M : Sto} {e : Exn} {dd : Addr} {us : List V} (x : ExS G H ρ M e dd us) {p : Addr} {o : HO} (hp : H p = none) : ExS G (upd H p o) ρ M e dd us :=
  ⟨x.rs.new hp, by rw [upd_ne (ne_of_none x.xd hp)]; exact x.xd, x.no, x.len, x.rv.mono (Ext.new x.rs hp)⟩
def spF (G : Gx) (p : Addr × Obj) : Sp := fun vs H Q _ => ∃ (C dd : Addr) (e : Exn) (us : List V) (ρ : Rho) (M : Sto) (w : Str) (d : D), vs = [.ref p.1] ∧ Zc (.ref C) (some dd) p.2 ∧ (∃ vs, p.2.data = .fields vs) ∧ XcC G.K C ∧ ExS G H ρ M e dd us ∧ e.at "word" = some (.str w) ∧ fieldD e w = some d ∧ oP G H ρ Q d M
def tStrs : List Str → TA
  | [] => tNil
  | w :: ws => tCons (tC (.str w)) (tStrs ws)
theorem strs_q : ∀ (ws : List Str) {σ : L2.St} {H : Hp} {Q : List V → Hp → Prop}, Q (ws.map V.str) H → tStrs ws σ H Q
  | [], _, _, _, h => h
  | w :: ws, σ, H, Q, h => strs_q ws (Q := fun xs H2 => Q (.str w :: xs) H2) h
theorem in_strs (w : Str) : ∀ ws : List Str, inV (.str w) (ws.map V.str) = decide (w ∈ ws)
  | [] => rfl
  | x :: ws => by
    have := in_strs w ws
    unfold inV at this ⊢
    rw [List.map_cons, List.any_cons, this]
    simp only [eqV, List.mem_cons]
    by_cases h : w = x
    · subst h; simp
    · have : (x == w) = false := by simpa using Ne.symm h
      simp [h, this]
theorem flat_strs : ∀ ws : List Str, (ws.map V.str).all flatV = true
  | [] => rfl
  | x :: ws => by rw [List.map_cons, List.all_cons, flat_strs ws]; rfl
/-- e.word in (..) -/
theorem in_q {K : PySem.W.Frag} {a C dd : Addr} {H : Hp} {fs : List (Str × V)} {wd : Str} (ws : List Str) {σ : L2.St} {Q : Bool → Hp → Prop} (h0 : σ[0]? = some (some (.ref a))) (hx : H dd = some (.xd fs)) (hl : fs.lookup (Str.ofString "word") = some (V.str wd)) (hz : ws.length ≤ 100) (h : ∀ q, H q = none → Q (decide (wd ∈ ws)) (upd H q (.tup (ws.map V.str)))) :
    tOp (rIn K false) (tXf a (.ref C) (some dd) C "word" (tVar 0)) (tTup (tStrs ws)) σ H fun x H' => ∃ k, x = .bl k ∧ Q k H' := by
  refine ⟨.ref a, h0, rfl, rfl, dd, fs, .str wd, rfl, hx, hl, strs_q ws ⟨by rw [List.length_map]; exact line_of (by omega), fun q hq => ⟨q, _, rfl, .inr (SqT.of upd_same), rfl, flat_strs ws, ?_⟩⟩⟩
  rw [if_neg (by decide), in_strs]
  exact ⟨_, rfl, h q hq⟩
/-- e.n -/
theorem xf_qi {a C dd : Addr} {n : Str} {H : Hp} {fs : List (Str × V)} {v : V} {i : Nat} {σ : L2.St} {Q : VK} (h0 : σ[i]? = some (some (.ref a))) (hx : H dd = some (.xd fs)) (hl : fs.lookup n = some v) (h : Q v H) : tXf a (.ref C) (some dd) C n (tVar i) σ H Q :=
  ⟨.ref a, h0, rfl, rfl, dd, fs, v, rfl, hx, hl, h⟩
theorem xf_q {a C dd : Addr} {n : Str} {H : Hp} {fs : List (Str × V)} {v : V} {σ : L2.St} {Q : VK} (h0 : σ[0]? = some (some (.ref a))) (hx : H dd = some (.xd fs)) (hl : fs.lookup n = some v) (h : Q v H) : tXf a (.ref C) (some dd) C n (tVar 0) σ H Q :=
  ⟨.ref a, h0, rfl, rfl, dd, fs, v, rfl, hx, hl, h⟩
/-! ### told -/
/-- the promise of what is told of an error under the base class -/
def EchT (G : Gx) (SE : Addr) (Q : VK) : XK := fun cls d H => ∃ (C dd : Addr) (e : Exn) (us : List V) (ρ : Rho) (M : Sto) (w : Str) (d' : D), cls = .ref C ∧ d = some dd ∧ XcC G.K C ∧ PySem.W.exmOne G.K (.ref C) (.ref SE) = some true ∧ ExS G H ρ M e dd us ∧ e.at "word" = some (.str w) ∧ fieldD e w = some d' ∧ oP G H ρ Q (.tup [.str w, d']) M
def TTold2 (G : Gx) (SE : Addr) : (XK → Hp → VK → Prop) → Hp → VK → Prop := fun tl H Q => tl (EchT G SE Q) H fun v H1 => [V.str "told", v].length ≤ sizeLine ∧ ∀ p, H1 p = none → Q (.ref p) (upd H1 p (.tup [.str "told", v]))
def dTold (errs : List Str) (fe : DE) : DE := fun env M => match fe env M with
  | .ok d M1 => .ok (.tup [.str "told", d]) M1
  | .exc e _ M1 => if e.c ∈ errs then match e.at "word" with
      | some (.str w) => match fieldD e w with
        | some d => .ok (.tup [.str w, d]) M1
        | none => .bad
      | _ => .bad
    else .bad
  | .bad => .bad
theorem ext_of_N {G : Gx} {H H1 : Hp} {ρ : Rho} {M : Sto} (S : RS G H ρ M) (e : LamX.ExtN H H1) (tb : TabR G H1) : Ext G H ρ H1 ρ ∧ RS G H1 ρ M := by
  have hk : ∀ a, a ∈ ρ → H1 a = H a := fun a ha => by
    obtain ⟨o, ho, co⟩ := S.has ha
    rw [ho]
    exact e a o ho co.tbl
  have ex : Ext G H ρ H1 ρ := ⟨fun _ _ h => h, rfl, fun a ha => hk a (.inr ha), fun a xs h => by
    rcases h with (h | ⟨q, h⟩) | h
    · exact .inl (.inl (e _ _ h (fun _ z => by cases z)))
    · exact .inl (.inr ⟨q, e _ _ h (fun _ z => by cases z)⟩)
    · exact .inr h, fun a o n nt h => ⟨e a o h nt, n⟩⟩
  exact ⟨ex, S.ext ex (fun a ha => hk a (.inl ha)) tb⟩
/-- the lambda's reading, told -/
theorem told_q {X : Cx} {cl : Str → Option Addr} {W : WX} {errs : List Str} {fe : DE} {T : List (Addr × Str)} {SE : Addr} (hT : ∀ q P, lamQ q = true → cl q = some P → (P, q) ∈ T) (hT' : ∀ p ∈ T, lamQ p.2 = true ∧ cl p.2 = some p.1)
    (hX : ∀ c ∈ errs, ∀ C, cl c = some C → XcC X.K C ∧ PySem.W.exmOne X.K (.ref C) (.ref SE) = some true) {σ : L2.St} {H : Hp} {Q : VK} (h : dE (gx X cl) W (dTold errs fe) σ H Q) :
    LamX.tLam T (TTold2 (gx X cl) SE) (fun E => dE (gx X cl) (WC E) fe) σ H Q := by
  obtain ⟨ρ, env, M, hE, hS, h⟩ := h
  refine ⟨fun p hp => hS.tb p.2 p.1 (hT' p hp).1 (hT' p hp).2, fun H1 eN T1 => ?_⟩
  obtain ⟨ex, S1⟩ := ext_of_N hS eN (fun q P hq hc => T1 _ (hT q P hq hc))
  refine ⟨ρ, env, M, hE.mono ex, S1, ?_⟩
  unfold dTold at h
  cases hf : fe env M with
  | bad => rw [hf] at h; exact h.elim
  | ok d M1 =>
    rw [hf] at h
    have h : oP (gx X cl) H ρ Q (.tup [.str "told", d]) M1 := h
    refine fun ρ2 v H2 x2 S2 r2 => ⟨line_of (by simp), fun p hp => ?_⟩
    have en := Ext.new (o := .tup [.str "told", v]) S2 hp
    exact h ρ2 (.ref p) _ (ex.trans (x2.trans en)) (S2.new hp) (.tup (SqT.of upd_same) (.two (.str _) (r2.mono en)))
  | exc e ev M1 =>
    rw [hf] at h
    simp only at h
    split at h
    · rename_i hc
      split at h
      · rename_i w hw
        split at h
        · rename_i d hd
          intro ρ' H' σ' C dd vs a b c hC hxd nd hl rv
          obtain ⟨k1, k2⟩ := hX e.c hc C hC
          exact ⟨C, dd, e, vs, ρ', M1, w, d, rfl, rfl, k1, k2, ⟨b, hxd, nd, hl, rv⟩, hw, hd, oP.sh (ex.trans a) h⟩
        · exact h.elim
      · exact h.elim
    · exact h.elim
end Ip
end
section
set_option Elab.async false
set_option linter.all false
set_option maxRecDepth 100000
set_option maxHeartbeats 4000000
set_option autoImplicit false
namespace Ip
open PySem PySem.Spec PyProof.Rows L2
/-! ### a def whose code object is named -/
structure FunC (K : PySem.W.Frag) (x qual : Str) (st : Stmt) (f : Addr) (fd : FuncData) (c : Value) : Prop where
  ex : ∃ (oc : Value) (od : Option Addr) (kV doc pm : Value) (an : Option Addr) (ct : Value) (osl : Array (Option Value)), fd = PySem.W.fnOf x qual (defArgs st) (defBody st) (defScope st) .none kV doc pm an c ct ∧
    K.lookup f = some ⟨oc, od, .func (PySem.W.fnOf x qual (defArgs st) (defBody st) (defScope st) .none kV doc pm an c ct), osl⟩ ∧ PySem.W.codeIn K c qual = true
theorem fnokC {P : Program} {w : World} {K : PySem.W.Frag} {mg : Str → Option Value} {base : Heap} {cl : Str → Option Addr} {x qual : Str} {st : Stmt} {f : Addr} {fd : FuncData} {c : Value} {N ps : List Str} {k : Nat} {fb : DS} (F : FunC K x qual st f fd c) (S : FnScope N ps (defScope st))
    (hb : ∀ (A : Around) (outer : List Env) (s : Shared) (H : Hp) (E : XK), Room k (A.deeper (envOfC qual (defScope st) s.heap.objs.size f c)) → SSs (cxOf CX0 P w K mg base N qual (defScope st) f c A outer s H E).nox cl W0 (defBody st) fb) :
    FnOk P w K mg base CX0 (k + 1) f fd ps (spD ⟨K, cl⟩ (runF N.length ps.length fb)) := by
  obtain ⟨oc, od, kV, doc, pm, an, ct, osl, rfl, lk, hcd⟩ := F.ex
  refine fn_of lk hcd S (fun vs H Q E ⟨ρ, M, ds, hS, r, h⟩ => by rw [r.length]; exact (runF_len h).1) fun A outer s H vs Q E hr ⟨ρ, M, ds, hS, r, h⟩ => ⟨_, (hb A outer s H E hr).nox, ?_⟩
  obtain ⟨hl, h⟩ := runF_len h
  rw [← hl] at h
  refine ⟨ρ, _, M, RE.start (N := N) r, hS, (post_bind h).imp (fun fl M1 hx => ?_) (fun _ _ _ z => z.elim)⟩
  cases fl with
  | nx env => exact fun ρ1 σ1 H1 e1 S1 E1 => hx ρ1 .non H1 e1 S1 .non
  | rt d => exact hx
  | bk env => exact hx.elim
  | ct env => exact hx.elim
theorem xcC_mk {K : PySem.W.Frag} {C : Addr} (ga : PySem.W.findIn K (.ref C) "__getattribute__" = some (some (.builtin "BaseException.__getattribute__"))) (gg : PySem.W.findIn K (.ref C) "__getattr__" = some none) (ex : PySem.W.subIn K (.ref C) (.type "BaseException") = some true) (hd : PySem.W.hasDictIn K C = true)
    (n1 : PySem.W.findIn K (.ref C) "word" = some none) (n2 : PySem.W.findIn K (.ref C) "number" = some none) (n3 : PySem.W.findIn K (.ref C) "at" = some none) (n4 : PySem.W.findIn K (.ref C) "name" = some none) (n5 : PySem.W.findIn K (.ref C) "cell" = some none) (n6 : PySem.W.findIn K (.ref C) "most" = some none) (n7 : PySem.W.findIn K (.ref C) "label" = some none) (n8 : PySem.W.findIn K (.ref C) "other" = some none) : XcC K C :=
  ⟨⟨ga, gg, ex, hd⟩, fun n hn => by
    simp only [xNames, List.mem_cons, List.not_mem_nil, or_false] at hn
    rcases hn with rfl | rfl | rfl | rfl | rfl | rfl | rfl | rfl
    · exact n1
    · exact n2
    · exact n3
    · exact n4
    · exact n5
    · exact n6
    · exact n7
    · exact n8⟩
theorem exm_mk {K : PySem.W.Frag} {C B : Addr} {x : ClassData} (sb : PySem.W.subIn K (.ref B) (.type "BaseException") = some true) (k : PySem.W.clsIn K B = some x) (ty : PySem.W.typeIn K (.ref B) = some (.type "type")) (su : PySem.W.subIn K (.ref C) (.ref B) = some true) : PySem.W.exmOne K (.ref C) (.ref B) = some true := by
  unfold PySem.W.exmOne PySem.W.kitCls
  rw [if_pos (by rw [sb]; rfl)]
  simp only
  rw [if_pos (by rw [k, ty]; rfl), su]
theorem codeHd_mk {K : PySem.W.Frag} {h : Heap} {c P : Addr} {o : Obj} (X : K.In h) (e : K.lookup c = some o) (q : PySem.W.codeHdIn [(c, o)] c P = true) : PySem.W.CodeHd h c P := by
  refine PySem.W.codeHd_of_K (K := [(c, o)]) (fun a o' z => ?_) q
  simp only [List.lookup] at z
  split at z
  · rename_i q; cases z; rw [beq_iff_eq.mp q]; exact X _ _ e
  · cases z
/-! ### errors with an int -/
def okInt : V → Hp → Prop := fun v _ => ∃ i : Int, v = .int i ∧ i.natAbs.log2 < 1920
def okIntD : D → Bool
  | .int i => decide (i.natAbs.log2 < 1920)
  | _ => false
theorem okInt_of {G : Gx} {H : Hp} {ρ : Rho} {M : Sto} {d : D} {v : V} (_ : RS G H ρ M) (r : RV G H ρ d v) (h : okIntD d = true) : okInt v H := by
  cases r <;> simp only [okIntD, Bool.false_eq_true] at h
  exact ⟨_, rfl, of_decide_eq_true h⟩
theorem msg2 {a b : Str} (ha : a.length ≤ 1000) (hb : b.length ≤ 1921) : (a ++ b).length ≤ sizeLine := by
  rw [Str.length_append]
  exact line_of (by omega)
theorem msg3 {a b c : Str} (ha : a.length ≤ 1000) (hb : b.length ≤ 1921) (hc : c.length ≤ 1000) : (a ++ b ++ c).length ≤ sizeLine := by
  rw [Str.length_append, Str.length_append]
  exact line_of (by omega)
/-! ### an object made by a class whose __init__ may raise -/
def kMakeX (c : Str) (F : DF) (env : En) (ds : List D) (M1 : Sto) : Out D := match F (.ref M1.length :: ds) (M1 ++ [.ins c [] []]) with
  | .ok .non M2 => frzO M1.length (.ref M1.length) M2
  | .exc e _ M2 => if closedAll M1.length e.vs && (M2.take M1.length).all (cellClosed M1.length) then .exc e env (M2.take M1.length) else .bad
  | _ => .bad
def dMakeX (c : Str) (F : DF) (fa : DA) : DE := fun env M => (fa env M).bind fun ds M1 => kMakeX c F env ds M1
section
variable {X : Cx} {cl : Str → Option Addr} {Ex : XK}
theorem se_makeX {c : Str} {C f : Addr} {k : Nat} {fd : FuncData} {ps : List Str} {F : DF} {x : Str} {e : Expr} {es : List Expr} {fa : DA} {p pos : Pos} (tk : Takes X (WC Ex)) (hC : cl c = some C) (Mk' : Mk X.K C f) (Fk : FnOk X.prog X.w X.K X.mg X.base (L2.CX X.prog X.w) k f fd ps (spX (gx X cl) F)) (hr : Room (k + 1) X.A) (hg : Gl X x) (hm : X.mg x = some (.ref C)) (hb : Binds X.K fd ps [])
    (ha : SA X cl (WC Ex) (e :: es) fa) (hdb : (x == ("__debug__" : Str)) = false := by decide) (he : starEach (e :: es) X.env = (false, eval e X.env) :: starEach es X.env := by rfl) (hpl : (backTo pos (starEach es X.env)).any (·.1) = false := by rfl) :
    SE X cl (WC Ex) (.Call (.Name x p) (e :: es) [] pos) (dMakeX c F fa) :=
  PEweak (pe_make Mk' Fk hr hg hm hb .nil (E := Ex) (passes_call tk fun _ _ _ _ h => h) ha hdb he hpl) fun σ H Q ⟨ρ, env, M, hE, hS, h⟩ => by
    refine ⟨ρ, env, M, hE, hS, (post_bind h).imp (fun ds M1 hx ρ1 vs H1 e1 S1 r1 x dx nx ndx nex => ?_) (fun _ _ _ z => z)⟩
    show spX (gx X cl) F (.ref x :: (vs ++ [])) _ _ Ex
    rw [List.append_nil]
    have S2 : RS (gx X cl) (upd H1 dx (.own x)) ρ1 M1 := S1.new ndx
    have x2 : Ext (gx X cl) H1 ρ1 (upd H1 dx (.own x)) ρ1 := Ext.new S1 ndx
    have nx2 : upd H1 dx (.own x) x = none := by rw [upd_ne (Ne.symm nex)]; exact nx
    have x3 : Ext (gx X cl) (upd H1 dx (.own x)) ρ1 (upd (upd H1 dx (.own x)) x (.ins C dx [])) (ρ1.add x) := Ext.cell S2 nx2
    have S3 : RS (gx X cl) (upd (upd H1 dx (.own x)) x (.ins C dx [])) (ρ1.add x) (M1 ++ [.ins c [] []]) := S2.cell nx2 ⟨C, dx, [], hC, upd_same, rfl, .nil⟩
    refine ⟨ρ1.add x, _, .ref M1.length :: ds, S3, .cons (.ref S1.at_new) ((r1.mono x2).mono x3), ?_⟩
    unfold kMakeX at hx
    cases hF : F (.ref M1.length :: ds) (M1 ++ [.ins c [] []]) with
    | bad => rw [hF] at hx; exact hx.elim
    | ok d M2 =>
      rw [hF] at hx
      cases d with
      | non =>
        intro ρ4 v H4 e4 S4 r4
        cases r4
        exact ⟨rfl, frzO_ok (H := H1) (ρ := ρ1) S1 (Out.post.imp (E' := fun _ _ _ => True) hx (fun _ _ z => oP.sh e1 z) (fun _ _ _ _ => trivial)) ρ4 (.ref x) H4 (x2.trans (x3.trans e4)) S4 (.ref (e4.pre _ _ S1.at_new))⟩
      | _ => exact hx.elim
    | exc e ev M2 =>
      rw [hF] at hx
      simp only at hx
      split at hx
      · rename_i hcl
        obtain ⟨h1, h2⟩ := Bool.and_eq_true_iff.mp hcl
        intro ρ' H' C' d' vs' a b c1 c2 c3 c4 c5
        have ex := e1.trans (Ext.cut (M' := M2) S1 (x2.trans (x3.trans a)))
        exact hx (ρ'.cut M1.length) H' σ C' d' vs' ex (b.cut h2) (hE.mono ex) c1 c2 (Rho.cut_sub c3) c4 (c5.cut h1)
      · exact hx.elim
end
/-! ### _law_told(lambda: e) -/
section
variable {X : Cx} {cl : Str → Option Addr} {W : WX}
theorem se_told {errs : List Str} {fe : DE} {st : Stmt} {g c P aE : Addr} {fd : FuncData} {cdv : Value} {k : Nat} {Tl : List (Addr × Str)} {params : Arguments} {body : Expr} {scope : Scope} {p lpos pos : Pos}
    (hm : X.mg "_law_told" = some (.ref g)) (hk : PySem.W.keepIn X.K (.ref g) = true) (F : FunC X.K "_law_told" "_law_told" st g fd cdv) (hb : Binds X.K fd ["_law_ask"] []) (Sg : FnScope ["_law_ask", "_law_e"] ["_law_ask"] (defScope st)) (hva : Vis (defScope st) "_law_ask")
    (hG : LamX.GivesTo X ["_law_ask", "_law_e"] "_law_told" (defScope st) g cdv (defBody st) "_law_ask" (X.env.qual ++ "<lambda>") (TTold2 (gx X cl) aE))
    (hX : ∀ c ∈ errs, ∀ C, cl c = some C → XcC X.K C ∧ PySem.W.exmOne X.K (.ref C) (.ref aE) = some true)
    (TB : LamX.TabB X.base X.mg c P) (hcode : X.env.code = .ref c) (hT : ∀ q P, lamQ q = true → cl q = some P → (P, q) ∈ Tl) (hT' : ∀ p ∈ Tl, lamQ p.2 = true ∧ cl p.2 = some p.1) (hmT : (P, X.env.qual ++ "<lambda>") ∈ Tl) (hu : ∀ p ∈ Tl, p.1 = P → p.2 = X.env.qual ++ "<lambda>")
    (hr : Room (k + 2) X.A) (hg : Gl X "_law_told") (L : LamX.LamS X.env.scope scope) (hdef : defaultsOf params X.env = ([], []))
    (hbind : ∀ (q : Str) (cl : List (Str × Addr)) (pm cv ctv : Value), bindArgs (PySem.W.kla_fn "<lambda>" q params body scope cl pm cv ctv) ⟨[], []⟩ = pure [])
    (hbody : ∀ (A : Around) (outer : List Env) (s : Shared) (H : Hp) (E : XK) (f c' : Addr), Room k (A.deeper (LamX.lamEnv X scope s.heap.objs.size f c')) → Takes (LamX.lamCx X A outer s H E scope f c') (WC E) → SE (LamX.lamCx X A outer s H E scope f c') cl (WC E) body fe) :
    SE X cl W (.Call (.Name "_law_told" p) [.Lambda params body scope lpos] [] pos) (dTold errs fe) := by
  obtain ⟨oc, od, kV, doc, pm, an, ct, osl, rfl, lk, hcd⟩ := F.ex
  exact PEweak (LamX.pe_lamcall (T := Tl) (k := k) (t := fun E => dE (gx X cl) (WC E) fe) hg hm hk lk hcd hb Sg rfl hva hG TB hcode hmT hu hr L hdef hbind (fun A outer s H E f c' h => hbody A outer s H E f c' h (takes_of rfl rfl rfl rfl))) fun σ H Q h => told_q hT hT' hX h
end
end Ip
end
section
set_option Elab.async false
set_option linter.all false
set_option maxRecDepth 100000
set_option maxHeartbeats 4000000
set_option autoImplicit false
namespace Ip
open PySem PyProof.Rows L2
/-! ### denotations run step by step: what is to follow stands behind a name until its turn has come -/
section
variable {α β : Type} (env : En) (M : Sto)
theorem bind_ok (a : α) (k : α → Sto → Out β) : (Out.ok a M).bind k = k a M := rfl
theorem bind_bad (k : α → Sto → Out β) : (Out.bad : Out α).bind k = .bad := rfl
theorem bind_exc (e : Exn) (k : α → Sto → Out β) : (Out.exc e env M : Out α).bind k = .exc e env M := rfl
theorem liftM_some (d : D) : Ip.liftM (some (d, M)) = .ok d M := rfl
theorem liftM_none : Ip.liftM none = .bad := rfl
theorem noex_ok (a : α) : noex (.ok a M) = .ok a M := rfl
theorem noex_bad : noex (.bad : Out α) = .bad := rfl
-- expressions
def varO (o : Option (Option D)) (M : Sto) : Out D := match o with
  | some (some d) => .ok d M
  | _ => .bad
theorem ev_var (i : Nat) : dVar i env M = varO env[i]? M := rfl
theorem ev_varO (d : D) : varO (some (some d)) M = .ok d M := rfl
theorem celL_l (l : List D) : celL (some (.lst l)) = some l := rfl
theorem asL_ref (n : Nat) : asL (.ref n) M = celL M[n]? := rfl
theorem asL_lst (l : List D) : asL (.lst l) M = some l := rfl
theorem ev_c (d : D) : dC d env M = .ok d M := rfl
def kBin2 (g : G2) (x : D) : D → Sto → Out D := fun y M2 => Ip.liftM (g x y M2)
def kBin (g : G2) (fb : DE) (env : En) : D → Sto → Out D := fun x M1 => (fb env M1).bind (kBin2 g x)
theorem ev_bin (g : G2) (fa fb : DE) : dBin g fa fb env M = (fa env M).bind (kBin g fb env) := rfl
theorem ev_kBin (g : G2) (fb : DE) (x : D) : kBin g fb env x M = (fb env M).bind (kBin2 g x) := rfl
theorem ev_kBin2 (g : G2) (x y : D) : kBin2 g x y M = Ip.liftM (g x y M) := rfl
def kUn (g : D → Sto → Option (D × Sto)) : D → Sto → Out D := fun x M1 => Ip.liftM (g x M1)
theorem ev_un (g : D → Sto → Option (D × Sto)) (fa : DE) : dUn g fa env M = (fa env M).bind (kUn g) := rfl
theorem ev_kUn (g : D → Sto → Option (D × Sto)) (x : D) : kUn g x M = Ip.liftM (g x M) := rfl
theorem ev_nilA : dNilA env M = .ok [] M := rfl
def kCons2 (x : D) : List D → Sto → Out (List D) := fun xs M2 => .ok (x :: xs) M2
def kCons (fr : DA) (env : En) : D → Sto → Out (List D) := fun x M1 => (fr env M1).bind (kCons2 x)
theorem ev_consA (fa : DE) (fr : DA) : dConsA fa fr env M = (fa env M).bind (kCons fr env) := rfl
theorem ev_kCons (fr : DA) (x : D) : kCons fr env x M = (fr env M).bind (kCons2 x) := rfl
theorem ev_kCons2 (x : D) (xs : List D) : kCons2 x xs M = .ok (x :: xs) M := rfl
def kTup : List D → Sto → Out D := fun xs M1 => if xs.length ≤ 16777216 then .ok (.tup xs) M1 else .bad
def kLst : List D → Sto → Out D := fun xs M1 => if xs.length ≤ 16777216 then .ok (.lst xs) M1 else .bad
def kLstC : List D → Sto → Out D := fun xs M1 => if xs.length ≤ 16777216 then .ok (.ref M1.length) (M1 ++ [.lst xs]) else .bad
theorem ev_tup (fa : DA) : dTup fa env M = (fa env M).bind kTup := rfl
theorem ev_lst (fa : DA) : dLst fa env M = (fa env M).bind kLst := rfl
theorem ev_lstC (fa : DA) : dLstC fa env M = (fa env M).bind kLstC := rfl
theorem ev_kTup (xs : List D) (h : xs.length ≤ 16777216) : kTup xs M = .ok (.tup xs) M := if_pos h
theorem ev_kLst (xs : List D) (h : xs.length ≤ 16777216) : kLst xs M = .ok (.lst xs) M := if_pos h
theorem ev_kLstC (xs : List D) (h : xs.length ≤ 16777216) : kLstC xs M = .ok (.ref M.length) (M ++ [.lst xs]) := if_pos h
def kCallB (g : List D → Sto → Option (D × Sto)) : List D → Sto → Out D := fun xs M1 => Ip.liftM (g xs M1)
theorem ev_callB (g : List D → Sto → Option (D × Sto)) (fa : DA) : dCallB g fa env M = (fa env M).bind (kCallB g) := rfl
theorem ev_kCallB (g : List D → Sto → Option (D × Sto)) (xs : List D) : kCallB g xs M = Ip.liftM (g xs M) := rfl
def kCall (F : DF) : List D → Sto → Out D := fun xs M1 => noex (F xs M1)
theorem ev_call (F : DF) (fa : DA) : dCall F fa env M = (fa env M).bind (kCall F) := rfl
theorem ev_kCall (F : DF) (xs : List D) : kCall F xs M = noex (F xs M) := rfl
def kIfE (fa fb : DE) (env : En) : Bool → Sto → Out D := fun c M1 => if c then fa env M1 else fb env M1
theorem ev_ifE (ft : DT) (fa fb : DE) : dIfE ft fa fb env M = (ft env M).bind (kIfE fa fb env) := rfl
theorem ev_kIfE_t (fa fb : DE) : kIfE fa fb env true M = fa env M := rfl
theorem ev_kIfE_f (fa fb : DE) : kIfE fa fb env false M = fb env M := rfl
def kAndV (fb : DE) (env : En) : D → Sto → Out D := fun x M1 => match x with
  | .bl true => fb env M1
  | .bl false => .ok (.bl false) M1
  | _ => .bad
def kOrV (fb : DE) (env : En) : D → Sto → Out D := fun x M1 => match x with
  | .bl true => .ok (.bl true) M1
  | .bl false => fb env M1
  | _ => .bad
def kNotV : D → Sto → Out D := fun x M1 => match x with
  | .bl b => .ok (.bl (!b)) M1
  | _ => .bad
theorem ev_andV (fa fb : DE) : dAndV fa fb env M = (fa env M).bind (kAndV fb env) := rfl
theorem ev_orV (fa fb : DE) : dOrV fa fb env M = (fa env M).bind (kOrV fb env) := rfl
theorem ev_notV (fa : DE) : dNotV fa env M = (fa env M).bind kNotV := rfl
theorem ev_kAndV_t (fb : DE) : kAndV fb env (.bl true) M = fb env M := rfl
theorem ev_kAndV_f (fb : DE) : kAndV fb env (.bl false) M = .ok (.bl false) M := rfl
theorem ev_kOrV_t (fb : DE) : kOrV fb env (.bl true) M = .ok (.bl true) M := rfl
theorem ev_kOrV_f (fb : DE) : kOrV fb env (.bl false) M = fb env M := rfl
theorem ev_kNotV (b : Bool) : kNotV (.bl b) M = .ok (.bl (!b)) M := rfl
def kAnd (fb : DT) (env : En) : Bool → Sto → Out Bool := fun c M1 => if c then fb env M1 else .ok false M1
def kOr (fb : DT) (env : En) : Bool → Sto → Out Bool := fun c M1 => if c then .ok true M1 else fb env M1
def kNot : Bool → Sto → Out Bool := fun c M1 => .ok (!c) M1
theorem ev_and (fa fb : DT) : dAnd fa fb env M = (fa env M).bind (kAnd fb env) := rfl
theorem ev_or (fa fb : DT) : dOr fa fb env M = (fa env M).bind (kOr fb env) := rfl
theorem ev_not (fa : DT) : dNot fa env M = (fa env M).bind kNot := rfl
theorem ev_kAnd_t (fb : DT) : kAnd fb env true M = fb env M := rfl
theorem ev_kAnd_f (fb : DT) : kAnd fb env false M = .ok false M := rfl
theorem ev_kOr_t (fb : DT) : kOr fb env true M = .ok true M := rfl
theorem ev_kOr_f (fb : DT) : kOr fb env false M = fb env M := rfl
theorem ev_kNot (b : Bool) : kNot b M = .ok (!b) M := rfl
def kTru : D → Sto → Out Bool := fun x M1 => match truD x M1 with
  | some b => .ok b M1
  | none => .bad
def kB : D → Sto → Out Bool := fun x M1 => match x with
  | .bl b => .ok b M1
  | _ => .bad
theorem ev_tru (fa : DE) : dTru fa env M = (fa env M).bind kTru := rfl
theorem ev_b (fa : DE) : dB fa env M = (fa env M).bind kB := rfl
theorem ev_kTru_bl (b : Bool) : kTru (.bl b) M = .ok b M := rfl
theorem ev_kTru_lst (l : List D) : kTru (.lst l) M = .ok (!l.isEmpty) M := rfl
theorem ev_kTru_tup (l : List D) : kTru (.tup l) M = .ok (!l.isEmpty) M := rfl
def truO (o : Option (List D)) (M : Sto) : Out Bool := match o with
  | some l => .ok (!l.isEmpty) M
  | none => .bad
theorem ev_kTru_ref (n : Nat) : kTru (.ref n) M = truO (celL M[n]?) M := by
  unfold kTru truD truO celL
  simp only
  cases h : M[n]? with
  | none => rfl
  | some c => cases c <;> rfl
theorem ev_truO (l : List D) : truO (some l) M = .ok (!l.isEmpty) M := rfl
theorem ev_kB (b : Bool) : kB (.bl b) M = .ok b M := rfl
theorem ev_yes : dYes env M = .ok true M := rfl
def kCh3 (g' : G2) (y : D) : D → Sto → Out D := fun w M4 => Ip.liftM (g' y w M4)
def kCh2 (g' : G2) (fc : DE) (env : En) (y : D) : D → Sto → Out D := fun z M3 => match z with
  | .bl true => (fc env M3).bind (kCh3 g' y)
  | .bl false => .ok (.bl false) M3
  | _ => .bad
def kCh1 (g g' : G2) (fc : DE) (env : En) (x : D) : D → Sto → Out D := fun y M2 => (Ip.liftM (g x y M2)).bind (kCh2 g' fc env y)
def kCh0 (g g' : G2) (fb fc : DE) (env : En) : D → Sto → Out D := fun x M1 => (fb env M1).bind (kCh1 g g' fc env x)
theorem ev_chain (g g' : G2) (fa fb fc : DE) : dChain g g' fa fb fc env M = (fa env M).bind (kCh0 g g' fb fc env) := rfl
theorem ev_kCh0 (g g' : G2) (fb fc : DE) (x : D) : kCh0 g g' fb fc env x M = (fb env M).bind (kCh1 g g' fc env x) := rfl
theorem ev_kCh1 (g g' : G2) (fc : DE) (x y : D) : kCh1 g g' fc env x y M = (Ip.liftM (g x y M)).bind (kCh2 g' fc env y) := rfl
theorem ev_kCh2_t (g' : G2) (fc : DE) (y : D) : kCh2 g' fc env y (.bl true) M = (fc env M).bind (kCh3 g' y) := rfl
theorem ev_kCh2_f (g' : G2) (fc : DE) (y : D) : kCh2 g' fc env y (.bl false) M = .ok (.bl false) M := rfl
theorem ev_kCh3 (g' : G2) (y w : D) : kCh3 g' y w M = Ip.liftM (g' y w M) := rfl
def kSl3 (x : D) (lo : Option Int) : Option Int → Sto → Out D := fun hi M3 => Ip.liftM (gSl x lo hi M3)
def kSl2 (fh : DO) (env : En) (x : D) : Option Int → Sto → Out D := fun lo M2 => (fh env M2).bind (kSl3 x lo)
def kSl1 (fl fh : DO) (env : En) : D → Sto → Out D := fun x M1 => (fl env M1).bind (kSl2 fh env x)
theorem ev_sl (fe : DE) (fl fh : DO) : dSl fe fl fh env M = (fe env M).bind (kSl1 fl fh env) := rfl
theorem ev_kSl1 (fl fh : DO) (x : D) : kSl1 fl fh env x M = (fl env M).bind (kSl2 fh env x) := rfl
theorem ev_kSl2 (fh : DO) (x : D) (lo : Option Int) : kSl2 fh env x lo M = (fh env M).bind (kSl3 x lo) := rfl
theorem ev_kSl3 (x : D) (lo hi : Option Int) : kSl3 x lo hi M = Ip.liftM (gSl x lo hi M) := rfl
def kPart : D → Sto → Out (Option Int) := fun x M1 => match x with
  | .int i => .ok (some i) M1
  | _ => .bad
theorem ev_part (fe : DE) : dPart fe env M = (fe env M).bind kPart := rfl
theorem ev_kPart (i : Int) : kPart (.int i) M = .ok (some i) M := rfl
theorem ev_noPart : dNoPart env M = .ok none M := rfl
-- statements
def kSeq (g : DS) : Fl → Sto → Out Fl := fun fl M1 => match fl with
  | .nx env1 => g env1 M1
  | o => .ok o M1
theorem ev_seq (f g : DS) : dSeq f g env M = (f env M).bind (kSeq g) := rfl
theorem ev_kSeq_nx (g : DS) : kSeq g (.nx env) M = g env M := rfl
theorem ev_kSeq_rt (g : DS) (d : D) : kSeq g (.rt d) M = .ok (.rt d) M := rfl
theorem ev_kSeq_bk (g : DS) : kSeq g (.bk env) M = .ok (.bk env) M := rfl
theorem ev_kSeq_ct (g : DS) : kSeq g (.ct env) M = .ok (.ct env) M := rfl
theorem ev_skip : dSkip env M = .ok (.nx env) M := rfl
def kSet (i : Nat) (env : En) : D → Sto → Out Fl := fun d M1 => .ok (.nx (env.set i (some d))) M1
theorem ev_set (i : Nat) (fe : DE) : dSet i fe env M = (fe env M).bind (kSet i env) := rfl
theorem ev_kSet (i : Nat) (d : D) : kSet i env d M = .ok (.nx (env.set i (some d))) M := rfl
def kDrop (env : En) : D → Sto → Out Fl := fun _ M1 => .ok (.nx env) M1
theorem ev_drop (fe : DE) : dDrop fe env M = (fe env M).bind (kDrop env) := rfl
theorem ev_kDrop (d : D) : kDrop env d M = .ok (.nx env) M := rfl
def kRet : D → Sto → Out Fl := fun d M1 => .ok (.rt d) M1
theorem ev_ret (fe : DE) : dRet fe env M = (fe env M).bind kRet := rfl
theorem ev_kRet (d : D) : kRet d M = .ok (.rt d) M := rfl
theorem ev_retN : dRetN env M = .ok (.rt .non) M := rfl
def kIf (fa fb : DS) (env : En) : Bool → Sto → Out Fl := fun c M1 => if c then fa env M1 else fb env M1
theorem ev_if (ft : DT) (fa fb : DS) : dIf ft fa fb env M = (ft env M).bind (kIf fa fb env) := rfl
theorem ev_kIf_t (fa fb : DS) : kIf fa fb env true M = fa env M := rfl
theorem ev_kIf_f (fa fb : DS) : kIf fa fb env false M = fb env M := rfl
theorem ev_bad : dBad env M = .bad := rfl
def kAsg (t : DG) (env : En) : D → Sto → Out Fl := fun d M1 => match t d env with
  | some env' => .ok (.nx env') M1
  | none => .bad
theorem ev_asg (t : DG) (fe : DE) : dAsg t fe env M = (fe env M).bind (kAsg t env) := rfl
def asgO (o : Option En) (M : Sto) : Out Fl := match o with
  | some env' => .ok (.nx env') M
  | none => .bad
theorem ev_kAsg (t : DG) (d : D) : kAsg t env d M = asgO (t d env) M := by
  unfold kAsg asgO
  cases t d env <;> rfl
theorem ev_asgO (env' : En) : asgO (some env') M = .ok (.nx env') M := rfl
def kPar (i j : Nat) (env : En) : List D → Sto → Out Fl := fun ds M1 => match ds with
  | [x, y] => .ok (.nx ((env.set i (some x)).set j (some y))) M1
  | _ => .bad
theorem ev_par (i j : Nat) (fa : DA) : dPar i j fa env M = (fa env M).bind (kPar i j env) := rfl
theorem ev_kPar (i j : Nat) (x y : D) : kPar i j env [x, y] M = .ok (.nx ((env.set i (some x)).set j (some y))) M := rfl
def kFor (t : DG) (fb : DS) (env : En) : List D → Sto → Out Fl := fun items M1 => forGo t fb items env M1
theorem ev_for (t : DG) (fi : DA) (fb : DS) : dFor t fi fb env M = (fi env M).bind (kFor t fb env) := rfl
theorem ev_kFor (t : DG) (fb : DS) (l : List D) : kFor t fb env l M = forGo t fb l env M := rfl
def kGo (t : DG) (fb : DS) (ds : List D) : Fl → Sto → Out Fl := fun fl M1 => match fl with
  | .nx e => forGo t fb ds e M1
  | .ct e => forGo t fb ds e M1
  | .bk e => .ok (.nx e) M1
  | .rt d => .ok (.rt d) M1
theorem ev_go_nil (t : DG) (fb : DS) : forGo t fb [] env M = .ok (.nx env) M := rfl
def goO (t : DG) (fb : DS) (ds : List D) (o : Option En) (M : Sto) : Out Fl := match o with
  | some env1 => (fb env1 M).bind (kGo t fb ds)
  | none => .bad
theorem ev_go_cons (t : DG) (fb : DS) (d : D) (ds : List D) : forGo t fb (d :: ds) env M = goO t fb ds (t d env) M := by
  unfold forGo goO; cases t d env <;> rfl
theorem ev_goO (t : DG) (fb : DS) (ds : List D) (env1 : En) : goO t fb ds (some env1) M = (fb env1 M).bind (kGo t fb ds) := rfl
theorem ev_kGo_nx (t : DG) (fb : DS) (ds : List D) : kGo t fb ds (.nx env) M = forGo t fb ds env M := rfl
theorem ev_kGo_ct (t : DG) (fb : DS) (ds : List D) : kGo t fb ds (.ct env) M = forGo t fb ds env M := rfl
theorem ev_kGo_rt (t : DG) (fb : DS) (ds : List D) (d : D) : kGo t fb ds (.rt d) M = .ok (.rt d) M := rfl
def kIter : D → Sto → Out (List D) := fun x M1 => match iterD x with
  | some l => .ok l M1
  | none => .bad
theorem ev_iter (fe : DE) : dIter fe env M = (fe env M).bind kIter := rfl
theorem ev_kIter_l (l : List D) : kIter (.lst l) M = .ok l M := rfl
theorem ev_kIter_t (l : List D) : kIter (.tup l) M = .ok l M := rfl
theorem ev_kIter_s (ns : List Int) : kIter (.scr ns) M = .ok (ns.map D.int) M := rfl
def kRng1 : List D → Sto → Out (List D) := fun ds M1 => match ds with
  | [.int j] => if in62 j then .ok (rngD 0 j.toNat) M1 else .bad
  | _ => .bad
def kRng2 : List D → Sto → Out (List D) := fun ds M1 => match ds with
  | [.int i, .int j] => if in62 i && in62 j then .ok (rngD i (j - i).toNat) M1 else .bad
  | _ => .bad
theorem ev_rng1 (fa : DA) : dRng1 fa env M = (fa env M).bind kRng1 := rfl
theorem ev_rng2 (fa : DA) : dRng2 fa env M = (fa env M).bind kRng2 := rfl
theorem ev_kRng1 (j : Int) (h : in62 j = true) : kRng1 [.int j] M = .ok (rngD 0 j.toNat) M := by unfold kRng1; simp only [h, if_true]
theorem ev_kRng2 (i j : Int) (h : in62 i = true) (h' : in62 j = true) : kRng2 [.int i, .int j] M = .ok (rngD i (j - i).toNat) M := by unfold kRng2; simp only [h, h', Bool.and_self, if_true]
def kEnum : List D → Sto → Out (List D) := fun ds M1 => match ds with
  | [.lst l] => .ok (enumD 0 l) M1
  | [.tup l] => .ok (enumD 0 l) M1
  | _ => .bad
theorem ev_enum (fa : DA) : dEnumA fa env M = (fa env M).bind kEnum := rfl
theorem ev_kEnum_l (l : List D) : kEnum [.lst l] M = .ok (enumD 0 l) M := rfl
theorem ev_kEnum_t (l : List D) : kEnum [.tup l] M = .ok (enumD 0 l) M := rfl
def kFld (c f : Str) : D → Sto → Out D := fun x M1 => match objOf c x M1 with
  | some (ks, ds) => match (ks.zip ds).lookup f with
    | some d => .ok d M1
    | none => .bad
  | none => .bad
theorem ev_fld (c f : Str) (fe : DE) : dFld c f fe env M = (fe env M).bind (kFld c f) := rfl
def fldO (o : Option D) (M : Sto) : Out D := match o with
  | some d => .ok d M
  | none => .bad
theorem ev_kFld (c f : Str) (ks : List Str) (ds : List D) : kFld c f (.obj c ks ds) M = fldO ((ks.zip ds).lookup f) M := by
  unfold kFld objOf fldO
  simp only [if_true]
theorem ev_fldO (d : D) : fldO (some d) M = .ok d M := rfl
-- functions
theorem ev_run (n m : Nat) (fb : DS) (ds : List D) (h : ds.length = m) : runF n m fb ds M = (fb (ds.map some ++ List.replicate (n - m) none) M).bind fun fl M1 => match fl with
    | .nx _ => .ok .non M1
    | .rt d => .ok d M1
    | _ => .bad := if_pos h
def kRun : Fl → Sto → Out D := fun fl M1 => match fl with
  | .nx _ => .ok .non M1
  | .rt d => .ok d M1
  | _ => .bad
theorem ev_runF (n m : Nat) (fb : DS) (ds : List D) (h : ds.length = m) : runF n m fb ds M = (fb (ds.map some ++ List.replicate (n - m) none) M).bind kRun := if_pos h
theorem ev_kRun_rt (d : D) : kRun (.rt d) M = .ok d M := rfl
theorem ev_kRun_nx : kRun (.nx env) M = .ok .non M := rfl
-- lists in cells
def kLm2 (g : GM) (x : D) : List D → Sto → Out D := fun as M2 => Ip.liftM (g x as M2)
def kLm (g : GM) (fa : DA) (env : En) : D → Sto → Out D := fun x M1 => match asL x M1 with
  | some _ => (fa env M1).bind (kLm2 g x)
  | none => .bad
theorem ev_lm (g : GM) (fo : DE) (fa : DA) : dLm g fo fa env M = (fo env M).bind (kLm g fa env) := rfl
def lmO (g : GM) (fa : DA) (env : En) (n : Nat) (o : Option (List D)) (M : Sto) : Out D := match o with
  | some _ => (fa env M).bind (kLm2 g (.ref n))
  | none => .bad
theorem ev_kLm (g : GM) (fa : DA) (n : Nat) : kLm g fa env (.ref n) M = lmO g fa env n (celL M[n]?) M := by
  unfold kLm lmO; rw [asL_ref]
theorem ev_lmO (g : GM) (fa : DA) (n : Nat) (l : List D) : lmO g fa env n (some l) M = (fa env M).bind (kLm2 g (.ref n)) := rfl
theorem ev_kLm2 (g : GM) (x : D) (as : List D) : kLm2 g x as M = Ip.liftM (g x as M) := rfl
theorem setL_ref (n : Nat) (k : List D → Option (List D)) : setL (.ref n) M k = (celL M[n]?).bind fun l => (k l).map fun l' => M.set n (.lst l') := by
  unfold setL celL
  simp only
  cases h : M[n]? with
  | none => rfl
  | some c => cases c <;> rfl
def appL (y : D) (l : List D) : Option (List D) := if l.length < 16777216 then some (l ++ [y]) else none
theorem g_app (n : Nat) (y : D) : gApp (.ref n) [y] M = ((celL M[n]?).bind fun l => (appL y l).map fun l' => M.set n (.lst l')).map (D.non, ·) := by
  show Option.map _ (setL (.ref n) M (appL y)) = _
  rw [setL_ref]
theorem g_clear (n : Nat) : gClear (.ref n) [] M = ((celL M[n]?).map fun _ => M.set n (.lst [])).map (D.non, ·) := by
  unfold gClear
  simp only
  rw [setL_ref]
  cases celL M[n]? <;> rfl
def kSetIx3 (x y : D) (env : En) : D → Sto → Out Fl := fun i M3 => match i with
  | .int k => match setL x M3 fun l => (ixN l.length k).map fun j => l.set j y with
    | some M4 => .ok (.nx env) M4
    | none => .bad
  | _ => .bad
def kSetIx2 (fi : DE) (env : En) (y : D) : D → Sto → Out Fl := fun x M2 => (fi env M2).bind (kSetIx3 x y env)
def kSetIx1 (fo fi : DE) (env : En) : D → Sto → Out Fl := fun y M1 => (fo env M1).bind (kSetIx2 fi env y)
theorem ev_setIx (fo fi fe : DE) : dSetIx fo fi fe env M = (fe env M).bind (kSetIx1 fo fi env) := rfl
theorem ev_kSetIx1 (fo fi : DE) (y : D) : kSetIx1 fo fi env y M = (fo env M).bind (kSetIx2 fi env y) := rfl
theorem ev_kSetIx2 (fi : DE) (y x : D) : kSetIx2 fi env y x M = (fi env M).bind (kSetIx3 x y env) := rfl
def setO (env : En) (o : Option Sto) : Out Fl := match o with
  | some M4 => .ok (.nx env) M4
  | none => .bad
def putL (k : Int) (y : D) (l : List D) : Option (List D) := (ixN l.length k).map fun j => l.set j y
theorem ev_kSetIx3 (n : Nat) (y : D) (k : Int) : kSetIx3 (.ref n) y env (.int k) M = setO env ((celL M[n]?).bind fun l => (putL k y l).map fun l' => M.set n (.lst l')) := by
  show (match setL (.ref n) M (putL k y) with
    | some M4 => Out.ok (Fl.nx env) M4
    | none => .bad) = _
  rw [setL_ref]
  unfold setO
  first | rfl | skip
theorem ev_setO : setO env (some M) = .ok (.nx env) M := rfl
-- values
theorem g_ixT (l : List D) (i : Int) : gIx (.tup l) (.int i) M = (atI l i).map (·, M) := rfl
theorem g_ixL (l : List D) (i : Int) : gIx (.lst l) (.int i) M = (atI l i).map (·, M) := rfl
theorem g_ixR (n : Nat) (i : Int) : gIx (.ref n) (.int i) M = (celL M[n]?).bind fun l => (atI l i).map (·, M) := by
  unfold gIx
  simp only [asL_ref]
  cases celL M[n]? <;> rfl
theorem g_add_i (i j : Int) : gAdd (.int i) (.int j) M = some (.int (i + j), M) := rfl
theorem g_add_l (a b : List D) (h : a.length + b.length ≤ 16777216) : gAdd (.lst a) (.lst b) M = some (.lst (a ++ b), M) := by
  simp [gAdd, orG, gStr, gCat, asL, h]
theorem g_sub (i j : Int) : Ip.gSub (.int i) (.int j) M = some (.int (i - j), M) := rfl
theorem g_lt (i j : Int) : gLt (.int i) (.int j) M = some (.bl (decide (i < j)), M) := rfl
theorem g_le (i j : Int) : gLe (.int i) (.int j) M = some (.bl (decide (i ≤ j)), M) := rfl
theorem g_gt (i j : Int) : gGt (.int i) (.int j) M = some (.bl (decide (j < i)), M) := rfl
theorem g_ge (i j : Int) : gGe (.int i) (.int j) M = some (.bl (decide (j ≤ i)), M) := rfl
theorem g_mod (i j : Int) (h : 0 < j) : gMod (.int i) (.int j) M = some (.int (i % j), M) := by simp [gMod, gIntC, h]
theorem g_div (i j : Int) (h : 0 < j) (h' : j < 1073741824) : gDiv (.int i) (.int j) M = some (.int (i / j), M) := by simp [gDiv, gIntC, h, h']
theorem g_mul (i j : Int) (h : in64 i = true ∨ in64 j = true) : gMul (.int i) (.int j) M = some (.int (i * j), M) := by
  have : (in64 i || in64 j) = true := by rw [Bool.or_eq_true]; exact h
  simp [gMul, orG, gIntC, this]
theorem g_rep (l : List D) (k : Int) (h : in63 k = true) (h' : l.length * k.toNat ≤ 16777216) : gMul (.lst l) (.int k) M = some (.lst (List.replicate k.toNat l).flatten, M) := by
  simp [gMul, orG, gIntC, gRep, asL, h, h']
theorem g_is_n : gIs false .non .non M = some (.bl true, M) := rfl
theorem g_isnot_n : gIs true .non .non M = some (.bl false, M) := rfl
theorem g_is_i (i : Int) : gIs false (.int i) .non M = some (.bl false, M) := rfl
theorem g_isnot_i (i : Int) : gIs true (.int i) .non M = some (.bl true, M) := rfl
theorem g_is_t (l : List D) : gIs false (.tup l) .non M = some (.bl false, M) := rfl
theorem g_isnot_t (l : List D) : gIs true (.tup l) .non M = some (.bl true, M) := rfl
theorem g_eq (x y : D) : gEq false x y M = (eqD x y M).map fun b => (.bl b, M) := rfl
theorem g_ne (x y : D) : gEq true x y M = (eqD x y M).map fun b => (.bl (!b), M) := rfl
theorem eq_int (i j : Int) : eqD (.int i) (.int j) M = some (decide (i = j)) := by simp [eqD, toV, scal]
theorem eq_str (s t : Str) : eqD (.str s) (.str t) M = some (decide (s = t)) := by simp [eqD, toV, scal]
theorem eq_bl (s t : Bool) : eqD (.bl s) (.bl t) M = some (decide (s = t)) := by simp [eqD, toV, scal]
theorem eq_nn : eqD .non .non M = some true := by simp [eqD, toV, scal]
theorem eq_ni (i : Int) : eqD .non (.int i) M = some false := by simp [eqD, toV, scal]
theorem eq_in (i : Int) : eqD (.int i) .non M = some false := by simp [eqD, toV, scal]
theorem eq_t2 (a b c d : Int) : eqD (.tup [.int a, .int b]) (.tup [.int c, .int d]) M = some (decide (a = c ∧ b = d)) := by
  simp [eqD, toV, pyM, toPy, toPys, SeqAt.shaped, PyData.canLay0, PyData.canLayAll0, PyData.depth, PyData.depthAll, PyData.eqv, PyData.eqvAll, Bool.and_true]
  by_cases h1 : a = c <;> by_cases h2 : b = d <;> simp [h1, h2]
theorem g_lenT (l : List D) : gLen [.tup l] M = some (.int (l.length : Nat), M) := rfl
theorem g_lenL (l : List D) : gLen [.lst l] M = some (.int (l.length : Nat), M) := rfl
theorem g_lenR (n : Nat) : gLen [.ref n] M = (celL M[n]?).map fun l => (.int (l.length : Nat), M) := by
  unfold gLen
  simp only [asL_ref]
  cases celL M[n]? <;> rfl
theorem g_slT (l : List D) (lo hi : Option Int) : gSl (.tup l) lo hi M = some (.tup (Ip.cutD l lo hi), M) := rfl
theorem g_slL (l : List D) (lo hi : Option Int) : gSl (.lst l) lo hi M = some (.lst (Ip.cutD l lo hi), M) := rfl
theorem g_slS (ns : List Int) (lo hi : Option Int) : gSl (.scr ns) lo hi M = some (.lst (Ip.cutD (ns.map D.int) lo hi), M) := rfl
theorem at0 (a : α) (l : List α) : atI (a :: l) 0 = some a := atI_nat (j := 0) rfl
theorem at1 (a b : α) (l : List α) : atI (a :: b :: l) 1 = some b := atI_nat (j := 1) rfl
theorem at2 (a b c : α) (l : List α) : atI (a :: b :: c :: l) 2 = some c := atI_nat (j := 2) rfl
theorem at3 (a b c d : α) (l : List α) : atI (a :: b :: c :: d :: l) 3 = some d := atI_nat (j := 3) rfl
theorem at4 (a b c d e : α) (l : List α) : atI (a :: b :: c :: d :: e :: l) 4 = some e := atI_nat (j := 4) rfl
theorem atm1 (l : List α) (a : α) : atI (l ++ [a]) (-1) = some a := atI_last l a
-- comprehensions
def kLcEnd : List D → Sto → Out D := fun l M2 => .ok (.lst l) M2
def kLc (vs : List Nat) (t : DG) (ft : DT) (fe : DE) (env : En) : List D → Sto → Out D := fun items M1 => (lcGo t ft fe items [] (wipeE env vs) M1).bind kLcEnd
theorem ev_lc (vs : List Nat) (t : DG) (fi : DA) (ft : DT) (fe : DE) : dLc vs t fi ft fe env M = (fi env M).bind (kLc vs t ft fe env) := rfl
theorem ev_kLc (vs : List Nat) (t : DG) (ft : DT) (fe : DE) (l : List D) : kLc vs t ft fe env l M = (lcGo t ft fe l [] (wipeE env vs) M).bind kLcEnd := rfl
theorem ev_kLcEnd (l : List D) : kLcEnd l M = .ok (.lst l) M := rfl
def kLcE (t : DG) (ft : DT) (fe : DE) (ds acc : List D) (env : En) : D → Sto → Out (List D) := fun y M2 => if acc.length < 16777216 then lcGo t ft fe ds (acc ++ [y]) env M2 else .bad
def kLcT (t : DG) (ft : DT) (fe : DE) (ds acc : List D) (env env1 : En) : Bool → Sto → Out (List D) := fun b M1 => if b then (noex (fe env1 M1)).bind (kLcE t ft fe ds acc env) else lcGo t ft fe ds acc env M1
def lcO (t : DG) (ft : DT) (fe : DE) (ds acc : List D) (env : En) (o : Option En) (M : Sto) : Out (List D) := match o with
  | some env1 => (noex (ft env1 M)).bind (kLcT t ft fe ds acc env env1)
  | none => .bad
theorem ev_lc_nil (t : DG) (ft : DT) (fe : DE) (acc : List D) : lcGo t ft fe [] acc env M = .ok acc M := rfl
theorem ev_lc_cons (t : DG) (ft : DT) (fe : DE) (d : D) (ds acc : List D) : lcGo t ft fe (d :: ds) acc env M = lcO t ft fe ds acc env (t d env) M := by
  unfold lcGo lcO; cases t d env <;> rfl
theorem ev_lcO (t : DG) (ft : DT) (fe : DE) (ds acc : List D) (env1 : En) : lcO t ft fe ds acc env (some env1) M = (noex (ft env1 M)).bind (kLcT t ft fe ds acc env env1) := rfl
theorem ev_kLcT_t (t : DG) (ft : DT) (fe : DE) (ds acc : List D) (env1 : En) : kLcT t ft fe ds acc env env1 true M = (noex (fe env1 M)).bind (kLcE t ft fe ds acc env) := rfl
theorem ev_kLcT_f (t : DG) (ft : DT) (fe : DE) (ds acc : List D) (env1 : En) : kLcT t ft fe ds acc env env1 false M = lcGo t ft fe ds acc env M := rfl
theorem ev_kLcE (t : DG) (ft : DT) (fe : DE) (ds acc : List D) (y : D) (h : acc.length < 16777216) : kLcE t ft fe ds acc env y M = lcGo t ft fe ds (acc ++ [y]) env M := if_pos h
/-- a comprehension whose element changes nothing -/
theorem lc_map (t : DG) (fe : DE) (f : D → D) : ∀ (ds acc : List D), (∀ d ∈ ds, ∃ env1, t d env = some env1 ∧ fe env1 M = .ok (f d) M) → acc.length + ds.length ≤ 16777216 → lcGo t dYes fe ds acc env M = .ok (acc ++ ds.map f) M
  | [], acc, _, _ => by rw [ev_lc_nil, List.map_nil, List.append_nil]
  | d :: ds, acc, h, hl => by
    obtain ⟨env1, h1, h2⟩ := h d List.mem_cons_self
    have l1 : acc.length < 16777216 := by simp at hl; omega
    rw [ev_lc_cons, h1, ev_lcO, ev_yes, noex_ok, bind_ok, ev_kLcT_t, h2, noex_ok, bind_ok, ev_kLcE (h := l1), lc_map t fe f ds (acc ++ [f d]) (fun x hx => h x (List.mem_cons_of_mem _ hx)) (by simp at hl ⊢; omega)]
    simp
-- isinstance
theorem g_isi_n (T : String) : gIsi T .non M = (isA "NoneType" T).map fun b => (.bl b, M) := rfl
theorem g_isi_b (T : String) (b : Bool) : gIsi T (.bl b) M = (isA "bool" T).map fun b => (.bl b, M) := rfl
theorem g_isi_i (T : String) (i : Int) : gIsi T (.int i) M = (isA "int" T).map fun b => (.bl b, M) := rfl
theorem g_isi_s (T : String) (s : Str) : gIsi T (.str s) M = (isA "str" T).map fun b => (.bl b, M) := rfl
theorem g_isi_t (T : String) (l : List D) : gIsi T (.tup l) M = (isA "tuple" T).map fun b => (.bl b, M) := rfl
theorem g_isi_l (T : String) (l : List D) : gIsi T (.lst l) M = (isA "list" T).map fun b => (.bl b, M) := rfl
theorem isA_ii : isA "int" "int" = some true := by decide +kernel
theorem isA_ib : isA "int" "bool" = some false := by decide +kernel
theorem isA_it : isA "int" "tuple" = some false := by decide +kernel
theorem isA_il : isA "int" "list" = some false := by decide +kernel
theorem isA_bi : isA "bool" "int" = some true := by decide +kernel
theorem isA_bb : isA "bool" "bool" = some true := by decide +kernel
theorem isA_bt : isA "bool" "tuple" = some false := by decide +kernel
theorem isA_bll : isA "bool" "list" = some false := by decide +kernel
theorem isA_ni : isA "NoneType" "int" = some false := by decide +kernel
theorem isA_nb : isA "NoneType" "bool" = some false := by decide +kernel
theorem isA_nt : isA "NoneType" "tuple" = some false := by decide +kernel
theorem isA_nl : isA "NoneType" "list" = some false := by decide +kernel
theorem isA_si : isA "str" "int" = some false := by decide +kernel
theorem isA_sb : isA "str" "bool" = some false := by decide +kernel
theorem isA_st : isA "str" "tuple" = some false := by decide +kernel
theorem isA_sl : isA "str" "list" = some false := by decide +kernel
theorem isA_tt : isA "tuple" "tuple" = some true := by decide +kernel
theorem isA_tl : isA "tuple" "list" = some false := by decide +kernel
theorem isA_ti : isA "tuple" "int" = some false := by decide +kernel
theorem isA_tb : isA "tuple" "bool" = some false := by decide +kernel
theorem isA_lt : isA "list" "tuple" = some false := by decide +kernel
theorem isA_ll : isA "list" "list" = some true := by decide +kernel
theorem isA_li : isA "list" "int" = some false := by decide +kernel
theorem isA_lb : isA "list" "bool" = some false := by decide +kernel
theorem g_neg (i : Int) : gNeg (.int i) M = some (.int (-i), M) := rfl
theorem g_all (l : List D) : gAll [.lst l] M = (bls l).map fun bs => (.bl (bs.all id), M) := rfl
theorem bls_nil : bls [] = some [] := rfl
theorem bls_cons (b : Bool) (l : List D) : bls (.bl b :: l) = (bls l).map (b :: ·) := rfl
-- objects
def kSetFld2 (c f : Str) (y : D) (env : En) : D → Sto → Out Fl := fun x M2 => match x with
  | .ref n => match M2[n]? with
    | some (.ins c' ks ds) => if c' = c ∧ ks.length < 1000 then .ok (.nx env) (M2.set n (.ins c' (putKs f ks) (putVs f y ks ds))) else .bad
    | _ => .bad
  | _ => .bad
def kSetFld1 (c f : Str) (fo : DE) (env : En) : D → Sto → Out Fl := fun y M1 => (fo env M1).bind (kSetFld2 c f y env)
theorem ev_setFld (c f : Str) (fo fe : DE) : dSetFld c f fo fe env M = (fe env M).bind (kSetFld1 c f fo env) := rfl
theorem ev_kSetFld1 (c f : Str) (fo : DE) (y : D) : kSetFld1 c f fo env y M = (fo env M).bind (kSetFld2 c f y env) := rfl
theorem ev_kSetFld2 (c f : Str) (y : D) (n : Nat) (ks : List Str) (ds : List D) (h : M[n]? = some (.ins c ks ds)) (hk : ks.length < 1000) : kSetFld2 c f y env (.ref n) M = .ok (.nx env) (M.set n (.ins c (putKs f ks) (putVs f y ks ds))) := by
  show (match M[n]? with
    | some (.ins c' ks ds) => if c' = c ∧ ks.length < 1000 then Out.ok (Fl.nx env) (M.set n (.ins c' (putKs f ks) (putVs f y ks ds))) else .bad
    | _ => .bad) = _
  rw [h]
  exact if_pos ⟨rfl, hk⟩
def kMake2 (k : Nat) : D → Sto → Out D := fun d M2 => match d with
  | .non => frzO k (.ref k) M2
  | _ => .bad
def kMake (c : Str) (F : DF) : List D → Sto → Out D := fun ds M1 => (noex (F (.ref M1.length :: ds) (M1 ++ [.ins c [] []]))).bind (kMake2 M1.length)
theorem ev_make (c : Str) (F : DF) (fa : DA) : dMake c F fa env M = (fa env M).bind (kMake c F) := rfl
theorem ev_kMake (c : Str) (F : DF) (ds : List D) : kMake c F ds M = (noex (F (.ref M.length :: ds) (M ++ [.ins c [] []]))).bind (kMake2 M.length) := rfl
theorem ev_kMake2 (k : Nat) : kMake2 k .non M = frzO k (.ref k) M := rfl
def kMeth2 (F : DF) (x : D) : List D → Sto → Out D := fun as M2 => noex (F (x :: as) M2)
def kMeth (c m : Str) (F : DF) (fa : DA) (env : En) : D → Sto → Out D := fun x M1 => match objOf c x M1 with
  | some (ks, ds) => match (ks.zip ds).lookup m with
    | none => (fa env M1).bind (kMeth2 F x)
    | some _ => .bad
  | none => .bad
theorem ev_meth (c m : Str) (F : DF) (fo : DE) (fa : DA) : dMeth c m F fo fa env M = (fo env M).bind (kMeth c m F fa env) := rfl
theorem ev_kMeth (c m : Str) (F : DF) (fa : DA) (ks : List Str) (ds : List D) (h : (ks.zip ds).lookup m = none) : kMeth c m F fa env (.obj c ks ds) M = (fa env M).bind (kMeth2 F (.obj c ks ds)) := by
  unfold kMeth objOf
  simp only [if_true, h]
theorem ev_kMeth2 (F : DF) (x : D) (as : List D) : kMeth2 F x as M = noex (F (x :: as) M) := rfl
def kLenO2 : D → Sto → Out D := fun d M2 => match d with
  | .int n => if 0 ≤ n ∧ n < 2 ^ 63 then .ok (.int n) M2 else .bad
  | _ => .bad
def kLenO (c : Str) (F : DF) : D → Sto → Out D := fun x M1 => match objOf c x M1 with
  | some _ => (noex (F [x] M1)).bind kLenO2
  | none => .bad
theorem ev_lenO (c : Str) (F : DF) (fe : DE) : dLenO c F fe env M = (fe env M).bind (kLenO c F) := rfl
theorem ev_kLenO (c : Str) (F : DF) (ks : List Str) (ds : List D) : kLenO c F (.obj c ks ds) M = (noex (F [.obj c ks ds] M)).bind kLenO2 := by
  unfold kLenO objOf
  simp only [if_true]
theorem ev_kLenO2 (n : Int) (h : 0 ≤ n ∧ n < 2 ^ 63) : kLenO2 (.int n) M = .ok (.int n) M := if_pos h
def kReprO2 : D → Sto → Out D := fun d M2 => match d with
  | .str m => .ok (.str m) M2
  | _ => .bad
def kReprO (c : Str) (F : DF) : D → Sto → Out D := fun x M1 => match objOf c x M1 with
  | some _ => (noex (F [x] M1)).bind kReprO2
  | none => .bad
theorem ev_reprO (c : Str) (F : DF) (fe : DE) : dReprO c F fe env M = (fe env M).bind (kReprO c F) := rfl
theorem ev_kReprO (c : Str) (F : DF) (ks : List Str) (ds : List D) : kReprO c F (.obj c ks ds) M = (noex (F [.obj c ks ds] M)).bind kReprO2 := by
  unfold kReprO objOf
  simp only [if_true]
theorem ev_kReprO2 (m : Str) : kReprO2 (.str m) M = .ok (.str m) M := rfl
def kFmt : D → Sto → Out D := fun x M1 => match x with
  | .str y => if y.length ≤ 16777216 then .ok (.str y) M1 else .bad
  | .int i => if i.natAbs.log2 < 1920 then .ok (.str (toString i)) M1 else .bad
  | _ => .bad
theorem ev_fmt (fe : DE) : dFmt fe env M = (fe env M).bind kFmt := rfl
theorem ev_kFmt_i (i : Int) (h : i.natAbs.log2 < 1920) : kFmt (.int i) M = .ok (.str (toString i)) M := if_pos h
def kJs (fs : List DE) (acc : Str) (env : En) : D → Sto → Out D := fun x M1 => match x with
  | .str y => if (acc ++ y).length ≤ 16777216 then dJs fs (acc ++ y) env M1 else .bad
  | _ => .bad
theorem ev_js_nil (acc : Str) : dJs [] acc env M = .ok (.str acc) M := rfl
theorem ev_js_cons (f : DE) (fs : List DE) (acc : Str) : dJs (f :: fs) acc env M = (f env M).bind (kJs fs acc env) := rfl
theorem ev_kJs (fs : List DE) (acc y : Str) (h : (acc ++ y).length ≤ 16777216) : kJs fs acc env (.str y) M = dJs fs (acc ++ y) env M := if_pos h
theorem g_listC (l : List D) : gListC [.lst l] M = some (.ref M.length, M ++ [.lst l]) := rfl
theorem g_tupleR (n : Nat) : gTuple [.ref n] M = (celL M[n]?).map fun l => (.tup l, M) := by
  show (asL (.ref n) M).map _ = _
  rw [asL_ref]
theorem g_strI (i : Int) (h : i.natAbs.log2 < 1920) : gStrI [.int i] M = some (.str (toString i), M) := if_pos h
theorem g_addS (s t : Str) (h : s.length + t.length ≤ 16777216) : gAdd (.str s) (.str t) M = some (.str (s ++ t), M) := by
  simp [gAdd, orG, gStr, h]
-- loops over what may be a cell
def kForS (t : DG) (fb : DS) (env : En) : Src → Sto → Out Fl := fun src M1 => forS t fb src 20000000 0 env M1
theorem ev_forS (t : DG) (fi : DI) (fb : DS) : dForS t fi fb env M = (fi env M).bind (kForS t fb env) := rfl
theorem ev_kForS (t : DG) (fb : DS) (src : Src) : kForS t fb env src M = forS t fb src 20000000 0 env M := rfl
def srcO (o : Option Src) (M : Sto) : Out Src := match o with
  | some s => .ok s M
  | none => .bad
def kIter2 : D → Sto → Out Src := fun x M1 => srcO (srcD x M1) M1
def kEnum2 : D → Sto → Out Src := fun x M1 => srcO (esrcD x M1) M1
theorem ev_iter2 (fe : DE) : dIter2 fe env M = (fe env M).bind kIter2 := rfl
theorem ev_enum2 (fe : DE) : dEnum2 fe env M = (fe env M).bind kEnum2 := rfl
theorem ev_kIter2_l (l : List D) : kIter2 (.lst l) M = .ok (.items l) M := rfl
theorem ev_kIter2_t (l : List D) : kIter2 (.tup l) M = .ok (.items l) M := rfl
theorem ev_kIter2_s (ns : List Int) : kIter2 (.scr ns) M = .ok (.items (ns.map D.int)) M := rfl
theorem ev_kIter2_r (n : Nat) (l : List D) (h : M[n]? = some (.lst l)) : kIter2 (.ref n) M = .ok (.cell n) M := by
  show srcO ((celL M[n]?).map fun _ => Src.cell n) M = _
  rw [h]; rfl
theorem ev_kEnum2_l (l : List D) : kEnum2 (.lst l) M = .ok (.items (enumD 0 l)) M := rfl
theorem ev_kEnum2_t (l : List D) : kEnum2 (.tup l) M = .ok (.items (enumD 0 l)) M := rfl
theorem ev_kEnum2_r (n : Nat) (l : List D) (h : M[n]? = some (.lst l)) : kEnum2 (.ref n) M = .ok (.ecell n) M := by
  show srcO ((celL M[n]?).map fun _ => Src.ecell n) M = _
  rw [h]; rfl
end
end Ip
end
section
set_option Elab.async false
set_option linter.all false
set_option maxRecDepth 100000
set_option maxHeartbeats 4000000
set_option autoImplicit false
namespace Ip
open PySem PyProof.Rows L2
section
variable (env : En) (M : Sto)
theorem ev_prop (c : Str) (F : DF) (fe : DE) (x : D) (M1 : Sto) (p : List Str × List D) (h : fe env M = .ok x M1) (ho : objOf c x M1 = some p) : dProp c F fe env M = noex (F [x] M1) := by
  unfold dProp
  rw [h]
  show (match objOf c x M1 with
    | some _ => noex (F [x] M1)
    | none => .bad) = _
  rw [ho]
theorem ev_cmeth (c : Str) (F : DF) : dCMeth c F env M = noex (F [.cls c] M) := rfl
theorem ev_makeV (i : Nat) (c : Str) (F : DF) (fa : DA) (h : env[i]? = some (some (.cls c))) : dMakeV i c F fa env M = dMake c F fa env M := by
  unfold dMakeV
  rw [h]
  exact if_pos rfl
def kSet2 (i j : Nat) (env : En) : D → Sto → Out Fl := fun d M1 => .ok (.nx ((env.set i (some d)).set j (some d))) M1
theorem ev_set2 (i j : Nat) (fe : DE) : dSet2 i j fe env M = (fe env M).bind (kSet2 i j env) := rfl
theorem ev_kSet2 (i j : Nat) (d : D) : kSet2 i j env d M = .ok (.nx ((env.set i (some d)).set j (some d))) M := rfl
/-- a comprehension with a test, both of which change nothing -/
theorem lc_fil (t : DG) (ft : DT) (fe : DE) (c : D → Bool) (f : D → D) : ∀ (ds acc : List D), (∀ d ∈ ds, ∃ env1, t d env = some env1 ∧ ft env1 M = .ok (c d) M ∧ (c d = true → fe env1 M = .ok (f d) M)) → acc.length + ds.length ≤ 16777216 →
    lcGo t ft fe ds acc env M = .ok (acc ++ (ds.filter c).map f) M
  | [], acc, _, _ => by simp [lcGo]
  | d :: ds, acc, h, hl => by
    obtain ⟨env1, h1, h2, h3⟩ := h d List.mem_cons_self
    have ht : ∀ x ∈ ds, ∃ env1, t x env = some env1 ∧ ft env1 M = .ok (c x) M ∧ (c x = true → fe env1 M = .ok (f x) M) := fun x hx => h x (List.mem_cons_of_mem _ hx)
    have hl' : acc.length + ds.length + 1 ≤ 16777216 := by simpa [Nat.add_assoc] using hl
    rw [ev_lc_cons, h1, ev_lcO, h2, noex_ok, bind_ok]
    cases hc : c d with
    | true =>
      rw [ev_kLcT_t, h3 hc, noex_ok, bind_ok, ev_kLcE (h := by omega), lc_fil t ft fe c f ds (acc ++ [f d]) ht (by simp; omega), List.filter_cons, if_pos hc]
      simp
    | false =>
      rw [ev_kLcT_f, lc_fil t ft fe c f ds acc ht (by omega), List.filter_cons, if_neg (by rw [hc]; decide)]
end
/-! ### == with the empty list -/
def Flat (k : Nat) (d : D) : Prop := ∃ q, toPy d = some q ∧ PyData.canLay0 q = true ∧ PyData.depth q ≤ k
theorem flat_int (i : Int) : Flat 1 (.int i) := ⟨_, rfl, by simp [PyData.canLay0], by simp [PyData.depth]⟩
theorem toPys_flat {k : Nat} : ∀ l : List D, (∀ d ∈ l, Flat k d) → ∃ qs, toPys l = some qs ∧ PyData.canLayAll0 qs = true ∧ PyData.depthAll qs ≤ k ∧ qs.isEmpty = l.isEmpty
  | [], _ => ⟨[], rfl, rfl, by simp [PyData.depthAll], rfl⟩
  | d :: l, h => by
    obtain ⟨qs, h1, h2, h3, h4⟩ := toPys_flat l fun x hx => h x (List.mem_cons_of_mem _ hx)
    obtain ⟨q, q1, q2, q3⟩ := h d List.mem_cons_self
    refine ⟨q :: qs, by simp only [toPys, q1, h1], by simp [PyData.canLayAll0, q2, h2], by simp [PyData.depthAll]; omega, rfl⟩
theorem flat_tup {k : Nat} {l : List D} (h : ∀ d ∈ l, Flat k d) : Flat (k + 1) (.tup l) := by
  obtain ⟨qs, h1, h2, h3, _⟩ := toPys_flat l h
  exact ⟨.tuple qs, by simp [toPy, h1], by simpa [PyData.canLay0] using h2, by simp [PyData.depth]; omega⟩
theorem eq_empty {k : Nat} (x : D) (l : List D) (M : Sto) (hv : toV x = none) (hx : pyM x M = (toPys l).map .list) (h : ∀ d ∈ l, Flat k d) (hk : k ≤ 60) : eqD x (.lst []) M = some l.isEmpty := by
  obtain ⟨qs, h1, h2, h3, h4⟩ := toPys_flat l h
  have hd : PyData.depth (.list qs) ≤ 64 := by simp [PyData.depth]; omega
  have hp : pyM (.lst []) M = some (.list []) := rfl
  unfold eqD
  rw [hv]
  simp only [hx, h1, Option.map_some, hp]
  simp only [SeqAt.shaped, PyData.canLay0, h2, hd, decide_true, PyData.canLayAll0]
  cases l with
  | nil => cases qs with
    | nil => simp [PyData.eqv, PyData.eqvAll, PyData.depth, PyData.depthAll]
    | cons q qs => simp at h4
  | cons p ps => cases qs with
    | nil => simp at h4
    | cons q qs => simp [PyData.eqv, PyData.eqvAll, PyData.depth, PyData.depthAll]
end Ip
end
section
set_option Elab.async false
set_option linter.all false
set_option maxRecDepth 100000
set_option maxHeartbeats 1000000
set_option autoImplicit false
/-! Typed readings: what a def is worth as a plain Lean term, by what it promises. -/
namespace Ip
open PySem L2
/-! ### what is promised of a value -/
def Pr (α : Type) : Type := (α → Prop) → (Exn → Prop) → Prop
namespace Pr
variable {α β γ : Type}
def ok (a : α) : Pr α := fun Q _ => Q a
def bad : Pr α := fun _ _ => False
def exc (e : Exn) : Pr α := fun _ E => E e
def bind (p : Pr α) (k : α → Pr β) : Pr β := fun Q E => p (fun a => k a Q E) E
def need (c : Prop) (p : Pr α) : Pr α := fun Q E => c ∧ p Q E
theorem ok_bind (a : α) (k : α → Pr β) : (ok a).bind k = k a := rfl
theorem bad_bind (k : α → Pr β) : (bad : Pr α).bind k = bad := rfl
theorem bind_bind (p : Pr α) (k : α → Pr β) (l : β → Pr γ) : (p.bind k).bind l = p.bind fun a => (k a).bind l := rfl
theorem bind_ok (p : Pr α) : p.bind ok = p := rfl
theorem ite_bind (c : Prop) [Decidable c] (p q : Pr α) (k : α → Pr β) : (if c then p else q).bind k = if c then p.bind k else q.bind k := by split <;> rfl
/-- one of the numbers below n -/
def pull (n : Int) : Pr Int := fun Q _ => 0 < n ∧ n < 1073741824 ∧ ∀ v, 0 ≤ v → v < n → Q v
/-- one of these -/
def of (l : List α) : Pr α := fun Q _ => l ≠ [] ∧ l.length < 1073741824 ∧ ∀ x ∈ l, Q x
end Pr
/-! ### values as trees -/
class Enc (α : Type) where
  enc : α → D
  cls : ∀ a k, closed k (enc a) = true
  inj : ∀ a b, enc a = enc b → a = b
abbrev en {α : Type} [Enc α] (a : α) : D := Enc.enc a
instance : Enc Int := ⟨D.int, fun _ _ => rfl, fun _ _ h => by cases h; rfl⟩
instance : Enc Bool := ⟨D.bl, fun _ _ => rfl, fun _ _ h => by cases h; rfl⟩
instance : Enc Str := ⟨D.str, fun _ _ => rfl, fun _ _ h => by cases h; rfl⟩
instance : Enc Unit := ⟨fun _ => D.non, fun _ _ => rfl, fun _ _ _ => rfl⟩
theorem closedAll_map {α : Type} [Enc α] (k : Nat) : ∀ l : List α, closedAll k (l.map en) = true
  | [] => rfl
  | x :: l => by simp [closedAll, Enc.cls x k, closedAll_map k l]
theorem map_inj {α : Type} [Enc α] : ∀ l l' : List α, l.map en = l'.map en → l = l'
  | [], [], _ => rfl
  | [], _ :: _, h => by simp at h
  | _ :: _, [], h => by simp at h
  | x :: l, y :: l', h => by
    simp only [List.map_cons, List.cons.injEq] at h
    rw [Enc.inj x y h.1, map_inj l l' h.2]
instance {α : Type} [Enc α] : Enc (List α) := ⟨fun l => .lst (l.map en), fun l k => by simp [closed, closedAll_map], fun a b h => map_inj a b (D.lst.inj h)⟩
instance {α β : Type} [Enc α] [Enc β] : Enc (α × β) := ⟨fun p => .tup [en p.1, en p.2], fun p k => by simp [closed, closedAll, Enc.cls], fun a b h => by
  have h' : [en a.1, en a.2] = [en b.1, en b.2] := D.tup.inj h
  simp only [List.cons.injEq, and_true] at h'
  exact Prod.ext (Enc.inj _ _ h'.1) (Enc.inj _ _ h'.2)⟩
/-- never None -/
class NoN (α : Type) [Enc α] : Prop where
  non : ∀ a : α, en a ≠ D.non
instance : NoN Int := ⟨fun _ h => by cases h⟩
instance : NoN Bool := ⟨fun _ h => by cases h⟩
instance : NoN Str := ⟨fun _ h => by cases h⟩
instance {α : Type} [Enc α] : NoN (List α) := ⟨fun _ h => by cases h⟩
instance {α β : Type} [Enc α] [Enc β] : NoN (α × β) := ⟨fun _ h => by cases h⟩
def enO {α : Type} [Enc α] : Option α → D
  | none => .non
  | some a => en a
instance {α : Type} [Enc α] [NoN α] : Enc (Option α) := ⟨enO, fun p k => by
    cases p with
    | none => rfl
    | some a => exact Enc.cls a k, fun a b h => by
    cases a with
    | none => cases b with
      | none => rfl
      | some b => exact absurd h.symm (NoN.non b)
    | some a => cases b with
      | none => exact absurd h (NoN.non a)
      | some b => rw [Enc.inj a b h]⟩
structure T3 (α β γ : Type) where
  p1 : α
  p2 : β
  p3 : γ
structure T4 (α β γ δ : Type) where
  p1 : α
  p2 : β
  p3 : γ
  p4 : δ
instance {α β γ : Type} [Enc α] [Enc β] [Enc γ] : Enc (T3 α β γ) := ⟨fun p => .tup [en p.p1, en p.p2, en p.p3], fun p k => by simp [closed, closedAll, Enc.cls], fun a b h => by
  have h' := D.tup.inj h
  simp only [List.cons.injEq, and_true] at h'
  cases a; cases b
  simp only [T3.mk.injEq]
  exact ⟨Enc.inj _ _ h'.1, Enc.inj _ _ h'.2.1, Enc.inj _ _ h'.2.2⟩⟩
instance {α β γ δ : Type} [Enc α] [Enc β] [Enc γ] [Enc δ] : Enc (T4 α β γ δ) := ⟨fun p => .tup [en p.p1, en p.p2, en p.p3, en p.p4], fun p k => by simp [closed, closedAll, Enc.cls], fun a b h => by
  have h' := D.tup.inj h
  simp only [List.cons.injEq, and_true] at h'
  cases a; cases b
  simp only [T4.mk.injEq]
  exact ⟨Enc.inj _ _ h'.1, Enc.inj _ _ h'.2.1, Enc.inj _ _ h'.2.2.1, Enc.inj _ _ h'.2.2.2⟩⟩
instance {α β γ : Type} [Enc α] [Enc β] [Enc γ] : NoN (T3 α β γ) := ⟨fun _ h => by cases h⟩
instance {α β γ δ : Type} [Enc α] [Enc β] [Enc γ] [Enc δ] : NoN (T4 α β γ δ) := ⟨fun _ h => by cases h⟩
/-- a tree without cells, of any kind -/
structure Da where
  d : D
  c : ∀ k, closed k d = true
instance : Enc Da := ⟨Da.d, fun a k => a.c k, fun a b h => by cases a; cases b; cases h; rfl⟩
def da {α : Type} [Enc α] (a : α) : Da := ⟨en a, fun k => Enc.cls a k⟩
theorem en_da {α : Type} [Enc α] (a : α) : en (da a) = en a := rfl
/-! ### stores -/
/-- no cell speaks of another one -/
def PureS (M : Sto) : Prop := ∀ k, M.all (cellClosed k) = true
def bagD (ns : List Int) (i j m c : Int) : List D := [.lst (ns.map D.int), .int i, .int j, .int m, .int c]
def BagOk (l : List D) : Prop := ∃ ns i j m c, l = bagD ns i j m c ∧ 0 ≤ i ∧ 0 ≤ j ∧ 0 ≤ m ∧ m < 2147483563 ∧ 0 ≤ c
theorem PureS.app {M N : Sto} (h : PureS M) (h' : PureS N) : PureS (M ++ N) := fun k => by rw [List.all_append, h k, h' k]; rfl
theorem PureS.of_app {M N : Sto} (h : PureS (M ++ N)) : PureS M ∧ PureS N := ⟨fun k => by have := h k; rw [List.all_append, Bool.and_eq_true] at this; exact this.1, fun k => by have := h k; rw [List.all_append, Bool.and_eq_true] at this; exact this.2⟩
theorem PureS.one {c : Cell} (h : ∀ k, cellClosed k c = true) : PureS [c] := fun k => by simp [h k]
theorem PureS.set {M : Sto} (h : PureS M) (n : Nat) {c : Cell} (hc : ∀ k, cellClosed k c = true) : PureS (M.set n c) := fun k => by
  rw [List.all_eq_true]
  intro x hx
  rcases List.mem_or_eq_of_mem_set hx with z | z
  · exact List.all_eq_true.mp (h k) x z
  · rw [z]; exact hc k
theorem PureS.nil : PureS [] := fun _ => rfl
theorem closed_bagD (ns : List Int) (i j m c : Int) (k : Nat) : closedAll k (bagD ns i j m c) = true := by
  have := closedAll_map (α := Int) k ns
  simp only [bagD, closedAll, closed, Bool.and_true]
  exact this
theorem bag_closed {b : List D} (h : BagOk b) (k : Nat) : cellClosed k (.lst b) = true := by
  obtain ⟨ns, i, j, m, c, rfl, _⟩ := h
  exact closed_bagD ns i j m c k
/-- the store: what stood before, as P says, and the cells cs -/
structure St (N : Nat) (P : Sto → Prop) (cs : List (Nat × Cell)) (M : Sto) : Prop where
  base : ∃ A J, P A ∧ A.length = N ∧ M = A ++ J
  pure : PureS M
  nd : (cs.map Prod.fst).Nodup
  cell : ∀ p ∈ cs, N ≤ p.1 ∧ M[p.1]? = some p.2
section
variable {N : Nat} {P : Sto → Prop} {cs : List (Nat × Cell)} {M : Sto}
theorem St.get (h : St N P cs M) (i : Nat) {n : Nat} {c : Cell} (hi : cs[i]? = some (n, c)) : M[n]? = some c := (h.cell _ (List.mem_of_getElem? hi)).2
theorem St.le (h : St N P cs M) : N ≤ M.length := by
  obtain ⟨A, J, _, e, rfl⟩ := h.base
  simp; omega
theorem St.new (h : St N P cs M) {c : Cell} (hc : ∀ k, cellClosed k c = true) : St N P (cs ++ [(M.length, c)]) (M ++ [c]) := by
  obtain ⟨A, J, hP, e, rfl⟩ := h.base
  refine ⟨⟨A, J ++ [c], hP, e, by simp⟩, h.pure.app (.one hc), ?_, ?_⟩
  · rw [List.map_append, List.nodup_append]
    refine ⟨h.nd, by simp, ?_⟩
    intro a ha b hb
    obtain ⟨p, hp, rfl⟩ := List.mem_map.mp ha
    have := (List.getElem?_eq_some_iff.mp (h.cell p hp).2).1
    simp only [List.map_cons, List.map_nil, List.mem_singleton] at hb
    omega
  · intro p hp
    rcases List.mem_append.mp hp with z | z
    · have := h.cell p z
      refine ⟨this.1, ?_⟩
      rw [List.getElem?_append_left (List.getElem?_eq_some_iff.mp this.2).1]
      exact this.2
    · have : p = ((A ++ J).length, c) := by simpa using z
      subst this
      exact ⟨by simp; omega, by simp⟩
theorem St.junk (h : St N P cs M) {c : Cell} (hc : ∀ k, cellClosed k c = true) : St N P cs (M ++ [c]) := by
  have := h.new hc
  exact ⟨this.base, this.pure, h.nd, fun p hp => this.cell p (List.mem_append_left _ hp)⟩
theorem nodup_set_fst : ∀ (cs : List (Nat × Cell)) (i : Nat) (n : Nat) (c c' : Cell), cs[i]? = some (n, c) → (cs.set i (n, c')).map Prod.fst = cs.map Prod.fst
  | [], _, _, _, _, h => by simp at h
  | p :: cs, 0, n, c, c', h => by
    have : p = (n, c) := by simpa using h
    subst this; rfl
  | p :: cs, i + 1, n, c, c', h => by
    simp only [List.set_cons_succ, List.map_cons]
    rw [nodup_set_fst cs i n c c' (by simpa using h)]
theorem St.set (h : St N P cs M) (i : Nat) {n : Nat} {c c' : Cell} (hi : cs[i]? = some (n, c)) (hc : ∀ k, cellClosed k c' = true) : St N P (cs.set i (n, c')) (M.set n c') := by
  obtain ⟨A, J, hP, e, rfl⟩ := h.base
  have hn := h.cell _ (List.mem_of_getElem? hi)
  have hlt := (List.getElem?_eq_some_iff.mp hn.2).1
  simp only at hn hlt
  refine ⟨⟨A, J.set (n - N) c', hP, e, ?_⟩, h.pure.set n hc, ?_, ?_⟩
  · rw [List.set_append_right _ _ (by omega), e]
  · rw [nodup_set_fst cs i n c c' hi]; exact h.nd
  · intro p hp
    rcases List.getElem_of_mem hp with ⟨j, hj, ej⟩
    have hj' : (cs.set i (n, c'))[j]? = some p := by rw [List.getElem?_eq_getElem hj, ej]
    by_cases hji : j = i
    · subst hji
      rw [List.getElem?_set_self (by simpa using hj)] at hj'
      cases hj'
      exact ⟨hn.1, by simp only; rw [List.getElem?_set_self hlt]⟩
    · rw [List.getElem?_set_ne (Ne.symm hji)] at hj'
      have hp' := h.cell p (List.mem_of_getElem? hj')
      refine ⟨hp'.1, ?_⟩
      rw [List.getElem?_set_ne]
      · exact hp'.2
      · intro z
        have h1 : (cs.map Prod.fst)[j]? = some p.1 := by rw [List.getElem?_map, hj']; rfl
        have h2 : (cs.map Prod.fst)[i]? = some n := by rw [List.getElem?_map, hi]; rfl
        rw [← z] at h1
        exact hji ((List.getElem?_inj (List.getElem?_eq_some_iff.mp h1).1 h.nd).mp (h1.trans h2.symm))
theorem St.pre {cs' : List (Nat × Cell)} (h : St N P (cs ++ cs') M) : St N P cs M :=
  ⟨h.base, h.pure, by have := h.nd; rw [List.map_append, List.nodup_append] at this; exact this.1, fun p hp => h.cell p (List.mem_append_left _ hp)⟩
theorem St.nil_of (h : St N P cs M) : St N P [] M := ⟨h.base, h.pure, List.nodup_nil, fun _ z => by cases z⟩
theorem St.start (hP : P M) (hl : M.length = N) (hp : PureS M) : St N P [] M := ⟨⟨M, [], hP, hl, by simp⟩, hp, List.nodup_nil, fun _ z => by cases z⟩
end
def BagP (G : Sto) : Sto → Prop := fun A => ∃ b, BagOk b ∧ A = .lst b :: G
/-- the bag of such a store -/
theorem St.bag {G : Sto} {cs : List (Nat × Cell)} {M : Sto} (h : St (G.length + 1) (BagP G) cs M) : ∃ b K, BagOk b ∧ M = .lst b :: K ∧ PureS K ∧ ∀ b', BagOk b' → St (G.length + 1) (BagP G) cs (.lst b' :: K) := by
  obtain ⟨A, J, ⟨b, hb, rfl⟩, e, rfl⟩ := h.base
  have hp := h.pure
  refine ⟨b, G ++ J, hb, rfl, (PureS.of_app (M := [.lst b]) (N := G ++ J) hp).2, fun b' hb' => ⟨⟨.lst b' :: G, J, ⟨b', hb', rfl⟩, by simp, rfl⟩, PureS.app (M := [.lst b']) (.one (bag_closed hb')) (PureS.of_app (M := [.lst b]) (N := G ++ J) hp).2, h.nd, fun p hq => ?_⟩⟩
  have := h.cell p hq
  refine ⟨this.1, ?_⟩
  have h1 := this.1
  obtain ⟨n, c⟩ := p
  simp only at h1 this ⊢
  cases n with
  | zero => omega
  | succ n => simpa using this.2
end Ip
end
section
set_option Elab.async false
set_option linter.all false
set_option maxRecDepth 100000
set_option maxHeartbeats 1000000
set_option autoImplicit false
namespace Ip
open PySem L2
structure Sat {α δ : Type} (o : Out δ) (p : Pr α) (rel : α → δ → Sto → Prop) (X : Sto → Prop) : Prop where
  run : ∀ (Q : α → Prop) (E : Exn → Prop), p Q E → o.post (fun d M => ∃ a, Q a ∧ rel a d M) (fun e _ M => E e ∧ X M)
abbrev NX : Sto → Prop := fun _ => False
theorem post_mk_bind {α β : Type} {o : Out α} {k : α → Sto → Out β} {Q : β → Sto → Prop} {E : Exn → En → Sto → Prop} (h : o.post (fun a M => (k a M).post Q E) E) : (o.bind k).post Q E := by
  cases o <;> exact h
section
variable {α β γ δ ε σ ρ : Type} {X : Sto → Prop} {rel : α → δ → Sto → Prop} {rel' : β → ε → Sto → Prop}
theorem Sat.bind {o : Out δ} {p : Pr α} {c : δ → Sto → Out ε} {k : α → Pr β} (h : Sat o p rel X) (hk : ∀ a d M, rel a d M → Sat (c d M) (k a) rel' X) : Sat (o.bind c) (p.bind k) rel' X :=
  ⟨fun Q E z => post_mk_bind ((h.run _ E z).imp (fun d M ⟨a, q, r⟩ => (hk a d M r).run Q E q) (fun _ _ _ z => z))⟩
theorem Sat.ok {d : δ} {M : Sto} {a : α} (h : rel a d M) : Sat (.ok d M) (Pr.ok a) rel X := ⟨fun Q E z => ⟨a, z, h⟩⟩
theorem Sat.bad {o : Out δ} : Sat o (Pr.bad : Pr α) rel X := ⟨fun Q E z => z.elim⟩
theorem Sat.imp {o : Out δ} {p : Pr α} {rel2 : α → δ → Sto → Prop} (h : Sat o p rel X) (w : ∀ a d M, rel a d M → rel2 a d M) : Sat o p rel2 X :=
  ⟨fun Q E z => (h.run Q E z).imp (fun d M ⟨a, q, r⟩ => ⟨a, q, w a d M r⟩) (fun _ _ _ z => z)⟩
theorem Sat.ref {o : Out δ} {p p' : Pr α} (h : Sat o p rel X) (w : ∀ Q E, p' Q E → p Q E) : Sat o p' rel X := ⟨fun Q E z => h.run Q E (w Q E z)⟩
theorem Sat.map {o : Out δ} {p : Pr α} {w : α → β} {r2 : β → δ → Sto → Prop} (h : Sat o p rel X) (hw : ∀ a d M, rel a d M → r2 (w a) d M) : Sat o (p.bind fun a => Pr.ok (w a)) r2 X :=
  ⟨fun Q E z => (h.run _ E z).imp (fun d M ⟨a, q, r⟩ => ⟨w a, q, hw a d M r⟩) (fun _ _ _ z => z)⟩
theorem Sat.ite {c : Prop} [Decidable c] {o : Out δ} {p q : Pr α} (h1 : c → Sat o p rel X) (h2 : ¬ c → Sat o q rel X) : Sat o (if c then p else q) rel X := by
  split
  · exact h1 ‹_›
  · exact h2 ‹_›
theorem Sat.need {c : Prop} {o : Out δ} {p : Pr α} (h : c → Sat o p rel X) : Sat o (Pr.need c p) rel X := ⟨fun Q E z => (h z.1).run Q E z.2⟩
theorem Sat.noex {o : Out δ} {p : Pr α} (h : Sat o p rel NX) : Sat (Ip.noex o) p rel X := by
  refine ⟨fun Q E z => ?_⟩
  have := h.run Q E z
  cases o with
  | ok d M => exact this
  | exc e env M => exact this.2.elim
  | bad => exact this
theorem bind_assoc (o : Out δ) (c : δ → Sto → Out ε) (c' : ε → Sto → Out γ) : (o.bind c).bind c' = o.bind fun d M => (c d M).bind c' := by cases o <;> rfl
/-! ### values -/
def PV (f : DE) (env : En) (S : Sto → Prop) (x : D) : Prop := ∀ M, S M → f env M = .ok x M
def relE [Enc α] (S : Sto → Prop) : α → D → Sto → Prop := fun a d M => d = en a ∧ S M
def PX [Enc α] (f : DE) (env : En) (S X : Sto → Prop) (p : Pr α) : Prop := ∀ M, S M → Sat (f env M) p (relE S) X
def TV (f : DT) (env : En) (S : Sto → Prop) (b : Bool) : Prop := ∀ M, S M → f env M = .ok b M
def relT (S : Sto → Prop) : Bool → Bool → Sto → Prop := fun a d M => d = a ∧ S M
def TX (f : DT) (env : En) (S X : Sto → Prop) (p : Pr Bool) : Prop := ∀ M, S M → Sat (f env M) p (relT S) X
variable {env : En} {S : Sto → Prop} {M : Sto}
theorem PV.px [Enc α] {f : DE} {a : α} (h : PV f env S (en a)) : PX f env S X (Pr.ok a) := fun M hM => by rw [h M hM]; exact .ok ⟨rfl, hM⟩
theorem TV.tx {f : DT} {b : Bool} (h : TV f env S b) : TX f env S X (Pr.ok b) := fun M hM => by rw [h M hM]; exact .ok ⟨rfl, hM⟩
theorem pv {i : Nat} {d : D} (h : env[i]? = some (some d)) : PV (dVar i) env S d := fun M _ => by unfold dVar; rw [h]
theorem pv_c {d : D} : PV (dC d) env S d := fun _ _ => rfl
/-- the value of a tree of another kind -/
def cast [Enc α] [Enc β] (a : α) : Pr β := fun Q _ => ∃ b : β, en a = en b ∧ Q b
theorem PV.cast [Enc α] [Enc β] {f : DE} {a : α} (h : PV f env S (en a)) : PX f env S X (Ip.cast a : Pr β) := fun M hM => by
  refine ⟨fun Q E ⟨b, e, q⟩ => ?_⟩
  rw [h M hM]
  exact ⟨b, q, e, hM⟩
theorem PX.cast [Enc α] [Enc β] {f : DE} {p : Pr α} (h : PX f env S X p) : PX f env S X (p.bind fun a => (Ip.cast a : Pr β)) := fun M hM => ⟨fun Q E z =>
  ((h M hM).run _ E z).imp (fun d M' ⟨a, ⟨b, e, q⟩, r1, r2⟩ => ⟨b, q, r1.trans e, r2⟩) (fun _ _ _ z => z)⟩
theorem bd_p {f : DE} {x : D} {c : D → Sto → Out ε} {P : Pr β} (h : PV f env S x) (hM : S M) (hk : Sat (c x M) P rel' X) : Sat ((f env M).bind c) P rel' X := by
  rw [h M hM]; exact hk
theorem bd_e [Enc α] {f : DE} {p : Pr α} {c : D → Sto → Out ε} {k : α → Pr β} (h : PX f env S X p) (hM : S M) (hk : ∀ a M1, S M1 → Sat (c (en a) M1) (k a) rel' X) : Sat ((f env M).bind c) (p.bind k) rel' X :=
  (h M hM).bind fun a d M1 ⟨e, s⟩ => by rw [e]; exact hk a M1 s
theorem td_p {f : DT} {b : Bool} {c : Bool → Sto → Out ε} {P : Pr β} (h : TV f env S b) (hM : S M) (hk : Sat (c b M) P rel' X) : Sat ((f env M).bind c) P rel' X := by
  rw [h M hM]; exact hk
theorem td_e {f : DT} {p : Pr Bool} {c : Bool → Sto → Out ε} {k : Bool → Pr β} (h : TX f env S X p) (hM : S M) (hk : ∀ a M1, S M1 → Sat (c a M1) (k a) rel' X) : Sat ((f env M).bind c) (p.bind k) rel' X :=
  (h M hM).bind fun a d M1 ⟨e, s⟩ => by rw [e]; exact hk a M1 s
/-! ### operators of two values -/
/-- what the operator g gives, as a value of a known kind -/
def op2 [Enc α] [Enc β] [Enc γ] (g : G2) (a : α) (b : β) : Pr γ := fun Q _ => ∃ c : γ, (∀ M, g (en a) (en b) M = some (en c, M)) ∧ Q c
def op1 [Enc α] [Enc γ] (g : D → Sto → Option (D × Sto)) (a : α) : Pr γ := fun Q _ => ∃ c : γ, (∀ M, g (en a) M = some (en c, M)) ∧ Q c
theorem op2_ok [Enc α] [Enc β] [Enc γ] {g : G2} {a : α} {b : β} {c : γ} (h : ∀ M, g (en a) (en b) M = some (en c, M)) : (op2 g a b : Pr γ) = Pr.ok c := by
  funext Q E
  refine propext ⟨fun ⟨c', h', q⟩ => ?_, fun q => ⟨c, h, q⟩⟩
  have e := (h' []).symm.trans (h [])
  simp only [Option.some.injEq, Prod.mk.injEq, and_true] at e
  rw [Enc.inj c' c e] at q
  exact q
theorem op1_ok [Enc α] [Enc γ] {g : D → Sto → Option (D × Sto)} {a : α} {c : γ} (h : ∀ M, g (en a) M = some (en c, M)) : (op1 g a : Pr γ) = Pr.ok c := by
  funext Q E
  refine propext ⟨fun ⟨c', h', q⟩ => ?_, fun q => ⟨c, h, q⟩⟩
  have e := (h' []).symm.trans (h [])
  simp only [Option.some.injEq, Prod.mk.injEq, and_true] at e
  rw [Enc.inj c' c e] at q
  exact q
def GS [Enc γ] (S X : Sto → Prop) (g : G2) (x y : D) (p : Pr γ) : Prop := ∀ M, S M → Sat (liftM (g x y M)) p (relE S) X
theorem gs_op2 [Enc α] [Enc β] [Enc γ] {g : G2} {a : α} {b : β} : GS S X g (en a) (en b) (op2 g a b : Pr γ) := fun M hM => by
  refine ⟨fun Q E ⟨c, h, q⟩ => ?_⟩
  rw [h M]
  exact ⟨c, q, rfl, hM⟩
theorem gs_ok [Enc γ] {g : G2} {x y : D} {c : γ} (h : ∀ M, S M → g x y M = some (en c, M)) : GS S X g x y (Pr.ok c) := fun M hM => by
  rw [h M hM]
  exact .ok ⟨rfl, hM⟩
theorem bin_v {g : G2} {fa fb : DE} {x y z : D} (ha : PV fa env S x) (hb : PV fb env S y) (hg : ∀ M, S M → g x y M = some (z, M)) : PV (dBin g fa fb) env S z := fun M hM => by
  unfold dBin
  rw [ha M hM]
  show (fb env M).bind _ = _
  rw [hb M hM]
  show liftM (g x y M) = _
  rw [hg M hM]; rfl
theorem bin_pp [Enc γ] {g : G2} {fa fb : DE} {x y : D} {P : Pr γ} (ha : PV fa env S x) (hb : PV fb env S y) (hg : GS S X g x y P) : PX (dBin g fa fb) env S X P := fun M hM =>
  bd_p ha hM (bd_p hb hM (hg M hM))
theorem bin_pe [Enc β] [Enc γ] {g : G2} {fa fb : DE} {x : D} {q : Pr β} {R : β → Pr γ} (ha : PV fa env S x) (hb : PX fb env S X q) (hg : ∀ b, GS S X g x (en b) (R b)) : PX (dBin g fa fb) env S X (q.bind R) := fun M hM =>
  bd_p ha hM (bd_e hb hM fun b M1 h1 => hg b M1 h1)
theorem bin_ep [Enc α] [Enc γ] {g : G2} {fa fb : DE} {y : D} {p : Pr α} {R : α → Pr γ} (ha : PX fa env S X p) (hb : PV fb env S y) (hg : ∀ a, GS S X g (en a) y (R a)) : PX (dBin g fa fb) env S X (p.bind R) := fun M hM =>
  bd_e ha hM fun a M1 h1 => bd_p hb h1 (hg a M1 h1)
theorem bin_ee [Enc α] [Enc β] [Enc γ] {g : G2} {fa fb : DE} {p : Pr α} {q : Pr β} {R : α → β → Pr γ} (ha : PX fa env S X p) (hb : PX fb env S X q) (hg : ∀ a b, GS S X g (en a) (en b) (R a b)) : PX (dBin g fa fb) env S X (p.bind fun a => q.bind (R a)) := fun M hM =>
  bd_e ha hM fun a M1 h1 => bd_e hb h1 fun b M2 h2 => hg a b M2 h2
def GU [Enc γ] (S X : Sto → Prop) (g : D → Sto → Option (D × Sto)) (x : D) (p : Pr γ) : Prop := ∀ M, S M → Sat (liftM (g x M)) p (relE S) X
theorem gu_op1 [Enc α] [Enc γ] {g : D → Sto → Option (D × Sto)} {a : α} : GU S X g (en a) (op1 g a : Pr γ) := fun M hM => by
  refine ⟨fun Q E ⟨c, h, q⟩ => ?_⟩
  rw [h M]
  exact ⟨c, q, rfl, hM⟩
theorem gu_ok [Enc γ] {g : D → Sto → Option (D × Sto)} {x : D} {c : γ} (h : ∀ M, S M → g x M = some (en c, M)) : GU S X g x (Pr.ok c) := fun M hM => by
  rw [h M hM]
  exact .ok ⟨rfl, hM⟩
theorem un_v {g : D → Sto → Option (D × Sto)} {fa : DE} {x z : D} (ha : PV fa env S x) (hg : ∀ M, S M → g x M = some (z, M)) : PV (dUn g fa) env S z := fun M hM => by
  unfold dUn
  rw [ha M hM]
  show liftM (g x M) = _
  rw [hg M hM]; rfl
theorem un_p [Enc γ] {g : D → Sto → Option (D × Sto)} {fa : DE} {x : D} {P : Pr γ} (ha : PV fa env S x) (hg : GU S X g x P) : PX (dUn g fa) env S X P := fun M hM => bd_p ha hM (hg M hM)
theorem un_e [Enc α] [Enc γ] {g : D → Sto → Option (D × Sto)} {fa : DE} {p : Pr α} {R : α → Pr γ} (ha : PX fa env S X p) (hg : ∀ a, GU S X g (en a) (R a)) : PX (dUn g fa) env S X (p.bind R) := fun M hM => bd_e ha hM fun a M1 h1 => hg a M1 h1
/-! ### arguments -/
theorem arg_p {f : DE} {fr : DA} {x : D} {c : List D → Sto → Out ε} {P : Pr β} (h : PV f env S x) (hM : S M) (hk : Sat ((fr env M).bind fun xs M2 => c (x :: xs) M2) P rel' X) : Sat ((dConsA f fr env M).bind c) P rel' X := by
  unfold dConsA
  rw [h M hM]
  show Sat ((Out.bind (fr env M) fun xs M2 => Out.ok (x :: xs) M2).bind c) P rel' X
  rw [bind_assoc]
  exact hk
theorem arg_e [Enc α] {f : DE} {fr : DA} {p : Pr α} {k : α → Pr β} {c : List D → Sto → Out ε} (h : PX f env S X p) (hM : S M) (hk : ∀ a M1, S M1 → Sat ((fr env M1).bind fun xs M2 => c (en a :: xs) M2) (k a) rel' X) : Sat ((dConsA f fr env M).bind c) (p.bind k) rel' X := by
  unfold dConsA
  rw [bind_assoc]
  refine (h M hM).bind fun a d M1 ⟨e, s⟩ => ?_
  rw [e]
  show Sat ((Out.bind (fr env M1) fun xs M2 => Out.ok (en a :: xs) M2).bind c) (k a) rel' X
  rw [bind_assoc]
  exact hk a M1 s
theorem arg_nil {c : List D → Sto → Out ε} {P : Pr β} (h : Sat (c [] M) P rel' X) : Sat ((dNilA env M).bind c) P rel' X := h
def AV (fa : DA) (env : En) (S : Sto → Prop) (xs : List D) : Prop := ∀ M, S M → fa env M = .ok xs M
theorem av_nil : AV dNilA env S [] := fun _ _ => rfl
theorem av_cons {f : DE} {fr : DA} {x : D} {xs : List D} (h : PV f env S x) (hr : AV fr env S xs) : AV (dConsA f fr) env S (x :: xs) := fun M hM => by
  unfold dConsA
  rw [h M hM]
  show (fr env M).bind _ = _
  rw [hr M hM]; rfl
/-- tuples and lists written out -/
theorem tup_v {fa : DA} {xs : List D} (h : AV fa env S xs) (hl : xs.length ≤ 16777216 := by exact Nat.le_of_ble_eq_true rfl) : PV (dTup fa) env S (.tup xs) := fun M hM => by
  unfold dTup
  rw [h M hM]
  exact if_pos hl
theorem lst_v {fa : DA} {xs : List D} (h : AV fa env S xs) (hl : xs.length ≤ 16777216 := by exact Nat.le_of_ble_eq_true rfl) : PV (dLst fa) env S (.lst xs) := fun M hM => by
  unfold dLst
  rw [h M hM]
  exact if_pos hl
theorem seq_end [Enc α] {xs : List D} {mk : List D → D} {a : α} (e : mk xs = en a) (hM : S M) (hl : xs.length ≤ 16777216 := by exact Nat.le_of_ble_eq_true rfl) : Sat (if xs.length ≤ 16777216 then Out.ok (mk xs) M else .bad) (Pr.ok a) (relE S) X := by
  rw [if_pos hl]
  exact .ok ⟨e, hM⟩
/-! ### calls -/
def FP [Enc α] (F : DF) (ds : List D) (p : Pr α) : Prop := ∀ M, PureS M → Sat (F ds M) p (fun a d M' => d = en a ∧ M' = M) NX
def FB [Enc α] (F : DF) (ds : List D) (p : Pr α) : Prop := ∀ b G, BagOk b → PureS G → Sat (F (.ref 0 :: ds) (.lst b :: G)) p (fun a d M' => d = en a ∧ ∃ b', BagOk b' ∧ M' = .lst b' :: G) NX
/-- a def that gives a new list, in a cell of its own -/
def FC [Enc α] (F : DF) (ds : List D) (p : Pr (List α)) : Prop := ∀ M, PureS M → Sat (F ds M) p (fun a d M' => d = .ref M.length ∧ M' = M ++ [.lst (a.map en)]) NX
variable {N : Nat} {P : Sto → Prop} {cs : List (Nat × Cell)} {G : Sto}
theorem call_p [Enc α] {F : DF} {ds : List D} {p : Pr α} (h : FP F ds p) (hM : St N P cs M) : Sat (Ip.noex (F ds M)) p (relE (St N P cs)) X :=
  ((h M hM.pure).imp fun a d M' ⟨e1, e2⟩ => ⟨e1, by rw [e2]; exact hM⟩).noex
theorem call_b [Enc α] {F : DF} {ds : List D} {p : Pr α} (h : FB F ds p) (hM : St (G.length + 1) (BagP G) cs M) : Sat (Ip.noex (F (.ref 0 :: ds) M)) p (relE (St (G.length + 1) (BagP G) cs)) X := by
  obtain ⟨b, K, hb, rfl, hK, hs⟩ := hM.bag
  refine ((h b K hb hK).imp fun a d M' ⟨e1, b', hb', e2⟩ => ⟨e1, ?_⟩).noex
  rw [e2]
  exact hs b' hb'
end
end Ip
end
section
set_option Elab.async false
set_option linter.all false
set_option maxRecDepth 100000
set_option maxHeartbeats 1000000
set_option autoImplicit false
namespace Ip
open PySem L2
section
variable {α β γ δ ε σ ρ : Type} {X : Sto → Prop} {env : En} {S : Sto → Prop} {M : Sto}
/-! ### tests -/
theorem b_v {f : DE} {b : Bool} (h : PV f env S (.bl b)) : TV (dB f) env S b := fun M hM => by
  rw [ev_b, h M hM]
  rfl
theorem b_x {f : DE} {p : Pr Bool} (h : PX f env S X p) : TX (dB f) env S X p := fun M hM => by
  refine ⟨fun Q E z => ?_⟩
  have := (h M hM).run Q E z
  rw [ev_b]
  cases ho : f env M with
  | bad => rw [ho] at this; exact this
  | exc e v M1 => rw [ho] at this; exact this
  | ok d M1 =>
    rw [ho] at this
    obtain ⟨b, q, e, s⟩ := this
    subst e
    exact ⟨b, q, rfl, s⟩
theorem tru_v {f : DE} {d : D} {b : Bool} (h : PV f env S d) (ht : ∀ M, S M → truD d M = some b) : TV (dTru f) env S b := fun M hM => by
  unfold dTru
  rw [h M hM]
  show (match truD d M with
    | some b => Out.ok b M
    | none => .bad) = _
  rw [ht M hM]
theorem tru_x [Enc α] {f : DE} {p : Pr α} {w : α → Bool} (h : PX f env S X p) (ht : ∀ a M, S M → truD (en a) M = some (w a)) : TX (dTru f) env S X (p.bind fun a => Pr.ok (w a)) := fun M hM =>
  bd_e h hM fun a M1 h1 => by
    show Sat (match truD (en a) M1 with
      | some b => Out.ok b M1
      | none => .bad) _ _ _
    rw [ht a M1 h1]
    exact .ok ⟨rfl, h1⟩
theorem tru_b {f : DE} {p : Pr Bool} (h : PX f env S X p) : TX (dTru f) env S X p := fun M hM => tru_x (w := id) h (fun a M _ => rfl) M hM
theorem not_tv {f : DT} {b : Bool} (h : TV f env S b) : TV (dNot f) env S (!b) := fun M hM => by
  unfold dNot; rw [h M hM]; rfl
theorem not_tx {f : DT} {p : Pr Bool} (h : TX f env S X p) : TX (dNot f) env S X (p.bind fun b => Pr.ok (!b)) := fun M hM => td_e h hM fun b M1 h1 => .ok ⟨rfl, h1⟩
theorem and_tv {f g : DT} {a b : Bool} (h : TV f env S a) (h' : TV g env S b) : TV (dAnd f g) env S (a && b) := fun M hM => by
  unfold dAnd; rw [h M hM]
  cases a
  · rfl
  · exact h' M hM
theorem or_tv {f g : DT} {a b : Bool} (h : TV f env S a) (h' : TV g env S b) : TV (dOr f g) env S (a || b) := fun M hM => by
  unfold dOr; rw [h M hM]
  cases a
  · exact h' M hM
  · rfl
theorem and_tx {f g : DT} {p q : Pr Bool} (h : TX f env S X p) (h' : TX g env S X q) : TX (dAnd f g) env S X (p.bind fun a => if a then q else Pr.ok false) := fun M hM => td_e h hM fun a M1 h1 => by
  cases a
  · exact .ok ⟨rfl, h1⟩
  · exact h' M1 h1
theorem or_tx {f g : DT} {p q : Pr Bool} (h : TX f env S X p) (h' : TX g env S X q) : TX (dOr f g) env S X (p.bind fun a => if a then Pr.ok true else q) := fun M hM => td_e h hM fun a M1 h1 => by
  cases a
  · exact h' M1 h1
  · exact .ok ⟨rfl, h1⟩
theorem and_tpx {f g : DT} {a : Bool} {q : Pr Bool} (h : TV f env S a) (h' : TX g env S X q) : TX (dAnd f g) env S X (if a then q else Pr.ok false) := fun M hM => td_p h hM (by
  cases a
  · exact .ok ⟨rfl, hM⟩
  · exact h' M hM)
theorem or_tpx {f g : DT} {a : Bool} {q : Pr Bool} (h : TV f env S a) (h' : TX g env S X q) : TX (dOr f g) env S X (if a then Pr.ok true else q) := fun M hM => td_p h hM (by
  cases a
  · exact h' M hM
  · exact .ok ⟨rfl, hM⟩)
theorem yes_tv : TV dYes env S true := fun _ _ => rfl
/-! truth values as values -/
theorem notV_v {f : DE} {b : Bool} (h : PV f env S (.bl b)) : PV (dNotV f) env S (.bl (!b)) := fun M hM => by unfold dNotV; rw [h M hM]; rfl
theorem notV_x {f : DE} {p : Pr Bool} (h : PX f env S X p) : PX (dNotV f) env S X (p.bind fun b => Pr.ok (!b)) := fun M hM => bd_e h hM fun b M1 h1 => .ok ⟨rfl, h1⟩
theorem andV_v {f g : DE} {a b : Bool} (h : PV f env S (.bl a)) (h' : PV g env S (.bl b)) : PV (dAndV f g) env S (.bl (a && b)) := fun M hM => by
  unfold dAndV; rw [h M hM]
  cases a
  · rfl
  · exact h' M hM
theorem orV_v {f g : DE} {a b : Bool} (h : PV f env S (.bl a)) (h' : PV g env S (.bl b)) : PV (dOrV f g) env S (.bl (a || b)) := fun M hM => by
  unfold dOrV; rw [h M hM]
  cases a
  · exact h' M hM
  · rfl
theorem andV_x {f g : DE} {p q : Pr Bool} (h : PX f env S X p) (h' : PX g env S X q) : PX (dAndV f g) env S X (p.bind fun a => if a then q else Pr.ok false) := fun M hM => bd_e h hM fun a M1 h1 => by
  cases a
  · exact .ok ⟨rfl, h1⟩
  · exact h' M1 h1
theorem orV_x {f g : DE} {p q : Pr Bool} (h : PX f env S X p) (h' : PX g env S X q) : PX (dOrV f g) env S X (p.bind fun a => if a then Pr.ok true else q) := fun M hM => bd_e h hM fun a M1 h1 => by
  cases a
  · exact h' M1 h1
  · exact .ok ⟨rfl, h1⟩
theorem ifE_v {ft : DT} {fa fb : DE} {c : Bool} {x y : D} (h : TV ft env S c) (ha : PV fa env S x) (hb : PV fb env S y) : PV (dIfE ft fa fb) env S (if c then x else y) := fun M hM => by
  unfold dIfE; rw [h M hM]
  cases c
  · exact hb M hM
  · exact ha M hM
theorem ifE_t [Enc α] {ft : DT} {fa fb : DE} {c : Bool} {p q : Pr α} (h : TV ft env S c) (ha : PX fa env S X p) (hb : PX fb env S X q) : PX (dIfE ft fa fb) env S X (if c then p else q) := fun M hM => td_p h hM (by
  cases c
  · exact hb M hM
  · exact ha M hM)
theorem ifE_x [Enc α] {ft : DT} {fa fb : DE} {t : Pr Bool} {p q : Pr α} (h : TX ft env S X t) (ha : PX fa env S X p) (hb : PX fb env S X q) : PX (dIfE ft fa fb) env S X (t.bind fun c => if c then p else q) := fun M hM => td_e h hM fun c M1 h1 => by
  cases c
  · exact hb M1 h1
  · exact ha M1 h1
/-! ### statements -/
variable {rel : α → Fl → Sto → Prop}
def NxR (N : σ → En → Sto → Prop) : σ → Fl → Sto → Prop := fun s fl M => ∃ env, fl = .nx env ∧ N s env M
theorem last_of {f : DS} {p : Pr α} (h : Sat (dSeq f dSkip env M) p rel X) : Sat (f env M) p rel X := by
  have e : dSeq f dSkip env M = f env M := by
    unfold dSeq
    cases f env M with
    | ok fl M1 => cases fl <;> rfl
    | exc e v M1 => rfl
    | bad => rfl
  rw [e] at h
  exact h
theorem seq_assoc (a b c : DS) : dSeq (dSeq a b) c = dSeq a (dSeq b c) := by
  funext env M
  unfold dSeq
  cases a env M with
  | ok fl M1 => cases fl <;> rfl
  | exc e v M1 => rfl
  | bad => rfl
theorem seq_as {a b c : DS} {p : Pr α} (h : Sat (dSeq a (dSeq b c) env M) p rel X) : Sat (dSeq (dSeq a b) c env M) p rel X := by
  rw [seq_assoc]; exact h
theorem seq_skip {g : DS} {p : Pr α} (h : Sat (g env M) p rel X) : Sat (dSeq dSkip g env M) p rel X := h
theorem skip_end {a : α} (h : rel a (.nx env) M) : Sat (dSkip env M) (Pr.ok a) rel X := .ok h
theorem seq_nx {f g : DS} {p : Pr σ} {k : σ → Pr α} {I : σ → En → Sto → Prop} (h : Sat (f env M) p (NxR I) X) (hk : ∀ s env1 M1, I s env1 M1 → Sat (g env1 M1) (k s) rel X) : Sat (dSeq f g env M) (p.bind k) rel X :=
  h.bind fun s fl M1 ⟨env1, e, i⟩ => by rw [e]; exact hk s env1 M1 i
theorem seq_set {i : Nat} {fe : DE} {g : DS} {x : D} {p : Pr α} {env1 : En} (he : env.set i (some x) = env1) (h : PV fe env S x) (hM : S M) (hk : Sat (g env1 M) p rel X) : Sat (dSeq (dSet i fe) g env M) p rel X := by
  unfold dSeq dSet
  rw [h M hM]
  subst he
  exact hk
theorem seq_setx [Enc β] {i : Nat} {fe : DE} {g : DS} {p : Pr β} {k : β → Pr α} {env1 : β → En} (he : ∀ a, env.set i (some (en a)) = env1 a) (h : PX fe env S X p) (hM : S M) (hk : ∀ a M1, S M1 → Sat (g (env1 a) M1) (k a) rel X) : Sat (dSeq (dSet i fe) g env M) (p.bind k) rel X := by
  unfold dSeq dSet
  rw [bind_assoc]
  refine bd_e h hM fun a M1 h1 => ?_
  have := hk a M1 h1
  rw [← he a] at this
  exact this
theorem seq_set2 {i j : Nat} {fe : DE} {g : DS} {x : D} {p : Pr α} {env1 : En} (he : (env.set i (some x)).set j (some x) = env1) (h : PV fe env S x) (hM : S M) (hk : Sat (g env1 M) p rel X) : Sat (dSeq (dSet2 i j fe) g env M) p rel X := by
  unfold dSeq dSet2
  rw [h M hM]
  subst he
  exact hk
theorem seq_drop {fe : DE} {g : DS} {x : D} {p : Pr α} (h : PV fe env S x) (hM : S M) (hk : Sat (g env M) p rel X) : Sat (dSeq (dDrop fe) g env M) p rel X := by
  unfold dSeq dDrop
  rw [h M hM]
  exact hk
theorem seq_dropx [Enc β] {fe : DE} {g : DS} {p : Pr β} {k : β → Pr α} (h : PX fe env S X p) (hM : S M) (hk : ∀ a M1, S M1 → Sat (g env M1) (k a) rel X) : Sat (dSeq (dDrop fe) g env M) (p.bind k) rel X := by
  unfold dSeq dDrop
  rw [bind_assoc]
  exact bd_e h hM hk
theorem seq_asg {t : DG} {fe : DE} {g : DS} {x : D} {env1 : En} {p : Pr α} (h : PV fe env S x) (ht : t x env = some env1) (hM : S M) (hk : Sat (g env1 M) p rel X) : Sat (dSeq (dAsg t fe) g env M) p rel X := by
  unfold dSeq dAsg
  rw [h M hM]
  show Sat (Out.bind (match t x env with
    | some env' => Out.ok (Fl.nx env') M
    | none => .bad) _) p rel X
  rw [ht]
  exact hk
theorem seq_asgx [Enc β] {t : DG} {fe : DE} {g : DS} {env1 : β → En} {p : Pr β} {k : β → Pr α} (h : PX fe env S X p) (ht : ∀ a, t (en a) env = some (env1 a)) (hM : S M) (hk : ∀ a M1, S M1 → Sat (g (env1 a) M1) (k a) rel X) : Sat (dSeq (dAsg t fe) g env M) (p.bind k) rel X := by
  unfold dSeq dAsg
  rw [bind_assoc]
  refine bd_e h hM fun a M1 h1 => ?_
  show Sat (Out.bind (match t (en a) env with
    | some env' => Out.ok (Fl.nx env') M1
    | none => .bad) _) _ rel X
  rw [ht a]
  exact hk a M1 h1
/-- two, three names at once -/
def seqK (g : DS) : Fl → Sto → Out Fl := fun fl M1 => match fl with
  | .nx env1 => g env1 M1
  | o => .ok o M1
theorem seq_par {i j : Nat} {fa : DA} {g : DS} {p : Pr α} (h : Sat ((fa env M).bind fun ds M1 => (match ds with
  | [x, y] => Out.ok (Fl.nx ((env.set i (some x)).set j (some y))) M1
  | _ => .bad).bind (seqK g)) p rel X) : Sat (dSeq (dPar i j fa) g env M) p rel X := by
  unfold dSeq dPar
  rw [bind_assoc]
  exact h
theorem seq_par3 {i j l : Nat} {fa : DA} {g : DS} {p : Pr α} (h : Sat ((fa env M).bind fun ds M1 => (match ds with
  | [x, y, z] => Out.ok (Fl.nx (((env.set i (some x)).set j (some y)).set l (some z))) M1
  | _ => .bad).bind (seqK g)) p rel X) : Sat (dSeq (dPar3 i j l fa) g env M) p rel X := by
  unfold dSeq dPar3
  rw [bind_assoc]
  exact h
theorem par_end {i j : Nat} {g : DS} {x y : D} {p : Pr α} {env1 : En} (he : (env.set i (some x)).set j (some y) = env1) (h : Sat (g env1 M) p rel X) : Sat ((match [x, y] with
  | [x, y] => Out.ok (Fl.nx ((env.set i (some x)).set j (some y))) M
  | _ => .bad).bind (seqK g)) p rel X := by subst he; exact h
theorem par3_end {i j l : Nat} {g : DS} {x y z : D} {p : Pr α} {env1 : En} (he : ((env.set i (some x)).set j (some y)).set l (some z) = env1) (h : Sat (g env1 M) p rel X) : Sat ((match [x, y, z] with
  | [x, y, z] => Out.ok (Fl.nx (((env.set i (some x)).set j (some y)).set l (some z))) M
  | _ => .bad).bind (seqK g)) p rel X := by subst he; exact h
theorem seq_if {ft : DT} {fa fb g : DS} {c : Bool} {p q : Pr α} (h : TV ft env S c) (hM : S M) (ha : Sat (dSeq fa g env M) p rel X) (hb : Sat (dSeq fb g env M) q rel X) : Sat (dSeq (dIf ft fa fb) g env M) (if c then p else q) rel X := by
  unfold dSeq dIf
  rw [h M hM]
  cases c
  · exact hb
  · exact ha
theorem seq_if_t {ft : DT} {fa fb g : DS} {p : Pr α} (h : TV ft env S true) (hM : S M) (ha : Sat (dSeq fa g env M) p rel X) : Sat (dSeq (dIf ft fa fb) g env M) p rel X := by
  unfold dSeq dIf
  rw [h M hM]
  exact ha
theorem seq_if_f {ft : DT} {fa fb g : DS} {p : Pr α} (h : TV ft env S false) (hM : S M) (ha : Sat (dSeq fb g env M) p rel X) : Sat (dSeq (dIf ft fa fb) g env M) p rel X := by
  unfold dSeq dIf
  rw [h M hM]
  exact ha
theorem seq_ifx {ft : DT} {fa fb g : DS} {t : Pr Bool} {p q : Pr α} (h : TX ft env S X t) (hM : S M) (ha : ∀ M, S M → Sat (dSeq fa g env M) p rel X) (hb : ∀ M, S M → Sat (dSeq fb g env M) q rel X) : Sat (dSeq (dIf ft fa fb) g env M) (t.bind fun c => if c then p else q) rel X := by
  unfold dSeq dIf
  rw [bind_assoc]
  refine td_e h hM fun c M1 h1 => ?_
  cases c
  · exact hb M1 h1
  · exact ha M1 h1
theorem if_nx {ft : DT} {fa fb : DS} {c : Bool} {p q : Pr α} (h : TV ft env S c) (hM : S M) (ha : Sat (fa env M) p rel X) (hb : Sat (fb env M) q rel X) : Sat (dIf ft fa fb env M) (if c then p else q) rel X := by
  unfold dIf
  rw [h M hM]
  cases c
  · exact hb
  · exact ha
theorem if_nxx {ft : DT} {fa fb : DS} {t : Pr Bool} {p q : Pr α} (h : TX ft env S X t) (hM : S M) (ha : ∀ M, S M → Sat (fa env M) p rel X) (hb : ∀ M, S M → Sat (fb env M) q rel X) : Sat (dIf ft fa fb env M) (t.bind fun c => if c then p else q) rel X := by
  unfold dIf
  refine td_e h hM fun c M1 h1 => ?_
  cases c
  · exact hb M1 h1
  · exact ha M1 h1
theorem seq_ret {fe : DE} {g : DS} {x : D} {a : α} (h : PV fe env S x) (hM : S M) (hr : rel a (.rt x) M) : Sat (dSeq (dRet fe) g env M) (Pr.ok a) rel X := by
  unfold dSeq dRet
  rw [h M hM]
  exact .ok hr
theorem seq_retx [Enc β] {fe : DE} {g : DS} {p : Pr β} {w : β → α} (h : PX fe env S X p) (hM : S M) (hr : ∀ a M1, S M1 → rel (w a) (.rt (en a)) M1) : Sat (dSeq (dRet fe) g env M) (p.bind fun a => Pr.ok (w a)) rel X := by
  unfold dSeq dRet
  rw [bind_assoc]
  exact bd_e h hM fun a M1 h1 => .ok (hr a M1 h1)
theorem seq_retx' [Enc α] {fe : DE} {g : DS} {p : Pr α} (h : PX fe env S X p) (hM : S M) (hr : ∀ a M1, S M1 → rel a (.rt (en a)) M1) : Sat (dSeq (dRet fe) g env M) p rel X := seq_retx (w := id) h hM hr
theorem seq_retN {g : DS} {a : α} (hr : rel a (.rt .non) M) : Sat (dSeq dRetN g env M) (Pr.ok a) rel X := .ok hr
theorem seq_brk {g : DS} {a : α} (hr : rel a (.bk env) M) : Sat (dSeq dBrk g env M) (Pr.ok a) rel X := .ok hr
theorem seq_cnt {g : DS} {a : α} (hr : rel a (.ct env) M) : Sat (dSeq dCnt g env M) (Pr.ok a) rel X := .ok hr
theorem seq_never {f g : DS} : Sat (dSeq f g env M) (Pr.bad : Pr α) rel X := .bad
/-! ### flows and loops -/
inductive FlT (σ ρ : Type) where
  | nx (s : σ) | bk (s : σ) | rt (r : ρ)
/-- a turn of a loop -/
def LpR (I : σ → En → Sto → Prop) : σ → Fl → Sto → Prop := fun s fl M => ∃ env, (fl = .nx env ∨ fl = .ct env) ∧ I s env M
def LfR (I : σ → En → Sto → Prop) (R : ρ → D → Sto → Prop) : FlT σ ρ → Fl → Sto → Prop
  | .nx s, fl, M => ∃ env, (fl = .nx env ∨ fl = .ct env) ∧ I s env M
  | .bk s, fl, M => ∃ env, fl = .bk env ∧ I s env M
  | .rt r, fl, M => ∃ d, fl = .rt d ∧ R r d M
/-- behind a loop -/
def NfR (I : σ → En → Sto → Prop) (R : ρ → D → Sto → Prop) : FlT σ ρ → Fl → Sto → Prop
  | .nx s, fl, M => ∃ env, fl = .nx env ∧ I s env M
  | .bk _, _, _ => False
  | .rt r, fl, M => ∃ d, fl = .rt d ∧ R r d M
def Pr.flow (p : Pr (FlT σ ρ)) (k : σ → Pr α) (w : ρ → α) : Pr α := p.bind fun fl => match fl with
  | .nx s => k s
  | .rt r => Pr.ok (w r)
  | .bk _ => Pr.bad
theorem seq_fl {f g : DS} {p : Pr (FlT σ ρ)} {k : σ → Pr α} {w : ρ → α} {I : σ → En → Sto → Prop} {R : ρ → D → Sto → Prop} (h : Sat (f env M) p (NfR I R) X) (hk : ∀ s env1 M1, I s env1 M1 → Sat (g env1 M1) (k s) rel X) (hr : ∀ r d M1, R r d M1 → rel (w r) (.rt d) M1) :
    Sat (dSeq f g env M) (p.flow k w) rel X :=
  h.bind fun fl d M1 z => by
    cases fl with
    | nx s => obtain ⟨env1, e, i⟩ := z; rw [e]; exact hk s env1 M1 i
    | bk s => exact z.elim
    | rt r => obtain ⟨x, e, i⟩ := z; rw [e]; exact .ok (hr r x M1 i)
def Pr.forM : List α → σ → (α → σ → Pr σ) → Pr σ
  | [], s, _ => Pr.ok s
  | x :: xs, s, b => (b x s).bind fun s' => Pr.forM xs s' b
def Pr.forF : List α → σ → (α → σ → Pr (FlT σ ρ)) → Pr (FlT σ ρ)
  | [], s, _ => Pr.ok (.nx s)
  | x :: xs, s, b => (b x s).bind fun fl => match fl with
    | .nx s' => Pr.forF xs s' b
    | .bk s' => Pr.ok (.nx s')
    | .rt r => Pr.ok (.rt r)
theorem forGo_sat {t : DG} {fb : DS} {body : β → σ → Pr σ} {I : σ → En → Sto → Prop} {enc : β → D} (hb : ∀ x s env M, I s env M → ∃ env1, t (enc x) env = some env1 ∧ Sat (fb env1 M) (body x s) (LpR I) X) :
    ∀ (l : List β) (s : σ) (env : En) (M : Sto), I s env M → Sat (forGo t fb (l.map enc) env M) (Pr.forM l s body) (NxR I) X
  | [], s, env, M, h => .ok ⟨env, rfl, h⟩
  | x :: l, s, env, M, h => by
    obtain ⟨env1, e, hs⟩ := hb x s env M h
    show Sat (match t (enc x) env with
      | none => Out.bad
      | some env1 => (fb env1 M).bind fun fl M1 => match fl with
        | Fl.nx e => forGo t fb (l.map enc) e M1
        | Fl.ct e => forGo t fb (l.map enc) e M1
        | Fl.bk e => Out.ok (Fl.nx e) M1
        | Fl.rt d => Out.ok (Fl.rt d) M1) _ _ X
    rw [e]
    refine hs.bind fun s' fl M1 ⟨env2, z, i⟩ => ?_
    rcases z with z | z
    · rw [z]; exact forGo_sat hb l s' env2 M1 i
    · rw [z]; exact forGo_sat hb l s' env2 M1 i
theorem forGo_fl {t : DG} {fb : DS} {body : β → σ → Pr (FlT σ ρ)} {I : σ → En → Sto → Prop} {R : ρ → D → Sto → Prop} {enc : β → D} (hb : ∀ x s env M, I s env M → ∃ env1, t (enc x) env = some env1 ∧ Sat (fb env1 M) (body x s) (LfR I R) X) :
    ∀ (l : List β) (s : σ) (env : En) (M : Sto), I s env M → Sat (forGo t fb (l.map enc) env M) (Pr.forF l s body) (NfR I R) X
  | [], s, env, M, h => .ok ⟨env, rfl, h⟩
  | x :: l, s, env, M, h => by
    obtain ⟨env1, e, hs⟩ := hb x s env M h
    show Sat (match t (enc x) env with
      | none => Out.bad
      | some env1 => (fb env1 M).bind fun fl M1 => match fl with
        | Fl.nx e => forGo t fb (l.map enc) e M1
        | Fl.ct e => forGo t fb (l.map enc) e M1
        | Fl.bk e => Out.ok (Fl.nx e) M1
        | Fl.rt d => Out.ok (Fl.rt d) M1) _ _ X
    rw [e]
    refine hs.bind fun s' fl M1 z => ?_
    cases s' with
    | nx s2 =>
      obtain ⟨env2, z, i⟩ := z
      rcases z with z | z
      · rw [z]; exact forGo_fl hb l s2 env2 M1 i
      · rw [z]; exact forGo_fl hb l s2 env2 M1 i
    | bk s2 => obtain ⟨env2, z, i⟩ := z; rw [z]; exact .ok ⟨env2, rfl, i⟩
    | rt r => obtain ⟨d, z, i⟩ := z; rw [z]; exact .ok ⟨d, rfl, i⟩
theorem forS_items {t : DG} {fb : DS} (l : List D) : ∀ (f i : Nat) (env : En) (M : Sto), l.length < f + i → i ≤ l.length → forS t fb (.items l) f i env M = forGo t fb (l.drop i) env M
  | 0, i, env, M, h, hi => by omega
  | f + 1, i, env, M, h, hi => by
    by_cases hl : i < l.length
    · rw [List.drop_eq_getElem_cons hl]
      have ih := fun env M => forS_items (t := t) (fb := fb) l f (i + 1) env M (by omega) (by omega)
      unfold forS forGo
      rw [show (Src.items l).at_ i M = some (some l[i]) by show some l[i]? = _; rw [List.getElem?_eq_getElem hl]]
      simp only [ih]
      all_goals rfl
    · have e : i = l.length := by omega
      subst e
      rw [List.drop_length]
      unfold forS forGo
      rw [show (Src.items l).at_ l.length M = some none by show some l[l.length]? = _; simp]
theorem iter2_v {fe : DE} {l : List D} {c : Src → Sto → Out ε} (h : PV fe env S (.lst l)) (hM : S M) : (dIter2 fe env M).bind c = c (.items l) M := by
  unfold dIter2
  rw [h M hM]; rfl
theorem iter2_t {fe : DE} {l : List D} {c : Src → Sto → Out ε} (h : PV fe env S (.tup l)) (hM : S M) : (dIter2 fe env M).bind c = c (.items l) M := by
  unfold dIter2
  rw [h M hM]; rfl
end
end Ip
end
section
set_option Elab.async false
set_option linter.all false
set_option maxRecDepth 100000
set_option maxHeartbeats 1000000
set_option autoImplicit false
namespace Ip
open PySem L2
/-- a small number -/
def sm (n : Int) : Prop := -1000000000 ≤ n ∧ n ≤ 1000000000
theorem in62_sm {n : Int} (h : sm n) : in62 n = true := by
  unfold in62 sm at *
  simp only [Bool.and_eq_true, decide_eq_true_eq]
  omega
theorem in63_sm {n : Int} (h : sm n) : in63 n = true := by
  unfold in63 sm at *
  simp only [Bool.and_eq_true, decide_eq_true_eq]
  omega
def rngI (lo : Int) (n : Nat) : List Int := (List.range n).map fun k => lo + (k : Nat)
theorem rngD_map (lo : Int) (n : Nat) : rngD lo n = (rngI lo n).map D.int := by simp [rngD, rngI]
section
variable {α β γ δ ε σ ρ : Type} {X : Sto → Prop} {env : En} {S : Sto → Prop} {M : Sto}
/-! ### what is walked -/
def IX (fi : DA) (env : En) (S X : Sto → Prop) (p : Pr (List β)) (enc : β → D) : Prop := ∀ M, S M → Sat (fi env M) p (fun l ds M' => ds = l.map enc ∧ S M') X
theorem av_ix {fi : DA} {l : List β} {enc : β → D} (h : AV fi env S (l.map enc)) : IX fi env S X (Pr.ok l) enc := fun M hM => by rw [h M hM]; exact .ok ⟨rfl, hM⟩
theorem rng1_v {fe : DE} {n : Int} (h : PV fe env S (.int n)) : IX (dRng1 (dConsA fe dNilA)) env S X (Pr.need (sm n) (Pr.ok (rngI 0 n.toNat))) D.int := fun M hM =>
  .need fun hn => arg_p h hM (arg_nil (by
    show Sat (if in62 n then Out.ok (rngD 0 n.toNat) M else .bad) _ _ _
    rw [in62_sm hn, rngD_map]
    exact .ok ⟨rfl, hM⟩))
theorem rng1_x {fe : DE} {p : Pr Int} (h : PX fe env S X p) : IX (dRng1 (dConsA fe dNilA)) env S X (p.bind fun n => Pr.need (sm n) (Pr.ok (rngI 0 n.toNat))) D.int := fun M hM =>
  arg_e h hM fun n M1 h1 => arg_nil (.need fun hn => by
    show Sat (if in62 n then Out.ok (rngD 0 n.toNat) M1 else .bad) _ _ _
    rw [in62_sm hn, rngD_map]
    exact .ok ⟨rfl, h1⟩)
theorem rng2_v {fe ff : DE} {m n : Int} (h : PV fe env S (.int m)) (h' : PV ff env S (.int n)) : IX (dRng2 (dConsA fe (dConsA ff dNilA))) env S X (Pr.need (sm m ∧ sm n) (Pr.ok (rngI m (n - m).toNat))) D.int := fun M hM =>
  .need fun hn => arg_p h hM (arg_p h' hM (arg_nil (by
    show Sat (if in62 m && in62 n then Out.ok (rngD m (n - m).toNat) M else .bad) _ _ _
    rw [in62_sm hn.1, in62_sm hn.2, rngD_map]
    exact .ok ⟨rfl, hM⟩)))
theorem rng2_x {fe ff : DE} {p q : Pr Int} (h : PX fe env S X p) (h' : PX ff env S X q) : IX (dRng2 (dConsA fe (dConsA ff dNilA))) env S X (p.bind fun m => q.bind fun n => Pr.need (sm m ∧ sm n) (Pr.ok (rngI m (n - m).toNat))) D.int := fun M hM =>
  arg_e h hM fun m M1 h1 => arg_e h' h1 fun n M2 h2 => arg_nil (.need fun hn => by
    show Sat (if in62 m && in62 n then Out.ok (rngD m (n - m).toNat) M2 else .bad) _ _ _
    rw [in62_sm hn.1, in62_sm hn.2, rngD_map]
    exact .ok ⟨rfl, h2⟩)
theorem iter_v {fe : DE} {l : List β} {enc : β → D} (h : PV fe env S (.lst (l.map enc))) : IX (dIter fe) env S X (Pr.ok l) enc := fun M hM => by
  unfold dIter
  rw [h M hM]
  exact .ok ⟨rfl, hM⟩
theorem iter_x [Enc β] {fe : DE} {p : Pr (List β)} (h : PX fe env S X p) : IX (dIter fe) env S X p (en (α := β)) := fun M hM => by
  refine bd_e (k := Pr.ok) h hM (fun l M1 h1 => ?_)
  exact .ok ⟨rfl, h1⟩
theorem iter_t {fe : DE} {l : List β} {enc : β → D} (h : PV fe env S (.tup (l.map enc))) : IX (dIter fe) env S X (Pr.ok l) enc := fun M hM => by
  unfold dIter
  rw [h M hM]
  exact .ok ⟨rfl, hM⟩
def zipP (a : List β) (b : List γ) : List (β × γ) := a.zip b
theorem zipD_map (f : β → D) (g : γ → D) : ∀ (a : List β) (b : List γ), zipD (a.map f) (b.map g) = (a.zip b).map fun p => .tup [f p.1, g p.2]
  | [], _ => by simp [zipD]
  | _ :: _, [] => by simp [zipD]
  | x :: a, y :: b => by simp [zipD, zipD_map f g a b]
theorem zip_v [Enc β] [Enc γ] {fe ff : DE} {a : List β} {b : List γ} (h : PV fe env S (.lst (a.map en))) (h' : PV ff env S (.lst (b.map en))) : IX (dZip (dConsA fe (dConsA ff dNilA))) env S X (Pr.ok (a.zip b)) (en (α := β × γ)) := fun M hM =>
  arg_p h hM (arg_p h' hM (arg_nil (by
    show Sat (Out.ok (zipD (a.map en) (b.map en)) M) _ _ _
    rw [zipD_map]
    exact .ok ⟨rfl, hM⟩)))
theorem for_nx {t : DG} {fi : DA} {fb : DS} {p : Pr (List β)} {enc : β → D} {s : σ} {body : β → σ → Pr σ} {I : σ → En → Sto → Prop} (hi : IX fi env S X p enc) (hM : S M) (h0 : ∀ M, S M → I s env M)
    (hb : ∀ x s env M, I s env M → ∃ env1, t (enc x) env = some env1 ∧ Sat (fb env1 M) (body x s) (LpR I) X) : Sat (dFor t fi fb env M) (p.bind fun l => Pr.forM l s body) (NxR I) X :=
  (hi M hM).bind fun l ds M1 ⟨e, h1⟩ => by rw [e]; exact forGo_sat hb l s env M1 (h0 M1 h1)
theorem for_fl {t : DG} {fi : DA} {fb : DS} {p : Pr (List β)} {enc : β → D} {s : σ} {body : β → σ → Pr (FlT σ ρ)} {I : σ → En → Sto → Prop} {R : ρ → D → Sto → Prop} (hi : IX fi env S X p enc) (hM : S M) (h0 : ∀ M, S M → I s env M)
    (hb : ∀ x s env M, I s env M → ∃ env1, t (enc x) env = some env1 ∧ Sat (fb env1 M) (body x s) (LfR I R) X) : Sat (dFor t fi fb env M) (p.bind fun l => Pr.forF l s body) (NfR I R) X :=
  (hi M hM).bind fun l ds M1 ⟨e, h1⟩ => by rw [e]; exact forGo_fl hb l s env M1 (h0 M1 h1)
/-- lists and enumerate in a for -/
def JX (fi : DI) (env : En) (S X : Sto → Prop) (p : Pr (List β)) (enc : β → D) : Prop := ∀ M, S M → Sat (fi env M) p (fun l src M' => src = .items (l.map enc) ∧ l.length < 20000000 ∧ S M') X
def lim (l : List β) : Pr (List β) := Pr.need (l.length < 20000000) (Pr.ok l)
theorem j_v {fe : DE} {l : List β} {enc : β → D} (h : PV fe env S (.lst (l.map enc))) : JX (dIter2 fe) env S X (lim l) enc := fun M hM => .need fun hl => by
  unfold dIter2
  rw [h M hM]
  exact .ok ⟨rfl, hl, hM⟩
theorem j_t {fe : DE} {l : List β} {enc : β → D} (h : PV fe env S (.tup (l.map enc))) : JX (dIter2 fe) env S X (lim l) enc := fun M hM => .need fun hl => by
  unfold dIter2
  rw [h M hM]
  exact .ok ⟨rfl, hl, hM⟩
theorem j_x [Enc β] {fe : DE} {p : Pr (List β)} (h : PX fe env S X p) : JX (dIter2 fe) env S X (p.bind lim) (en (α := β)) := fun M hM =>
  bd_e h hM fun l M1 h1 => .need fun hl => .ok ⟨rfl, hl, h1⟩
def enumI (k : Nat) : List β → List (Int × β)
  | [] => []
  | x :: l => ((k : Nat), x) :: enumI (k + 1) l
theorem enumD_map (f : β → D) : ∀ (k : Nat) (l : List β), enumD k (l.map f) = (enumI k l).map fun p => .tup [.int p.1, f p.2]
  | _, [] => rfl
  | k, x :: l => by simp [enumD, enumI, enumD_map f (k + 1) l]
theorem enumI_len : ∀ (k : Nat) (l : List β), (enumI k l).length = l.length
  | _, [] => rfl
  | k, x :: l => by simp [enumI, enumI_len (k + 1) l]
theorem j_enum_v [Enc β] {fe : DE} {l : List β} (h : PV fe env S (.lst (l.map en))) : JX (dEnum2 fe) env S X ((lim l).bind fun l => Pr.ok (enumI 0 l)) (en (α := Int × β)) := fun M hM => Sat.need (p := Pr.ok (enumI 0 l)) fun hl => by
  unfold dEnum2
  rw [h M hM]
  show Sat (Out.ok (Src.items (enumD 0 (l.map en))) M) _ _ _
  rw [enumD_map]
  exact .ok ⟨rfl, by rw [enumI_len]; exact hl, hM⟩
theorem j_enum_x [Enc β] {fe : DE} {p : Pr (List β)} (h : PX fe env S X p) : JX (dEnum2 fe) env S X (p.bind fun l => (lim l).bind fun l => Pr.ok (enumI 0 l)) (en (α := Int × β)) := fun M hM =>
  bd_e h hM fun l M1 h1 => Sat.need (p := Pr.ok (enumI 0 l)) fun hl => by
    show Sat (Out.ok (Src.items (enumD 0 (l.map en))) M1) _ _ _
    rw [enumD_map]
    exact .ok ⟨rfl, by rw [enumI_len]; exact hl, h1⟩
theorem forS_nx {t : DG} {fi : DI} {fb : DS} {p : Pr (List β)} {enc : β → D} {s : σ} {body : β → σ → Pr σ} {I : σ → En → Sto → Prop} (hi : JX fi env S X p enc) (hM : S M) (h0 : ∀ M, S M → I s env M)
    (hb : ∀ x s env M, I s env M → ∃ env1, t (enc x) env = some env1 ∧ Sat (fb env1 M) (body x s) (LpR I) X) : Sat (dForS t fi fb env M) (p.bind fun l => Pr.forM l s body) (NxR I) X :=
  (hi M hM).bind fun l src M1 ⟨e, hl, h1⟩ => by
    rw [e, forS_items _ _ _ _ _ (by simpa using hl) (Nat.zero_le _), List.drop_zero]
    exact forGo_sat hb l s env M1 (h0 M1 h1)
theorem forS_fl {t : DG} {fi : DI} {fb : DS} {p : Pr (List β)} {enc : β → D} {s : σ} {body : β → σ → Pr (FlT σ ρ)} {I : σ → En → Sto → Prop} {R : ρ → D → Sto → Prop} (hi : JX fi env S X p enc) (hM : S M) (h0 : ∀ M, S M → I s env M)
    (hb : ∀ x s env M, I s env M → ∃ env1, t (enc x) env = some env1 ∧ Sat (fb env1 M) (body x s) (LfR I R) X) : Sat (dForS t fi fb env M) (p.bind fun l => Pr.forF l s body) (NfR I R) X :=
  (hi M hM).bind fun l src M1 ⟨e, hl, h1⟩ => by
    rw [e, forS_items _ _ _ _ _ (by simpa using hl) (Nat.zero_le _), List.drop_zero]
    exact forGo_fl hb l s env M1 (h0 M1 h1)
/-! ### while -/
def Pr.whM : Nat → σ → (σ → Pr Bool) → (σ → Pr σ) → Pr σ
  | 0, _, _, _ => Pr.bad
  | n + 1, s, c, b => (c s).bind fun t => if t then (b s).bind fun s' => Pr.whM n s' c b else Pr.ok s
theorem wh_nx {ft : DT} {fb : DS} {c : σ → Pr Bool} {body : σ → Pr σ} {I : σ → En → Sto → Prop}
    (hc : ∀ s env M, I s env M → Sat (ft env M) (c s) (fun a d M' => d = a ∧ I s env M') X) (hb : ∀ s env M, I s env M → Sat (fb env M) (body s) (LpR I) X) :
    ∀ (n : Nat) (s : σ) (env : En) (M : Sto), I s env M → Sat (whGo ft fb n env M) (Pr.whM n s c body) (NxR I) X
  | 0, s, env, M, h => .bad
  | n + 1, s, env, M, h => by
    unfold whGo
    refine (hc s env M h).bind fun a d M1 ⟨e, h1⟩ => ?_
    rw [e]
    cases a with
    | false => exact .ok ⟨env, rfl, h1⟩
    | true =>
      refine (hb s env M1 h1).bind fun s' fl M2 ⟨env2, z, i⟩ => ?_
      rcases z with z | z
      · rw [z]; exact wh_nx hc hb n s' env2 M2 i
      · rw [z]; exact wh_nx hc hb n s' env2 M2 i
/-! ### list comprehensions -/
def Pr.lcM : List β → (β → Pr Bool) → (β → Pr γ) → Pr (List γ)
  | [], _, _ => Pr.ok []
  | x :: l, c, g => (c x).bind fun b => if b then (g x).bind fun y => (Pr.lcM l c g).bind fun ys => Pr.ok (y :: ys) else Pr.lcM l c g
theorem lcGo_v {t : DG} {ft : DT} {fe : DE} {enc : β → D} {c : β → Bool} {g : β → D} {env0 : En} (hb : ∀ x, ∃ env1, t (enc x) env0 = some env1 ∧ TV ft env1 S (c x) ∧ PV fe env1 S (g x)) (hM : S M) :
    ∀ (l : List β) (acc : List D), acc.length + l.length ≤ 16777216 → lcGo t ft fe (l.map enc) acc env0 M = .ok (acc ++ (l.filter c).map g) M
  | [], acc, _ => by simp [lcGo]
  | x :: l, acc, h => by
    obtain ⟨env1, e, h1, h2⟩ := hb x
    simp only [List.length_cons] at h
    simp only [List.map_cons, lcGo, e]
    rw [h1 M hM]
    cases hc : c x with
    | false =>
      refine Eq.trans (show _ = lcGo t ft fe (l.map enc) acc env0 M from rfl) ?_
      rw [lcGo_v hb hM l acc (by omega), List.filter_cons_of_neg (by simp [hc])]
    | true =>
      refine Eq.trans (show _ = (noex (fe env1 M)).bind fun y M2 => if acc.length < 16777216 then lcGo t ft fe (l.map enc) (acc ++ [y]) env0 M2 else .bad from rfl) ?_
      rw [h2 M hM]
      show (if acc.length < 16777216 then lcGo t ft fe (l.map enc) (acc ++ [g x]) env0 M else .bad) = _
      rw [if_pos (by omega), lcGo_v hb hM l (acc ++ [g x]) (by simp; omega), List.filter_cons_of_pos (by simp [hc])]
      simp
theorem lc_v {vs : List Nat} {t : DG} {fi : DA} {ft : DT} {fe : DE} {p : Pr (List β)} {enc : β → D} {c : β → Bool} {g : β → γ} [Enc γ] (hi : IX fi env S X p enc) (hb : ∀ x, ∃ env1, t (enc x) (wipeE env vs) = some env1 ∧ TV ft env1 S (c x) ∧ PV fe env1 S (en (g x))) :
    PX (dLc vs t fi ft fe) env S X (p.bind fun l => Pr.need (l.length ≤ 16777216) (Pr.ok ((l.filter c).map g))) := fun M hM =>
  (hi M hM).bind fun l ds M1 ⟨e, h1⟩ => .need fun hl => by
    rw [e, lcGo_v (c := c) (g := fun x => en (g x)) hb h1 l [] (by simpa using hl)]
    exact .ok ⟨by show D.lst _ = D.lst _; simp, h1⟩
theorem lcGo_x [Enc γ] {t : DG} {ft : DT} {fe : DE} {enc : β → D} {c : β → Pr Bool} {g : β → Pr γ} {env0 : En} (hb : ∀ x, ∃ env1, t (enc x) env0 = some env1 ∧ TX ft env1 S NX (c x) ∧ PX fe env1 S NX (g x)) :
    ∀ (l : List β) (acc : List D) (M : Sto), S M → acc.length + l.length ≤ 16777216 → Sat (lcGo t ft fe (l.map enc) acc env0 M) (Pr.lcM l c g) (fun ys ds M' => ds = acc ++ ys.map en ∧ S M') X
  | [], acc, M, hM, _ => .ok ⟨by simp, hM⟩
  | x :: l, acc, M, hM, h => by
    obtain ⟨env1, e, h1, h2⟩ := hb x
    simp only [List.length_cons] at h
    simp only [List.map_cons, lcGo, e]
    refine ((h1 M hM).noex (X := X)).bind fun b d M1 ⟨e1, s1⟩ => ?_
    rw [e1]
    cases b with
    | false => exact lcGo_x hb l acc M1 s1 (by omega)
    | true =>
      refine ((h2 M1 s1).noex (X := X)).bind fun y d M2 ⟨e2, s2⟩ => ?_
      rw [e2]
      show Sat (if acc.length < 16777216 then lcGo t ft fe (l.map enc) (acc ++ [en y]) env0 M2 else .bad) _ _ X
      rw [if_pos (by omega)]
      exact (lcGo_x hb l (acc ++ [en y]) M2 s2 (by simp; omega)).map fun ys ds M3 ⟨e3, s3⟩ => ⟨by rw [e3]; simp, s3⟩
theorem lc_x {vs : List Nat} {t : DG} {fi : DA} {ft : DT} {fe : DE} {p : Pr (List β)} {enc : β → D} {c : β → Pr Bool} {g : β → Pr γ} [Enc γ] (hi : IX fi env S X p enc) (hb : ∀ x, ∃ env1, t (enc x) (wipeE env vs) = some env1 ∧ TX ft env1 S NX (c x) ∧ PX fe env1 S NX (g x)) :
    PX (dLc vs t fi ft fe) env S X (p.bind fun l => Pr.need (l.length ≤ 16777216) (Pr.lcM l c g)) := fun M hM =>
  (hi M hM).bind fun l ds M1 ⟨e, h1⟩ => .need fun hl => by
    rw [e]
    refine Sat.bind (k := Pr.ok) (lcGo_x (X := X) hb l [] M1 h1 (by simpa using hl)) fun ys ds M2 ⟨e2, s2⟩ => ?_
    exact .ok ⟨by rw [e2]; rfl, s2⟩
end
end Ip
end
section
set_option Elab.async false
set_option linter.all false
set_option maxRecDepth 100000
set_option maxHeartbeats 1000000
set_option autoImplicit false
namespace Ip
open PySem L2
class PuS (S : Sto → Prop) : Prop where
  pure : ∀ M, S M → PureS M
class BgS (S : Sto → Prop) : Prop where
  bag : ∀ M, S M → ∃ b K, BagOk b ∧ M = .lst b :: K ∧ PureS K ∧ ∀ b', BagOk b' → S (.lst b' :: K)
def S0 (M0 : Sto) : Sto → Prop := fun M => M = M0 ∧ PureS M0
def SB (G : Sto) : Sto → Prop := fun M => ∃ b, BagOk b ∧ M = .lst b :: G ∧ PureS G
instance (M0 : Sto) : PuS (S0 M0) := ⟨fun M ⟨e, h⟩ => by rw [e]; exact h⟩
theorem pure_bag {b : List D} {G : Sto} (h : BagOk b) (hG : PureS G) : PureS (.lst b :: G) := PureS.app (M := [.lst b]) (.one (bag_closed h)) hG
instance (G : Sto) : PuS (SB G) := ⟨fun M ⟨b, hb, e, h⟩ => by rw [e]; exact pure_bag hb h⟩
instance (G : Sto) : BgS (SB G) := ⟨fun M ⟨b, hb, e, h⟩ => ⟨b, G, hb, e, h, fun b' hb' => ⟨b', hb', rfl, h⟩⟩⟩
instance (N : Nat) (P : Sto → Prop) (cs : List (Nat × Cell)) : PuS (St N P cs) := ⟨fun M h => h.pure⟩
instance (G : Sto) (cs : List (Nat × Cell)) : BgS (St (G.length + 1) (BagP G) cs) := ⟨fun M h => h.bag⟩
section
variable {α β γ δ ε σ ρ : Type} {X : Sto → Prop} {env : En} {S : Sto → Prop} {M : Sto}
theorem callP [PuS S] [Enc α] {F : DF} {ds : List D} {p : Pr α} (h : FP F ds p) (hM : S M) : Sat (Ip.noex (F ds M)) p (relE S) X :=
  ((h M (PuS.pure M hM)).imp fun a d M' ⟨e1, e2⟩ => ⟨e1, by rw [e2]; exact hM⟩).noex
theorem callB [BgS S] [Enc α] {F : DF} {ds : List D} {p : Pr α} (h : FB F ds p) (hM : S M) : Sat (Ip.noex (F (.ref 0 :: ds) M)) p (relE S) X := by
  obtain ⟨b, K, hb, rfl, hK, hs⟩ := BgS.bag (S := S) M hM
  refine ((h b K hb hK).imp fun a d M' ⟨e1, b', hb', e2⟩ => ⟨e1, ?_⟩).noex
  rw [e2]
  exact hs b' hb'
/-! ### defs -/
theorem run_p [Enc α] {n m : Nat} {B : DS} {ds : List D} {p : Pr α} {env0 : En} (hl : ds.length = m) (he : ds.map some ++ List.replicate (n - m) none = env0) (h : ∀ M0 M, S0 M0 M → Sat (B env0 M) p (fun a fl M' => fl = .rt (en a) ∧ S0 M0 M') NX) : FP (runF n m B) ds p := fun M hM => by
  unfold runF
  rw [if_pos hl, he]
  refine ⟨fun Q E z => ?_⟩
  refine post_mk_bind (((h M M ⟨rfl, hM⟩).run Q E z).imp (fun fl M1 ⟨a, q, e, s⟩ => ?_) (fun _ _ _ z => z))
  rw [e]
  exact ⟨a, q, rfl, s.1⟩
theorem run_b [Enc α] {n m : Nat} {B : DS} {ds : List D} {p : Pr α} {env0 : En} (hl : ds.length + 1 = m) (he : (D.ref 0 :: ds).map some ++ List.replicate (n - m) none = env0) (h : ∀ G M, SB G M → Sat (B env0 M) p (fun a fl M' => fl = .rt (en a) ∧ SB G M') NX) : FB (runF n m B) ds p := fun b G hb hG => by
  unfold runF
  rw [if_pos (show (D.ref 0 :: ds).length = m from hl), he]
  refine ⟨fun Q E z => ?_⟩
  refine post_mk_bind (((h G _ ⟨b, hb, rfl, hG⟩).run Q E z).imp (fun fl M1 ⟨a, q, e, b', hb', s, _⟩ => ?_) (fun _ _ _ z => z))
  rw [e]
  exact ⟨a, q, rfl, b', hb', s⟩
/-- a def that returns nothing -/
theorem run_pN {n m : Nat} {B : DS} {ds : List D} {p : Pr Unit} {env0 : En} (hl : ds.length = m) (he : ds.map some ++ List.replicate (n - m) none = env0) (h : ∀ M0 M, S0 M0 M → Sat (B env0 M) p (fun _ fl M' => ((∃ e, fl = .nx e) ∨ fl = .rt .non) ∧ S0 M0 M') NX) : FP (runF n m B) ds p := fun M hM => by
  unfold runF
  rw [if_pos hl, he]
  refine ⟨fun Q E z => ?_⟩
  refine post_mk_bind (((h M M ⟨rfl, hM⟩).run Q E z).imp (fun fl M1 ⟨a, q, e, s⟩ => ?_) (fun _ _ _ z => z))
  rcases e with ⟨e, rfl⟩ | rfl
  · exact ⟨a, q, rfl, s.1⟩
  · exact ⟨a, q, rfl, s.1⟩
/-- a def with cells of its own -/
theorem closed_no_ref {d : D} (h : ∀ k, closed k d = true) : ∀ n, d ≠ .ref n := fun n e => by
  have := h 0
  rw [e] at this
  simp [closed] at this
theorem thaw_en [Enc α] (k : Nat) (M : Sto) (a : α) : thaw k M (en a) = some (en a) := by
  have hc : ∀ k, closed k (en a) = true := fun k => Enc.cls a k
  revert hc
  generalize en a = d
  intro hc
  have hn := closed_no_ref hc
  cases d with
  | ref n => exact absurd rfl (hn n)
  | _ => simp only [thaw, hc k, if_true]
def RC [Enc α] (N : Nat) (P : Sto → Prop) : List α → Fl → Sto → Prop := fun a fl M' => ∃ n cs, fl = .rt (.ref n) ∧ St N P cs M' ∧ ∃ i : Nat, cs[i]? = some (n, Cell.lst (a.map en))
def RV' [Enc α] (N : Nat) (P : Sto → Prop) : α → Fl → Sto → Prop := fun a fl M' => fl = .rt (en a) ∧ St N P [] M'
theorem st_take {N : Nat} {P : Sto → Prop} {cs : List (Nat × Cell)} {M : Sto} (h : St N P cs M) : P (M.take N) ∧ PureS (M.take N) := by
  obtain ⟨A, J, hP, e, rfl⟩ := h.base
  have hp := PureS.of_app h.pure
  have e2 : (A ++ J).take N = A := by rw [← e]; simp
  rw [e2]
  exact ⟨hP, hp.1⟩
theorem frz_of {N : Nat} {P : Sto → Prop} {cs : List (Nat × Cell)} {M : Sto} [Enc α] {a : List α} {n : Nat} (h : St N P cs M) {i : Nat} (hi : cs[i]? = some (n, Cell.lst (a.map en))) : frzO N (.ref n) M = .ok (en a) (M.take N) := by
  have hc := h.cell _ (List.mem_of_getElem? hi)
  simp only at hc
  unfold frzO thaw
  simp only [show ¬ n < N by omega, if_false, hc.2, closedAll_map, if_true, (st_take h).2 N]
  rfl
theorem frz_val {N : Nat} {P : Sto → Prop} {cs : List (Nat × Cell)} {M : Sto} [Enc α] {a : α} (h : St N P cs M) : frzO N (en a) M = .ok (en a) (M.take N) := by
  unfold frzO
  rw [thaw_en]
  simp only [(st_take h).2 N, if_true]
theorem frzC_of {N : Nat} {P : Sto → Prop} {cs : List (Nat × Cell)} {M : Sto} [Enc α] {a : List α} {n : Nat} (h : St N P cs M) {i : Nat} (hi : cs[i]? = some (n, Cell.lst (a.map en))) : frzCO N (.ref n) M = .ok (.ref N) (M.take N ++ [.lst (a.map en)]) := by
  have hc := h.cell _ (List.mem_of_getElem? hi)
  simp only at hc
  unfold frzCO
  simp only [hc.1, if_true, hc.2, closedAll_map, Bool.true_and, (st_take h).2 N]
theorem frz_p [Enc α] {n m : Nat} {B : DS} {ds : List D} {p : Pr (List α)} {env0 : En} (hl : ds.length = m) (he : ds.map some ++ List.replicate (n - m) none = env0) (h : ∀ M0 M, PureS M0 → St M0.length (· = M0) [] M → Sat (B env0 M) p (RC M0.length (· = M0)) NX) : FP (frz (runF n m B)) ds p := fun M hM => by
  unfold frz runF
  rw [if_pos hl, he, bind_assoc]
  refine ⟨fun Q E z => ?_⟩
  refine post_mk_bind (((h M M hM (.start rfl rfl hM)).run Q E z).imp (fun fl M1 ⟨a, q, k, cs, e, s, i, hi⟩ => ?_) (fun _ _ _ z => z))
  rw [e]
  show (frzO M.length (.ref k) M1).post _ _
  rw [frz_of s hi, (st_take s).1]
  exact ⟨a, q, rfl, rfl⟩
theorem frz_pv [Enc α] {n m : Nat} {B : DS} {ds : List D} {p : Pr α} {env0 : En} (hl : ds.length = m) (he : ds.map some ++ List.replicate (n - m) none = env0) (h : ∀ M0 M, PureS M0 → St M0.length (· = M0) [] M → Sat (B env0 M) p (RV' M0.length (· = M0)) NX) : FP (frz (runF n m B)) ds p := fun M hM => by
  unfold frz runF
  rw [if_pos hl, he, bind_assoc]
  refine ⟨fun Q E z => ?_⟩
  refine post_mk_bind (((h M M hM (.start rfl rfl hM)).run Q E z).imp (fun fl M1 ⟨a, q, e, s⟩ => ?_) (fun _ _ _ z => z))
  rw [e]
  show (frzO M.length (en a) M1).post _ _
  rw [frz_val s, (st_take s).1]
  exact ⟨a, q, rfl, rfl⟩
theorem frzC_p [Enc α] {n m : Nat} {B : DS} {ds : List D} {p : Pr (List α)} {env0 : En} (hl : ds.length = m) (he : ds.map some ++ List.replicate (n - m) none = env0) (h : ∀ M0 M, PureS M0 → St M0.length (· = M0) [] M → Sat (B env0 M) p (RC M0.length (· = M0)) NX) : FC (frzC (runF n m B)) ds p := fun M hM => by
  unfold frzC runF
  rw [if_pos hl, he, bind_assoc]
  refine ⟨fun Q E z => ?_⟩
  refine post_mk_bind (((h M M hM (.start rfl rfl hM)).run Q E z).imp (fun fl M1 ⟨a, q, k, cs, e, s, i, hi⟩ => ?_) (fun _ _ _ z => z))
  rw [e]
  show (frzCO M.length (.ref k) M1).post _ _
  rw [frzC_of s hi, (st_take s).1]
  exact ⟨a, q, rfl, rfl⟩
theorem frz_b [Enc α] {n m : Nat} {B : DS} {ds : List D} {p : Pr (List α)} {env0 : En} (hl : ds.length + 1 = m) (he : (D.ref 0 :: ds).map some ++ List.replicate (n - m) none = env0) (h : ∀ G M, PureS G → St (G.length + 1) (BagP G) [] M → Sat (B env0 M) p (RC (G.length + 1) (BagP G)) NX) : FB (frz (runF n m B)) ds p := fun b G hb hG => by
  unfold frz runF
  rw [if_pos (show (D.ref 0 :: ds).length = m from hl), he, bind_assoc]
  refine ⟨fun Q E z => ?_⟩
  refine post_mk_bind (((h G _ hG (.start ⟨b, hb, rfl⟩ (by simp) (pure_bag hb hG))).run Q E z).imp (fun fl M1 ⟨a, q, k, cs, e, s, i, hi⟩ => ?_) (fun _ _ _ z => z))
  rw [e]
  show (frzO (Cell.lst b :: G).length (.ref k) M1).post _ _
  obtain ⟨⟨b', hb', e2⟩, _⟩ := st_take s
  rw [show (Cell.lst b :: G).length = G.length + 1 from rfl, frz_of s hi, e2]
  exact ⟨a, q, rfl, b', hb', rfl⟩
theorem frz_bv [Enc α] {n m : Nat} {B : DS} {ds : List D} {p : Pr α} {env0 : En} (hl : ds.length + 1 = m) (he : (D.ref 0 :: ds).map some ++ List.replicate (n - m) none = env0) (h : ∀ G M, PureS G → St (G.length + 1) (BagP G) [] M → Sat (B env0 M) p (RV' (G.length + 1) (BagP G)) NX) : FB (frz (runF n m B)) ds p := fun b G hb hG => by
  unfold frz runF
  rw [if_pos (show (D.ref 0 :: ds).length = m from hl), he, bind_assoc]
  refine ⟨fun Q E z => ?_⟩
  refine post_mk_bind (((h G _ hG (.start ⟨b, hb, rfl⟩ (by simp) (pure_bag hb hG))).run Q E z).imp (fun fl M1 ⟨a, q, e, s⟩ => ?_) (fun _ _ _ z => z))
  rw [e]
  show (frzO (Cell.lst b :: G).length (en a) M1).post _ _
  obtain ⟨⟨b', hb', e2⟩, _⟩ := st_take s
  rw [show (Cell.lst b :: G).length = G.length + 1 from rfl, frz_val s, e2]
  exact ⟨a, q, rfl, b', hb', rfl⟩
/-! ### cells -/
variable {rel : α → Fl → Sto → Prop} {N : Nat} {P : Sto → Prop} {cs : List (Nat × Cell)}
theorem lst_closed [Enc β] (l : List β) (k : Nat) : cellClosed k (.lst (l.map en)) = true := closedAll_map k l
theorem seq_newC [Enc β] {i : Nat} {fa : DA} {g : DS} {l : List β} {p : Pr α} {env1 : Nat → En} (he : ∀ n, env.set i (some (.ref n)) = env1 n) (h : AV fa env (St N P cs) (l.map en)) (hM : St N P cs M) (hl : l.length ≤ 16777216) (hk : ∀ n M1, St N P (cs ++ [(n, .lst (l.map en))]) M1 → Sat (g (env1 n) M1) p rel X) : Sat (dSeq (dSet i (dLstC fa)) g env M) p rel X := by
  unfold dSeq dSet dLstC
  rw [h M hM]
  show Sat (Out.bind (Out.bind (if (l.map en).length ≤ 16777216 then Out.ok (D.ref M.length) (M ++ [Cell.lst (l.map en)]) else Out.bad) _) _) p rel X
  rw [if_pos (by simpa using hl)]
  have := hk M.length _ (hM.new (lst_closed l))
  rw [← he] at this
  exact this
theorem seq_app [Enc β] {i : Nat} (j : Nat) {fe : DE} {g : DS} {n : Nat} {l : List β} {x : β} {p : Pr α} (hi : env[i]? = some (some (.ref n))) (hj : cs[j]? = some (n, .lst (l.map en))) (h : PV fe env (St N P cs) (en x)) (hM : St N P cs M) (hk : ∀ M1, St N P (cs.set j (n, .lst ((l ++ [x]).map en))) M1 → Sat (g env M1) p rel X) :
    Sat (dSeq (dDrop (dLm gApp (dVar i) (dConsA fe dNilA))) g env M) (Pr.need (l.length < 16777216) p) rel X := .need fun hl => by
  have hc := hM.get j hj
  have e : dLm gApp (dVar i) (dConsA fe dNilA) env M = .ok .non (M.set n (.lst ((l ++ [x]).map en))) := by
    unfold dLm dVar dConsA
    simp only [hi]
    show (match asL (.ref n) M with
      | some _ => _
      | none => Out.bad) = _
    simp only [asL, hc]
    rw [h M hM]
    show liftM (gApp (.ref n) [en x] M) = _
    simp only [gApp, setL, hc]
    rw [if_pos (by simpa using hl)]
    simp [liftM]
  unfold dSeq dDrop
  rw [e]
  exact hk _ (hM.set j hj (lst_closed _))
theorem seq_appx [Enc β] {i : Nat} (j : Nat) {fe : DE} {g : DS} {n : Nat} {l : List β} {p : Pr β} {k : β → Pr α} (hi : env[i]? = some (some (.ref n))) (hj : cs[j]? = some (n, .lst (l.map en))) (h : PX fe env (St N P cs) X p) (hM : St N P cs M) (hk : ∀ x M1, St N P (cs.set j (n, .lst ((l ++ [x]).map en))) M1 → Sat (g env M1) (k x) rel X) :
    Sat (dSeq (dDrop (dLm gApp (dVar i) (dConsA fe dNilA))) g env M) (p.bind fun x => Pr.need (l.length < 16777216) (k x)) rel X := by
  have hc := hM.get j hj
  have e : dLm gApp (dVar i) (dConsA fe dNilA) env M = (dConsA fe dNilA env M).bind fun as M2 => liftM (gApp (.ref n) as M2) := by
    unfold dLm dVar
    simp only [hi]
    show (match asL (.ref n) M with
      | some _ => (dConsA fe dNilA env M).bind fun as M2 => liftM (gApp (.ref n) as M2)
      | none => Out.bad) = _
    simp only [asL, hc]
  unfold dSeq dDrop
  rw [e, bind_assoc, bind_assoc]
  refine arg_e h hM fun x M1 h1 => arg_nil (.need fun hl => ?_)
  have hc1 := h1.get j hj
  have e2 : gApp (.ref n) [en x] M1 = some (.non, M1.set n (.lst ((l ++ [x]).map en))) := by
    simp only [gApp, setL, hc1]
    rw [if_pos (by simpa using hl)]
    simp
  show Sat ((liftM (gApp (.ref n) [en x] M1)).bind _) _ _ _
  rw [e2]
  exact hk x _ (h1.set j hj (lst_closed _))
theorem seq_ext [Enc β] {i : Nat} (j : Nat) {fe : DE} {g : DS} {n : Nat} {l x : List β} {p : Pr α} (hi : env[i]? = some (some (.ref n))) (hj : cs[j]? = some (n, .lst (l.map en))) (h : PV fe env (St N P cs) (en x)) (hM : St N P cs M) (hk : ∀ M1, St N P (cs.set j (n, .lst ((l ++ x).map en))) M1 → Sat (g env M1) p rel X) :
    Sat (dSeq (dDrop (dLm gExt (dVar i) (dConsA fe dNilA))) g env M) (Pr.need (l.length + x.length ≤ 16777216) p) rel X := .need fun hl => by
  have hc := hM.get j hj
  have e : dLm gExt (dVar i) (dConsA fe dNilA) env M = .ok .non (M.set n (.lst ((l ++ x).map en))) := by
    unfold dLm dVar dConsA
    simp only [hi]
    show (match asL (.ref n) M with
      | some _ => _
      | none => Out.bad) = _
    simp only [asL, hc]
    rw [h M hM]
    show liftM (gExt (.ref n) [.lst (x.map en)] M) = _
    simp only [gExt, setL, hc]
    rw [if_pos (by simpa using hl)]
    simp [liftM]
  unfold dSeq dDrop
  rw [e]
  exact hk _ (hM.set j hj (lst_closed _))
theorem seq_extx [Enc β] {i : Nat} (j : Nat) {fe : DE} {g : DS} {n : Nat} {l : List β} {p : Pr (List β)} {k : List β → Pr α} (hi : env[i]? = some (some (.ref n))) (hj : cs[j]? = some (n, .lst (l.map en))) (h : PX fe env (St N P cs) X p) (hM : St N P cs M) (hk : ∀ x M1, St N P (cs.set j (n, .lst ((l ++ x).map en))) M1 → Sat (g env M1) (k x) rel X) :
    Sat (dSeq (dDrop (dLm gExt (dVar i) (dConsA fe dNilA))) g env M) (p.bind fun x => Pr.need (l.length + x.length ≤ 16777216) (k x)) rel X := by
  have hc := hM.get j hj
  have e : dLm gExt (dVar i) (dConsA fe dNilA) env M = (dConsA fe dNilA env M).bind fun as M2 => liftM (gExt (.ref n) as M2) := by
    unfold dLm dVar
    simp only [hi]
    show (match asL (.ref n) M with
      | some _ => (dConsA fe dNilA env M).bind fun as M2 => liftM (gExt (.ref n) as M2)
      | none => Out.bad) = _
    simp only [asL, hc]
  unfold dSeq dDrop
  rw [e, bind_assoc, bind_assoc]
  refine arg_e h hM fun x M1 h1 => arg_nil (.need fun hl => ?_)
  have hc1 := h1.get j hj
  have e2 : gExt (.ref n) [.lst (x.map en)] M1 = some (.non, M1.set n (.lst ((l ++ x).map en))) := by
    simp only [gExt, setL, hc1]
    rw [if_pos (by simpa using hl)]
    simp
  show Sat ((liftM (gExt (.ref n) [.lst (x.map en)] M1)).bind _) _ _ _
  rw [e2]
  exact hk x _ (h1.set j hj (lst_closed _))
/-- the place of an index -/
def setI (l : List β) (i : Int) (x : β) : Pr (List β) := fun Q _ => ∃ j, ixN l.length i = some j ∧ Q (l.set j x)
theorem seq_setIx [Enc β] {i : Nat} (j : Nat) {fi fe : DE} {g : DS} {n : Nat} {l : List β} {v : Int} {x : β} {k : List β → Pr α} (hi : env[i]? = some (some (.ref n))) (hj : cs[j]? = some (n, .lst (l.map en))) (h : PV fe env (St N P cs) (en x)) (hv : PV fi env (St N P cs) (.int v)) (hM : St N P cs M) (hk : ∀ l' M1, St N P (cs.set j (n, .lst (l'.map en))) M1 → Sat (g env M1) (k l') rel X) :
    Sat (dSeq (dSetIx (dVar i) fi fe) g env M) ((setI l v x).bind k) rel X := by
  refine ⟨fun Q E ⟨u, hu, z⟩ => ?_⟩
  have hc := hM.get j hj
  have e : dSetIx (dVar i) fi fe env M = .ok (.nx env) (M.set n (.lst ((l.set u x).map en))) := by
    unfold dSetIx dVar
    rw [h M hM]
    simp only [hi]
    show (Out.bind (fi env M) _) = _
    rw [hv M hM]
    show (match setL (.ref n) M fun l => (ixN l.length v).map fun j => l.set j (en x) with
      | some M4 => Out.ok (Fl.nx env) M4
      | none => .bad) = _
    simp only [setL, hc, List.length_map, hu, Option.map_some, List.map_set]
  have := (hk (l.set u x) _ (hM.set j hj (lst_closed (l.set u x)))).run Q E z
  unfold dSeq
  rw [e]
  exact this
theorem seq_clear [Enc β] {i : Nat} (j : Nat) {g : DS} {n : Nat} {l : List β} {p : Pr α} (hi : env[i]? = some (some (.ref n))) (hj : cs[j]? = some (n, .lst (l.map en))) (hM : St N P cs M) (hk : ∀ M1, St N P (cs.set j (n, .lst (([] : List β).map en))) M1 → Sat (g env M1) p rel X) :
    Sat (dSeq (dDrop (dLm gClear (dVar i) dNilA)) g env M) p rel X := by
  have hc := hM.get j hj
  have e : dLm gClear (dVar i) dNilA env M = .ok .non (M.set n (.lst (([] : List β).map en))) := by
    unfold dLm dVar
    simp only [hi]
    show (match asL (.ref n) M with
      | some _ => _
      | none => Out.bad) = _
    simp only [asL, hc]
    show liftM (gClear (.ref n) [] M) = _
    simp only [gClear, setL, hc]
    simp [liftM]
  unfold dSeq dDrop
  rw [e]
  exact hk _ (hM.set j hj (lst_closed []))
/-- a call whose new list goes to a name -/
theorem seq_setC [Enc β] {i : Nat} {fa : DE} {g : DS} {p : Pr (List β)} {k : List β → Pr α} {env1 : Nat → En} (he : ∀ n, env.set i (some (.ref n)) = env1 n) (h : ∀ (c : D → Sto → Out Fl) (k : List β → Pr α), (∀ l n M1, St N P (cs ++ [(n, .lst (l.map en))]) M1 → Sat (c (.ref n) M1) (k l) rel X) → Sat ((fa env M).bind c) (p.bind k) rel X)
    (hk : ∀ l n M1, St N P (cs ++ [(n, .lst (l.map en))]) M1 → Sat (g (env1 n) M1) (k l) rel X) : Sat (dSeq (dSet i fa) g env M) (p.bind k) rel X := by
  unfold dSeq dSet
  rw [bind_assoc]
  refine h _ k fun l n M1 h1 => ?_
  have := hk l n M1 h1
  rw [← he n] at this
  exact this
theorem callC [Enc β] {F : DF} {ds : List D} {p : Pr (List β)} {c : D → Sto → Out ε} {k : List β → Pr γ} {rel' : γ → ε → Sto → Prop} (h : FC F ds p) (hM : St N P cs M) (hk : ∀ l n M1, St N P (cs ++ [(n, .lst (l.map en))]) M1 → Sat (c (.ref n) M1) (k l) rel' X) : Sat ((Ip.noex (F ds M)).bind c) (p.bind k) rel' X := by
  refine ((h M hM.pure).noex (X := X)).bind fun l d M1 ⟨e1, e2⟩ => ?_
  rw [e1, e2]
  exact hk l M.length _ (hM.new (lst_closed l))
end
end Ip
end
section
set_option Elab.async false
set_option linter.all false
set_option maxRecDepth 100000
set_option maxHeartbeats 1000000
set_option autoImplicit false
namespace Ip
open PySem L2
/-! ### pieces -/
inductive Pc where
  | top (n : Int) | old (a b : Int) | opn (a : Int) | new (a b n : Int)
deriving DecidableEq
def Pc.d : Pc → D
  | .top n => .tup [.str "top", .int n]
  | .old a b => .tup [.str "old", .int a, .int b]
  | .opn a => .tup [.str "old", .int a, .non]
  | .new a b n => .tup [.str "new", .int a, .int b, .int n]
instance : Enc Pc := ⟨Pc.d, fun p k => by cases p <;> simp [Pc.d, closed, closedAll], fun a b h => by
  have w1 : ((Str.ofString "old") = (Str.ofString "new")) = False := by simp only [eq_iff_iff, iff_false]; decide +kernel
  have w2 : ((Str.ofString "new") = (Str.ofString "old")) = False := by simp only [eq_iff_iff, iff_false]; decide +kernel
  cases a <;> cases b <;> simp_all [Pc.d]⟩
instance : NoN Pc := ⟨fun p h => by cases p <;> cases h⟩
namespace Pc
def isTop : Pc → Bool
  | .top _ => true
  | _ => false
def isOld : Pc → Bool
  | .old _ _ => true
  | .opn _ => true
  | _ => false
def isNew : Pc → Bool
  | .new _ _ _ => true
  | _ => false
def f1 : Pc → Int
  | .top n => n
  | .old a _ => a
  | .opn a => a
  | .new a _ _ => a
def f2 : Pc → Pr (Option Int)
  | .top _ => Pr.bad
  | .old _ b => Pr.ok (some b)
  | .opn _ => Pr.ok none
  | .new _ b _ => Pr.ok (some b)
def f3 : Pc → Pr Int
  | .new _ _ n => Pr.ok n
  | _ => Pr.bad
def fl : Pc → Option Int
  | .top n => some n
  | .old _ b => some b
  | .opn _ => none
  | .new _ _ n => some n
/-- old rows, with an end or not -/
def ofO (a : Int) : Option Int → Pc
  | none => .opn a
  | some b => .old a b
end Pc
theorem w_eq (a b : Str) (M : Sto) : gEq false (.str a) (.str b) M = some (.bl (decide (a = b)), M) := by
  unfold gEq eqD
  simp only [toV, scal, if_true, Option.map_some, V.str.injEq]
  rfl
theorem w_ne (a b : Str) (M : Sto) : gEq true (.str a) (.str b) M = some (.bl (!decide (a = b)), M) := by
  unfold gEq eqD
  simp only [toV, scal, if_true, Option.map_some, V.str.injEq]
theorem geqI (a b : Int) (M : Sto) : gEq false (.int a) (.int b) M = some (.bl (decide (a = b)), M) := by
  unfold gEq eqD
  simp only [toV, scal, if_true, Option.map_some, V.int.injEq]
  rfl
theorem gneI (a b : Int) (M : Sto) : gEq true (.int a) (.int b) M = some (.bl (!decide (a = b)), M) := by
  unfold gEq eqD
  simp only [toV, scal, if_true, Option.map_some, V.int.injEq]
theorem geqB (a b : Bool) (M : Sto) : gEq false (.bl a) (.bl b) M = some (.bl (decide (a = b)), M) := by
  unfold gEq eqD
  simp only [toV, scal, if_true, Option.map_some, V.bl.injEq]
  rfl
theorem gneB (a b : Bool) (M : Sto) : gEq true (.bl a) (.bl b) M = some (.bl (!decide (a = b)), M) := by
  unfold gEq eqD
  simp only [toV, scal, if_true, Option.map_some, V.bl.injEq]
section
variable {α β γ δ ε σ ρ : Type} {X : Sto → Prop} {env : En} {S : Sto → Prop} {M : Sto}
/-! ### kinds known -/
theorem cast_some [Enc α] [NoN α] (a : α) : (cast (some a) : Pr α) = Pr.ok a := by
  funext Q E
  refine propext ⟨fun ⟨b, e, q⟩ => ?_, fun q => ⟨a, rfl, q⟩⟩
  rw [Enc.inj a b e]; exact q
theorem cast_none [Enc α] [NoN α] : (cast (none : Option α) : Pr α) = Pr.bad := by
  funext Q E
  exact propext ⟨fun ⟨b, e, q⟩ => NoN.non b e.symm, fun q => q.elim⟩
theorem cast_self [Enc α] (a : α) : (cast a : Pr α) = Pr.ok a := by
  funext Q E
  refine propext ⟨fun ⟨b, e, q⟩ => ?_, fun q => ⟨a, rfl, q⟩⟩
  rw [Enc.inj a b e]; exact q
theorem cast_ok [Enc α] [Enc β] {a : α} {b : β} (h : en a = en b) : (cast a : Pr β) = Pr.ok b := by
  funext Q E
  refine propext ⟨fun ⟨c, e, q⟩ => ?_, fun q => ⟨b, h, q⟩⟩
  rw [Enc.inj b c (h.symm.trans e)]; exact q
theorem isNon_some [Enc α] [NoN α] (a : α) : isNon (en a) = false := by
  have := NoN.non a
  revert this
  generalize en a = d
  intro h
  cases d <;> first | rfl | exact absurd rfl h
theorem isNon_opt [Enc α] [NoN α] (o : Option α) : isNon (en o) = o.isNone := by
  cases o with
  | none => rfl
  | some a => exact isNon_some a
theorem is_v [Enc α] [NoN α] {f g : DE} {o : Option α} (h : PV f env S (en o)) (h' : PV g env S .non) : PV (dBin (gIs false) f g) env S (.bl o.isNone) := bin_v h h' fun M _ => by
  show some (D.bl (if false = true then !isNon (en o) else isNon (en o)), M) = _
  rw [isNon_opt]; rfl
theorem isnt_v [Enc α] [NoN α] {f g : DE} {o : Option α} (h : PV f env S (en o)) (h' : PV g env S .non) : PV (dBin (gIs true) f g) env S (.bl o.isSome) := bin_v h h' fun M _ => by
  show some (D.bl (if true = true then !isNon (en o) else isNon (en o)), M) = _
  rw [isNon_opt]
  cases o <;> rfl
theorem isn_v [Enc α] [NoN α] {f g : DE} {o : α} (h : PV f env S (en o)) (h' : PV g env S .non) : PV (dBin (gIs false) f g) env S (.bl false) := bin_v h h' fun M _ => by
  show some (D.bl (if false = true then !isNon (en o) else isNon (en o)), M) = _
  rw [isNon_some]; rfl
theorem isntn_v [Enc α] [NoN α] {f g : DE} {o : α} (h : PV f env S (en o)) (h' : PV g env S .non) : PV (dBin (gIs true) f g) env S (.bl true) := bin_v h h' fun M _ => by
  show some (D.bl (if true = true then !isNon (en o) else isNon (en o)), M) = _
  rw [isNon_some]; rfl
/-! ### parts of pieces -/
theorem ws_tt : decide ((Str.ofString "top") = Str.ofString "top") = true := by decide +kernel
theorem ws_to : decide ((Str.ofString "top") = Str.ofString "old") = false := by decide +kernel
theorem ws_tn : decide ((Str.ofString "top") = Str.ofString "new") = false := by decide +kernel
theorem ws_ot : decide ((Str.ofString "old") = Str.ofString "top") = false := by decide +kernel
theorem ws_oo : decide ((Str.ofString "old") = Str.ofString "old") = true := by decide +kernel
theorem ws_on : decide ((Str.ofString "old") = Str.ofString "new") = false := by decide +kernel
theorem ws_nt : decide ((Str.ofString "new") = Str.ofString "top") = false := by decide +kernel
theorem ws_no : decide ((Str.ofString "new") = Str.ofString "old") = false := by decide +kernel
theorem ws_nn : decide ((Str.ofString "new") = Str.ofString "new") = true := by decide +kernel
theorem ix0 (p : Pc) (M : Sto) : ∃ w : Str, gIx p.d (.int 0) M = some (.str w, M) ∧ decide (w = "top") = p.isTop ∧ decide (w = "old") = p.isOld ∧ decide (w = "new") = p.isNew := by
  cases p with
  | top n => exact ⟨"top", rfl, ws_tt, ws_to, ws_tn⟩
  | old a b => exact ⟨"old", rfl, ws_ot, ws_oo, ws_on⟩
  | opn a => exact ⟨"old", rfl, ws_ot, ws_oo, ws_on⟩
  | new a b n => exact ⟨"new", rfl, ws_nt, ws_no, ws_nn⟩
theorem word_v {f : DE} {p : Pc} (h : PV f env S p.d) : PV (dBin (gEq false) (dBin gIx f (dC (.int 0))) (dC (.str "top"))) env S (.bl p.isTop) ∧ PV (dBin (gEq false) (dBin gIx f (dC (.int 0))) (dC (.str "old"))) env S (.bl p.isOld) ∧ PV (dBin (gEq false) (dBin gIx f (dC (.int 0))) (dC (.str "new"))) env S (.bl p.isNew) := by
  refine ⟨fun M hM => ?_, fun M hM => ?_, fun M hM => ?_⟩
  all_goals
    obtain ⟨w, e, h1, h2, h3⟩ := ix0 p M
    unfold dBin
    rw [h M hM]
    show ((liftM (gIx p.d (.int 0) M)).bind fun x M1 => liftM (gEq false x (.str _) M1)) = _
    rw [e]
    show liftM (gEq false (.str w) (.str _) M) = _
    rw [w_eq]
  · rw [h1]; rfl
  · rw [h2]; rfl
  · rw [h3]; rfl
theorem f1_v {f : DE} {p : Pc} (h : PV f env S p.d) : PV (dBin gIx f (dC (.int 1))) env S (.int p.f1) := bin_v h pv_c fun M _ => by cases p <;> rfl
theorem f2_x {f : DE} {p : Pc} (h : PV f env S p.d) : PX (dBin gIx f (dC (.int 2))) env S X p.f2 := bin_pp h pv_c fun M hM => by
  cases p with
  | top n => exact .bad
  | _ => exact .ok ⟨rfl, hM⟩
theorem f3_x {f : DE} {p : Pc} (h : PV f env S p.d) : PX (dBin gIx f (dC (.int 3))) env S X p.f3 := bin_pp h pv_c fun M hM => by
  cases p with
  | new _ _ n => exact .ok ⟨rfl, hM⟩
  | _ => exact .bad
theorem fl_v {f : DE} {p : Pc} (h : PV f env S p.d) : PV (dBin gIx f (dUn gNeg (dC (.int 1)))) env S (en p.fl) := bin_v h (un_v (z := .int (-1)) pv_c fun _ _ => rfl) fun M _ => by cases p <;> rfl
theorem ofO_en (a : Int) (o : Option Int) : en (Pc.ofO a o) = .tup [.str "old", .int a, en o] := by cases o <;> rfl
/-! ### lists: trees or cells -/
def LV (f : DE) (env : En) (S : Sto → Prop) (l : List D) : Prop := ∀ M, S M → ∃ x, f env M = .ok x M ∧ asL x M = some l
theorem lv_v {f : DE} {l : List D} (h : PV f env S (.lst l)) : LV f env S l := fun M hM => ⟨_, h M hM, rfl⟩
theorem lv_c {N : Nat} {P : Sto → Prop} {cs : List (Nat × Cell)} {i : Nat} (j : Nat) {n : Nat} {l : List D} (hi : env[i]? = some (some (.ref n))) (hj : cs[j]? = some (n, .lst l)) : LV (dVar i) env (St N P cs) l := fun M hM =>
  ⟨.ref n, by unfold dVar; rw [hi], by simp only [asL, hM.get j hj]⟩
def idx (l : List α) (i : Int) : Pr α := fun Q _ => ∃ a, atI l i = some a ∧ Q a
theorem atI_map (f : α → β) (l : List α) (i : Int) : atI (l.map f) i = (atI l i).map f := by
  unfold atI
  rw [List.length_map]
  cases ixN l.length i with
  | none => rfl
  | some j => simp
theorem cutD_map (f : α → β) (l : List α) (lo hi : Option Int) : cutD (l.map f) lo hi = (cutD l lo hi).map f := by
  unfold cutD
  simp only [List.length_map, List.map_drop, List.map_take]
theorem gIx_as {x : D} {l : List D} {i : Int} (h : asL x M = some l) : gIx x (.int i) M = (atI l i).map (·, M) := by
  unfold gIx
  cases x <;> first | (simp only [asL] at h; done) | skip
  all_goals simp only [h]
  all_goals first | (simp only [asL] at h; cases h; done) | (cases hh : atI l i <;> rfl)
theorem ix_l [Enc α] {fa fb : DE} {l : List α} {i : Int} (h : LV fa env S (l.map en)) (h' : PV fb env S (.int i)) : PX (dBin gIx fa fb) env S X (idx l i) := fun M hM => by
  refine ⟨fun Q E ⟨a, ha, q⟩ => ?_⟩
  obtain ⟨x, e, hx⟩ := h M hM
  have e2 : dBin gIx fa fb env M = .ok (en a) M := by
    unfold dBin
    rw [e]
    show (fb env M).bind _ = _
    rw [h' M hM]
    show liftM (gIx x (.int i) M) = _
    rw [gIx_as hx, atI_map, ha]; rfl
  rw [e2]
  exact ⟨a, q, rfl, hM⟩
theorem gs_ixL [Enc α] {l : List α} {i : Int} : GS S X gIx (en l) (.int i) (idx l i) := fun M hM => by
  refine ⟨fun Q E ⟨a, ha, q⟩ => ?_⟩
  have e2 : gIx (en l) (.int i) M = some (en a, M) := by
    rw [show en l = D.lst (l.map en) from rfl, gIx_as (l := l.map en) rfl, atI_map, ha]; rfl
  rw [e2]
  exact ⟨a, q, rfl, hM⟩
theorem gLen_as {x : D} {l : List D} (h : asL x M = some l) : gLen [x] M = some (.int (l.length : Nat), M) := by
  unfold gLen
  cases x <;> first | (simp only [asL] at h; cases h; done) | simp only [h]
theorem len_l {fa : DE} {l : List D} (h : LV fa env S l) : PV (dCallB gLen (dConsA fa dNilA)) env S (.int (l.length : Nat)) := fun M hM => by
  obtain ⟨x, e, hx⟩ := h M hM
  unfold dCallB dConsA
  rw [e]
  show liftM (gLen [x] M) = _
  rw [gLen_as hx]; rfl
theorem lenT_v {fa : DE} {l : List D} (h : PV fa env S (.tup l)) : PV (dCallB gLen (dConsA fa dNilA)) env S (.int (l.length : Nat)) := fun M hM => by
  unfold dCallB dConsA
  rw [h M hM]; rfl
theorem tru_l {f : DE} {l : List D} (h : LV f env S l) : TV (dTru f) env S (!l.isEmpty) := fun M hM => by
  obtain ⟨x, e, hx⟩ := h M hM
  unfold dTru
  rw [e]
  show (match truD x M with
    | some b => Out.ok b M
    | none => .bad) = _
  have : truD x M = some (!l.isEmpty) := by
    cases x <;> simp only [asL] at hx <;> first | (cases hx; done) | skip
    · cases hx; rfl
    · simp only [truD]
      split at hx
      · cases hx; rename_i hh; simp [hh]
      · cases hx
  rw [this]
/-! slices -/
def OV (f : DO) (env : En) (S : Sto → Prop) (o : Option Int) : Prop := ∀ M, S M → f env M = .ok o M
theorem ov_n : OV dNoPart env S none := fun _ _ => rfl
theorem ov_s {f : DE} {i : Int} (h : PV f env S (.int i)) : OV (dPart f) env S (some i) := fun M hM => by
  unfold dPart; rw [h M hM]; rfl
theorem gSl_as {x : D} {l : List D} {lo hi : Option Int} (h : asL x M = some l) : gSl x lo hi M = some (.lst (cutD l lo hi), M) := by
  unfold gSl
  cases x <;> first | (simp only [asL] at h; cases h; done) | simp only [h]
theorem sl_l {fa : DE} {fl fh : DO} {l : List D} {lo hi : Option Int} (h : LV fa env S l) (h1 : OV fl env S lo) (h2 : OV fh env S hi) : PV (dSl fa fl fh) env S (.lst (cutD l lo hi)) := fun M hM => by
  obtain ⟨x, e, hx⟩ := h M hM
  unfold dSl
  rw [e]
  show (fl env M).bind _ = _
  rw [h1 M hM]
  show (fh env M).bind _ = _
  rw [h2 M hM]
  show liftM (gSl x lo hi M) = _
  rw [gSl_as hx]; rfl
theorem sl_v {fa : DE} {fl fh : DO} {x z : D} {lo hi : Option Int} (h : PV fa env S x) (h1 : OV fl env S lo) (h2 : OV fh env S hi) (hg : ∀ M, S M → gSl x lo hi M = some (z, M)) : PV (dSl fa fl fh) env S z := fun M hM => by
  unfold dSl
  rw [h M hM]
  show (fl env M).bind _ = _
  rw [h1 M hM]
  show (fh env M).bind _ = _
  rw [h2 M hM]
  show liftM (gSl x lo hi M) = _
  rw [hg M hM]; rfl
theorem sl_op [Enc α] [Enc γ] {fa : DE} {fl fh : DO} {a : α} {lo hi : Option Int} (h : PV fa env S (en a)) (h1 : OV fl env S lo) (h2 : OV fh env S hi) : PX (dSl fa fl fh) env S X (op1 (fun x M => gSl x lo hi M) a : Pr γ) := fun M hM => by
  refine ⟨fun Q E ⟨c, hc, q⟩ => ?_⟩
  have e : dSl fa fl fh env M = .ok (en c) M := sl_v (z := en c) (S := S) h h1 h2 (fun M _ => hc M) M hM
  rw [e]
  exact ⟨c, q, rfl, hM⟩
/-! joining -/
def cat (a b : List α) : Pr (List α) := Pr.need (a.length + b.length ≤ 16777216) (Pr.ok (a ++ b))
theorem asL_ne {x : D} {l : List D} (h : asL x M = some l) : ∀ i, x ≠ .int i := fun i e => by rw [e] at h; cases h
theorem gAdd_as {x y : D} {a b : List D} (h : asL x M = some a) (h' : asL y M = some b) (hl : a.length + b.length ≤ 16777216) : gAdd x y M = some (.lst (a ++ b), M) := by
  have hc : gCat x y M = some (.lst (a ++ b), M) := by
    unfold gCat
    rw [h, h']
    exact if_pos hl
  unfold gAdd
  cases x <;> simp only [asL] at h <;> first | (cases h; done) | skip
  all_goals (cases y <;> simp only [asL] at h' <;> first | (cases h'; done) | skip)
  all_goals simp only [orG, gStr, hc]
theorem cat_l [Enc α] {fa fb : DE} {a b : List α} (h : LV fa env S (a.map en)) (h' : LV fb env S (b.map en)) : PX (dBin gAdd fa fb) env S X (cat a b) := fun M hM => .need fun hl => by
  obtain ⟨x, e, hx⟩ := h M hM
  obtain ⟨y, e', hy⟩ := h' M hM
  unfold dBin
  rw [e]
  show Sat ((fb env M).bind _) _ _ _
  rw [e']
  show Sat (liftM (gAdd x y M)) _ _ _
  rw [gAdd_as hx hy (by simpa using hl)]
  exact .ok ⟨by show D.lst _ = D.lst _; simp, hM⟩
theorem gs_cat [Enc α] {a b : List α} : GS S X gAdd (en a) (en b) (cat a b) := fun M hM => .need fun hl => by
  rw [gAdd_as (x := en a) (y := en b) (a := a.map en) (b := b.map en) rfl rfl (by simpa using hl)]
  exact .ok ⟨by show D.lst _ = D.lst _; simp, hM⟩
def rep (l : List α) (k : Int) : Pr (List α) := Pr.need (sm k ∧ l.length * k.toNat ≤ 16777216) (Pr.ok (List.replicate k.toNat l).flatten)
theorem gs_rep [Enc α] {l : List α} {k : Int} : GS S X gMul (en l) (.int k) (rep l k) := fun M hM => .need fun ⟨h1, h2⟩ => by
  have e : gMul (en l) (.int k) M = some (.lst (List.replicate k.toNat (l.map en)).flatten, M) := by
    show gMul (.lst (l.map en)) (.int k) M = _
    unfold gMul orG gIntC gRep
    simp only [asL, in63_sm h1, List.length_map, h2, decide_true, Bool.and_true, if_true]
  rw [e]
  refine .ok ⟨?_, hM⟩
  show D.lst _ = D.lst _
  congr 1
  generalize k.toNat = n
  induction n with
  | zero => rfl
  | succ n ih => rw [List.replicate_succ, List.replicate_succ, List.flatten_cons, List.flatten_cons, List.map_append, ih]
/-! built-ins -/
theorem callB_v {g : GC} {fa : DA} {xs : List D} {z : D} (h : AV fa env S xs) (hg : ∀ M, S M → g xs M = some (z, M)) : PV (dCallB g fa) env S z := fun M hM => by
  unfold dCallB
  rw [h M hM]
  show liftM (g xs M) = _
  rw [hg M hM]; rfl
theorem callB_end [Enc γ] {g : GC} {xs : List D} {c : γ} (hM : S M) (hg : ∀ M, S M → g xs M = some (en c, M)) : Sat (liftM (g xs M)) (Pr.ok c) (relE S) X := by
  rw [hg M hM]
  exact .ok ⟨rfl, hM⟩
theorem bls_map : ∀ l : List Bool, bls (l.map en) = some l
  | [] => rfl
  | b :: l => by
    show (bls (l.map en)).map (b :: ·) = _
    rw [bls_map l]; rfl
theorem gAll_v (l : List Bool) (M : Sto) : gAll [en l] M = some (.bl (l.all id), M) := by
  show (bls (l.map en)).map (fun bs => (D.bl (bs.all id), M)) = _
  rw [bls_map]; rfl
theorem gAny_v (l : List Bool) (M : Sto) : gAny [en l] M = some (.bl (l.any id), M) := by
  show (bls (l.map en)).map (fun bs => (D.bl (bs.any id), M)) = _
  rw [bls_map]; rfl
/-! chains of numbers -/
theorem chain_v {g g' : G2} {fa fb fc : DE} {x y z : D} {b b' : Bool} (ha : PV fa env S x) (hb : PV fb env S y) (hc : PV fc env S z) (h1 : ∀ M, S M → g x y M = some (.bl b, M)) (h2 : ∀ M, S M → g' y z M = some (.bl b', M)) : PV (dChain g g' fa fb fc) env S (.bl (b && b')) := fun M hM => by
  unfold dChain
  rw [ha M hM]
  show (fb env M).bind _ = _
  rw [hb M hM]
  show (liftM (g x y M)).bind _ = _
  rw [h1 M hM]
  cases b
  · rfl
  · show (fc env M).bind _ = _
    rw [hc M hM]
    show liftM (g' y z M) = _
    rw [h2 M hM]; rfl
/-! objects -/
theorem fld_v {c f : Str} {fe : DE} {ks : List Str} {ds : List D} {z : D} (h : PV fe env S (.obj c ks ds)) (hl : (ks.zip ds).lookup f = some z) : PV (dFld c f fe) env S z := fun M hM => by
  unfold dFld
  rw [h M hM]
  show (match objOf c (.obj c ks ds) M with
    | some (ks, ds) => match (ks.zip ds).lookup f with
      | some d => Out.ok d M
      | none => .bad
    | none => .bad) = _
  rw [show objOf c (.obj c ks ds) M = some (ks, ds) from if_pos rfl]
  simp only [hl]
end
end Ip
namespace Ip
open PySem L2
section
variable {α β γ δ ε σ ρ : Type} {X : Sto → Prop} {env : En} {S : Sto → Prop} {M : Sto}
theorem gs_f1 {p : Pc} : GS S X gIx (en p) (en (1 : Int)) (Pr.ok p.f1) := gs_ok fun M _ => by cases p <;> rfl
theorem gs_f2 {p : Pc} : GS S X gIx (en p) (en (2 : Int)) p.f2 := fun M hM => by
  cases p with
  | top n => exact .bad
  | _ => exact .ok ⟨rfl, hM⟩
theorem pv_eq {f : DE} {x y : D} (e : x = y) (h : PV f env S x) : PV f env S y := e ▸ h
theorem ifE_V [Enc α] {ft : DT} {fa fb : DE} {c : Bool} {a b : α} (h : TV ft env S c) (ha : PV fa env S (en a)) (hb : PV fb env S (en b)) : PV (dIfE ft fa fb) env S (en (if c then a else b)) := by
  have := ifE_v h ha hb
  cases c
  · exact this
  · exact this
theorem sl_L [Enc α] {fa : DE} {fl fh : DO} {l : List α} {lo hi : Option Int} (h : LV fa env S (l.map en)) (h1 : OV fl env S lo) (h2 : OV fh env S hi) : PV (dSl fa fl fh) env S (en (cutD l lo hi)) :=
  pv_eq (by show D.lst _ = D.lst _; rw [cutD_map]) (sl_l h h1 h2)
theorem sl_x [Enc α] {fa : DE} {fl fh : DO} {p : Pr (List α)} {lo hi : Option Int} (h : PX fa env S X p) (h1 : OV fl env S lo) (h2 : OV fh env S hi) : PX (dSl fa fl fh) env S X (p.bind fun l => Pr.ok (cutD l lo hi)) := fun M hM => bd_e h hM fun l M1 s1 => by
  show Sat ((fl env M1).bind _) _ _ _
  rw [h1 M1 s1]
  show Sat ((fh env M1).bind _) _ _ _
  rw [h2 M1 s1]
  show Sat (liftM (gSl (en l) lo hi M1)) _ _ _
  rw [show en l = D.lst (l.map en) from rfl, gSl_as (l := l.map en) rfl]
  exact .ok ⟨by show D.lst _ = D.lst _; rw [cutD_map], s1⟩
theorem len_L [Enc α] {fa : DE} {l : List α} (h : LV fa env S (l.map en)) : PV (dCallB gLen (dConsA fa dNilA)) env S (en ((l.length : Nat) : Int)) := pv_eq (by show D.int _ = D.int _; simp) (len_l h)
theorem len_x [Enc α] {fa : DE} {p : Pr (List α)} (h : PX fa env S X p) : PX (dCallB gLen (dConsA fa dNilA)) env S X (p.bind fun l => Pr.ok ((l.length : Nat) : Int)) := fun M hM => arg_e h hM fun l M1 h1 => arg_nil (callB_end h1 fun M _ => by
  rw [show en l = D.lst (l.map en) from rfl, gLen_as (l := l.map en) rfl]
  simp [en, Enc.enc])
/-! ### == of data of one kind -/
class PyT (α : Type) [Enc α] where
  py : α → PyData
  top : ∀ a : α, toPy (en a) = some (py a)
  lay : ∀ a, PyData.canLay0 (py a) = true
  dp : Nat
  dep : ∀ a, PyData.depth (py a) ≤ dp
  eqv : ∀ a b, PyData.eqv (py a) (py b) = true ↔ a = b
  sc : ∀ (a b : α) (v w : V), toV (en a) = some v → toV (en b) = some w → scal v w = true
instance : PyT Int := ⟨.int, fun _ => rfl, fun _ => rfl, 0, fun _ => Nat.le_refl _, fun a b => by simp [PyData.eqv], fun a b v w h1 h2 => by cases h1; cases h2; rfl⟩
instance : PyT Bool := ⟨.bool, fun _ => rfl, fun _ => rfl, 0, fun _ => Nat.le_refl _, fun a b => by simp [PyData.eqv], fun a b v w h1 h2 => by cases h1; cases h2; rfl⟩
theorem toV_non {d : D} {w : V} (h : toV d = some w) : scal .non w = true ∧ scal w .non = true := by
  cases d <;> cases h <;> exact ⟨rfl, rfl⟩
theorem toPys_map [Enc α] [PyT α] : ∀ l : List α, toPys (l.map en) = some (l.map PyT.py)
  | [] => rfl
  | x :: l => by simp [toPys, PyT.top, toPys_map l]
theorem layAll_map [Enc α] [PyT α] : ∀ l : List α, PyData.canLayAll0 (l.map PyT.py) = true
  | [] => rfl
  | x :: l => by simp [PyData.canLayAll0, PyT.lay, layAll_map l]
theorem depAll_map [Enc α] [PyT α] : ∀ l : List α, PyData.depthAll (l.map PyT.py) ≤ PyT.dp α
  | [] => Nat.zero_le _
  | x :: l => by simp only [List.map_cons, PyData.depthAll]; exact Nat.max_le.mpr ⟨PyT.dep x, depAll_map l⟩
theorem eqvAll_map [Enc α] [PyT α] : ∀ l m : List α, PyData.eqvAll (l.map PyT.py) (m.map PyT.py) = true ↔ l = m
  | [], [] => by simp [PyData.eqvAll]
  | [], _ :: _ => by simp [PyData.eqvAll]
  | _ :: _, [] => by simp [PyData.eqvAll]
  | x :: l, y :: m => by simp [PyData.eqvAll, PyT.eqv, eqvAll_map l m]
instance [Enc α] [PyT α] : PyT (List α) := ⟨fun l => .list (l.map PyT.py), fun l => by show (toPys (l.map en)).map _ = _; rw [toPys_map]; rfl, fun l => layAll_map l, PyT.dp α + 1, fun l => Nat.succ_le_succ (depAll_map l), fun a b => eqvAll_map a b, fun a b v w h1 h2 => by cases h1⟩
instance [Enc α] [PyT α] [Enc β] [PyT β] : PyT (α × β) := ⟨fun p => .tuple [PyT.py p.1, PyT.py p.2], fun p => by show (toPys [en p.1, en p.2]).map _ = _; simp [toPys, PyT.top], fun p => by simp [PyData.canLay0, PyData.canLayAll0, PyT.lay], max (PyT.dp α) (PyT.dp β) + 1, fun p => by
    have h1 := PyT.dep p.1
    have h2 := PyT.dep p.2
    simp only [PyData.depth, PyData.depthAll]
    omega, fun a b => by simp [PyData.eqv, PyData.eqvAll, PyT.eqv, Prod.ext_iff], fun a b v w h1 h2 => by cases h1⟩
/-- never equal to None -/
class NoE (α : Type) [Enc α] [PyT α] : Prop where
  l : ∀ a : α, PyData.eqv (PyT.py a) .none = false
  r : ∀ a : α, PyData.eqv .none (PyT.py a) = false
instance : NoE Int := ⟨fun _ => rfl, fun _ => rfl⟩
instance : NoE Bool := ⟨fun _ => rfl, fun _ => rfl⟩
instance [Enc α] [PyT α] : NoE (List α) := ⟨fun _ => rfl, fun _ => rfl⟩
instance [Enc α] [PyT α] [Enc β] [PyT β] : NoE (α × β) := ⟨fun _ => rfl, fun _ => rfl⟩
instance [Enc α] [PyT α] [NoN α] [NoE α] : PyT (Option α) := ⟨fun o => match o with | none => .none | some a => PyT.py a, fun o => by cases o with | none => rfl | some a => exact PyT.top a, fun o => by cases o with | none => rfl | some a => exact PyT.lay a, PyT.dp α, fun o => by cases o with | none => exact Nat.zero_le _ | some a => exact PyT.dep a, fun a b => by
    cases a with
    | none => cases b with
      | none => simp [PyData.eqv]
      | some b => simp [NoE.r]
    | some a => cases b with
      | none => simp [NoE.l]
      | some b => simp [PyT.eqv], fun a b v w h1 h2 => by
    cases a with
    | none => cases h1; exact (toV_non h2).1
    | some a => cases b with
      | none => cases h2; exact (toV_non h1).2
      | some b => exact PyT.sc a b v w h1 h2⟩
/-- of data kinds whose trees lie no deeper than 64 -/
theorem toV_inj {x y : D} {v : V} (h : toV x = some v) (h' : toV y = some v) : x = y := by
  cases x <;> cases h <;> cases y <;> cases h' <;> rfl
theorem eqD_T [Enc α] [PyT α] [DecidableEq α] (a b : α) (M : Sto) (hd : PyT.dp α ≤ 64) : eqD (en a) (en b) M = some (decide (a = b)) := by
  have hp : ∀ c : α, pyM (en c) M = some (PyT.py c) := fun c => by
    have h1 := PyT.top c
    have hn := closed_no_ref (d := en c) fun k => Enc.cls c k
    revert h1 hn
    generalize en c = d
    intro h1 hn
    cases d with
    | ref n => exact absurd rfl (hn n)
    | _ => exact h1
  have hs : ∀ c : α, SeqAt.shaped (PyT.py c) = true := fun c => by
    unfold SeqAt.shaped
    rw [PyT.lay c, Bool.true_and, decide_eq_true_eq]
    exact Nat.le_trans (PyT.dep c) hd
  have he : PyData.eqv (PyT.py a) (PyT.py b) = decide (a = b) := by
    have := PyT.eqv a b
    by_cases h : a = b
    · rw [this.mpr h]; simp [h]
    · cases hh : PyData.eqv (PyT.py a) (PyT.py b) with
      | true => exact absurd (this.mp hh) h
      | false => simp [h]
  unfold eqD
  cases h1 : toV (en a) with
  | none =>
    simp only [hp, hs, Bool.and_self, if_true, he]
  | some v =>
    cases h2 : toV (en b) with
    | none => simp only [hp, hs, Bool.and_self, if_true, he]
    | some w =>
      simp only [PyT.sc a b v w h1 h2, if_true, Option.some.injEq]
      by_cases h : a = b
      · subst h
        rw [h1] at h2
        cases h2
        simp
      · have : v ≠ w := fun e => by subst e; exact h (Enc.inj _ _ (toV_inj h1 h2))
        simp [h, this]
theorem geqT [Enc α] [PyT α] [DecidableEq α] (a b : α) (M : Sto) (hd : PyT.dp α ≤ 64 := by exact Nat.le_of_ble_eq_true rfl) : gEq false (en a) (en b) M = some (en (decide (a = b)), M) := by
  unfold gEq
  rw [eqD_T a b M hd]; rfl
theorem gneT [Enc α] [PyT α] [DecidableEq α] (a b : α) (M : Sto) (hd : PyT.dp α ≤ 64 := by exact Nat.le_of_ble_eq_true rfl) : gEq true (en a) (en b) M = some (en (!decide (a = b)), M) := by
  unfold gEq
  rw [eqD_T a b M hd]; rfl
/-! ### lists or tuples -/
structure Sq (α : Type) where
  t : Bool
  l : List α
def Sq.cut {α : Type} (q : Sq α) (lo hi : Option Int) : Sq α := ⟨q.t, cutD q.l lo hi⟩
def Sq.d {α : Type} [Enc α] (q : Sq α) : D := match q.t with
  | true => .tup (q.l.map en)
  | false => .lst (q.l.map en)
instance [Enc α] : Enc (Sq α) := ⟨Sq.d, fun q k => by
    obtain ⟨t, l⟩ := q
    cases t <;> exact closedAll_map k l, fun a b h => by
    obtain ⟨t, l⟩ := a
    obtain ⟨t', l'⟩ := b
    cases t <;> cases t' <;> first | (cases h; done) | skip
    · rw [map_inj l l' (D.lst.inj h)]
    · rw [map_inj l l' (D.tup.inj h)]⟩
instance [Enc α] : NoN (Sq α) := ⟨fun q h => by obtain ⟨t, l⟩ := q; cases t <;> cases h⟩
theorem gIx_q [Enc α] (q : Sq α) (i : Int) (M : Sto) : gIx (en q) (.int i) M = (atI (q.l.map en) i).map (·, M) := by
  obtain ⟨t, l⟩ := q
  cases t
  · exact gIx_as (x := .lst (l.map en)) rfl
  · rfl
theorem ix_q [Enc α] {fa fb : DE} {q : Sq α} {i : Int} (h : PV fa env S (en q)) (h' : PV fb env S (.int i)) : PX (dBin gIx fa fb) env S X (idx q.l i) := bin_pp h h' fun M hM => by
  refine ⟨fun Q E ⟨a, ha, z⟩ => ?_⟩
  rw [gIx_q, atI_map, ha]
  exact ⟨a, z, rfl, hM⟩
theorem sl_q [Enc α] {fa : DE} {fl fh : DO} {q : Sq α} {lo hi : Option Int} (h : PV fa env S (en q)) (h1 : OV fl env S lo) (h2 : OV fh env S hi) : PV (dSl fa fl fh) env S (en (q.cut lo hi)) := sl_v h h1 h2 fun M _ => by
  obtain ⟨t, l⟩ := q
  cases t
  · show gSl (.lst (l.map en)) lo hi M = some (.lst ((cutD l lo hi).map en), M)
    rw [gSl_as (l := l.map en) rfl, cutD_map]
  · show some (D.tup (cutD (l.map en) lo hi), M) = some (.tup ((cutD l lo hi).map en), M)
    rw [cutD_map]
theorem len_q [Enc α] {fa : DE} {q : Sq α} (h : PV fa env S (en q)) : PV (dCallB gLen (dConsA fa dNilA)) env S (en ((q.l.length : Nat) : Int)) := callB_v (av_cons h av_nil) fun M _ => by
  obtain ⟨t, l⟩ := q
  cases t
  · show gLen [.lst (l.map en)] M = _
    rw [gLen_as (l := l.map en) rfl]
    simp [en, Enc.enc]
  · show some (D.int ((l.map en).length : Nat), M) = _
    simp [en, Enc.enc]
theorem j_q [Enc β] {fe : DE} {q : Sq β} (h : PV fe env S (en q)) : JX (dIter2 fe) env S X (lim q.l) (en (α := β)) := by
  obtain ⟨t, l⟩ := q
  cases t
  · exact j_v (l := l) h
  · exact j_t (l := l) h
theorem seqOf_q [Enc α] (q : Sq α) (M : Sto) : seqOf (en q) M = some (q.l.map en) := by
  obtain ⟨t, l⟩ := q
  cases t <;> rfl
variable {rel : α → Fl → Sto → Prop} {N : Nat} {P : Sto → Prop} {cs : List (Nat × Cell)}
theorem seq_newQ [Enc β] {i : Nat} {fe : DE} {g : DS} {q : Sq β} {p : Pr α} {env1 : Nat → En} (he : ∀ n, env.set i (some (.ref n)) = env1 n) (h : PV fe env (St N P cs) (en q)) (hM : St N P cs M) (hk : ∀ n M1, St N P (cs ++ [(n, .lst (q.l.map en))]) M1 → Sat (g (env1 n) M1) p rel X) : Sat (dSeq (dSet i (dCallB gListC (dConsA fe dNilA))) g env M) p rel X := by
  have e : dCallB gListC (dConsA fe dNilA) env M = .ok (.ref M.length) (M ++ [.lst (q.l.map en)]) := by
    unfold dCallB dConsA
    rw [h M hM]
    show liftM (gListC [en q] M) = _
    unfold gListC
    simp only [seqOf_q]
    rfl
  unfold dSeq dSet
  rw [e]
  have := hk M.length _ (hM.new (lst_closed q.l))
  rw [← he] at this
  exact this
theorem seq_newL [Enc β] {i : Nat} {fe : DE} {g : DS} {l : List β} {p : Pr α} {env1 : Nat → En} (he : ∀ n, env.set i (some (.ref n)) = env1 n) (h : PV fe env (St N P cs) (en l)) (hM : St N P cs M) (hk : ∀ n M1, St N P (cs ++ [(n, .lst (l.map en))]) M1 → Sat (g (env1 n) M1) p rel X) : Sat (dSeq (dSet i (dCallB gListC (dConsA fe dNilA))) g env M) p rel X :=
  seq_newQ (q := ⟨false, l⟩) he h hM hk
theorem seq_setIxx [Enc β] {i : Nat} (j : Nat) {fi fe : DE} {g : DS} {n : Nat} {l : List β} {v : Int} {p : Pr β} {k : List β → Pr α} (hi : env[i]? = some (some (.ref n))) (hj : cs[j]? = some (n, .lst (l.map en))) (h : PX fe env (St N P cs) X p) (hv : PV fi env (St N P cs) (.int v)) (hM : St N P cs M) (hk : ∀ l' M1, St N P (cs.set j (n, .lst (l'.map en))) M1 → Sat (g env M1) (k l') rel X) :
    Sat (dSeq (dSetIx (dVar i) fi fe) g env M) (p.bind fun x => (setI l v x).bind k) rel X := by
  unfold dSeq dSetIx
  rw [bind_assoc]
  refine bd_e h hM fun x M1 h1 => ?_
  refine ⟨fun Q E ⟨u, hu, z⟩ => ?_⟩
  have hc := h1.get j hj
  have := (hk (l.set u x) _ (h1.set j hj (lst_closed (l.set u x)))).run Q E z
  have e : dSetIx (dVar i) fi (dC (en x)) env M1 = .ok (.nx env) (M1.set n (.lst ((l.set u x).map en))) := by
    unfold dSetIx dVar dC
    simp only [hi]
    show (Out.bind (fi env M1) _) = _
    rw [hv M1 h1]
    show (match setL (.ref n) M1 fun l => (ixN l.length v).map fun j => l.set j (en x) with
      | some M4 => Out.ok (Fl.nx env) M4
      | none => .bad) = _
    simp only [setL, hc, List.length_map, hu, Option.map_some, List.map_set]
  show ((dSetIx (dVar i) fi (dC (en x)) env M1).bind _).post _ _
  rw [e]
  exact this
/-- a def of one list, which may be a cell of the caller's -/
def FPL [Enc α] [Enc β] (F : DF) (l : List α) (p : Pr β) : Prop := ∀ M x, PureS M → asL x M = some (l.map en) → Sat (F [x] M) p (fun a d M' => d = en a ∧ M' = M) NX
theorem FPL.fp [Enc α] [Enc β] {F : DF} {l : List α} {p : Pr β} (h : FPL F l p) : FP F [en l] p := fun M hM => h M (en l) hM rfl
theorem callL [Enc β] [Enc γ] {F : DF} {n : Nat} {l : List β} {p : Pr γ} (j : Nat) (h : FPL F l p) (hj : cs[j]? = some (n, .lst (l.map en))) (hM : St N P cs M) : Sat (Ip.noex (F [.ref n] M)) p (relE (St N P cs)) X :=
  ((h M (.ref n) hM.pure (by simp only [asL, hM.get j hj])).imp fun a d M' ⟨e1, e2⟩ => ⟨e1, by rw [e2]; exact hM⟩).noex
end
end Ip
end
section
set_option Elab.async false
set_option linter.all false
set_option maxRecDepth 100000
set_option maxHeartbeats 1000000
set_option autoImplicit false
namespace Ip
open PySem L2
/-! ### layouts -/
structure Lay where
  parts : List Pc
  starts : List Int
abbrev lks : List Str := ["parts", "starts"]
instance : Enc Lay := ⟨fun l => .obj "Layout" lks [en l.parts, en l.starts], fun l k => by
    show closedAll k [en l.parts, en l.starts] = true
    simp [closedAll, Enc.cls], fun a b h => by
    have h' := (D.obj.inj h).2.2
    simp only [List.cons.injEq, and_true] at h'
    cases a; cases b
    simp only [Lay.mk.injEq]
    exact ⟨Enc.inj _ _ h'.1, Enc.inj _ _ h'.2⟩⟩
instance : NoN Lay := ⟨fun _ h => by cases h⟩
theorem lay_ob {a : Lay} {M : Sto} : objOf "Layout" (en a) M = some (lks, [en a.parts, en a.starts]) := by
  show objOf "Layout" (.obj "Layout" lks [en a.parts, en a.starts]) M = _
  unfold objOf
  exact if_pos rfl
theorem lk_parts (a b : D) : (lks.zip [a, b]).lookup (Str.ofString "parts") = some a := by
  show List.lookup (Str.ofString "parts") [(Str.ofString "parts", a), (Str.ofString "starts", b)] = some a
  have h : (Str.ofString "parts" == Str.ofString "parts") = true := by decide +kernel
  simp [List.lookup, h]
theorem lk_starts (a b : D) : (lks.zip [a, b]).lookup (Str.ofString "starts") = some b := by
  show List.lookup (Str.ofString "starts") [(Str.ofString "parts", a), (Str.ofString "starts", b)] = some b
  have h : (Str.ofString "starts" == Str.ofString "parts") = false := by decide +kernel
  simp [List.lookup, h]
theorem lk_no {m : Str} (h1 : (m == Str.ofString "parts") = false) (h2 : (m == Str.ofString "starts") = false) (a b : D) : (lks.zip [a, b]).lookup m = none := by
  show List.lookup m [(Str.ofString "parts", a), (Str.ofString "starts", b)] = none
  simp [List.lookup, h1, h2]
section
variable {α β γ δ ε σ ρ : Type} {X : Sto → Prop} {env : En} {S : Sto → Prop} {M : Sto}
theorem lay_parts {f : DE} {l : Lay} (h : PV f env S (en l)) : PV (dFld "Layout" "parts" f) env S (en l.parts) := fld_v h (lk_parts _ _)
theorem lay_starts {f : DE} {l : Lay} (h : PV f env S (en l)) : PV (dFld "Layout" "starts" f) env S (en l.starts) := fld_v h (lk_starts _ _)
/-- what is written of an object's class: a property, a method -/
theorem prop_x [PuS S] [Enc α] {c : Str} {F : DF} {fe : DE} {x : D} {q : List Str × List D} {p : Pr α} (ho : ∀ {M}, objOf c x M = some q) (h : FP F [x] p) (he : PV fe env S x) : PX (dProp c F fe) env S X p := fun M hM => by
  unfold dProp
  refine bd_p he hM ?_
  show Sat (match objOf c x M with
    | some _ => noex (F [x] M)
    | none => .bad) _ _ _
  rw [ho]
  exact callP h hM
theorem prop_xx [PuS S] [Enc α] [Enc β] {c : Str} {F : DF} {fe : DE} {r : Pr β} {q : β → List Str × List D} {p : β → Pr α} (ho : ∀ (a : β) {M}, objOf c (en a) M = some (q a)) (h : ∀ a, FP F [en a] (p a)) (he : PX fe env S X r) : PX (dProp c F fe) env S X (r.bind p) := fun M hM => by
  unfold dProp
  refine bd_e he hM fun a M1 h1 => ?_
  show Sat (match objOf c (en a) M1 with
    | some _ => noex (F [en a] M1)
    | none => .bad) _ _ _
  rw [ho a]
  exact callP (h a) h1
theorem meth_p {c m : Str} {F : DF} {fo : DE} {fa : DA} {x : D} {ks : List Str} {ds : List D} {P : Pr β} {rel' : β → D → Sto → Prop} (ho : ∀ {M}, objOf c x M = some (ks, ds)) (hl : (ks.zip ds).lookup m = none) (h : PV fo env S x) (hM : S M)
    (hk : Sat ((fa env M).bind fun as M2 => noex (F (x :: as) M2)) P rel' X) : Sat (dMeth c m F fo fa env M) P rel' X := by
  unfold dMeth
  refine bd_p h hM ?_
  show Sat (match objOf c x M with
    | some (ks, ds) => match (ks.zip ds).lookup m with
      | none => (fa env M).bind fun as M2 => noex (F (x :: as) M2)
      | some _ => .bad
    | none => .bad) _ _ _
  rw [ho]
  simp only [hl]
  exact hk
theorem meth_e [Enc α] {c m : Str} {F : DF} {fo : DE} {fa : DA} {p : Pr α} {ks : α → List Str} {ds : α → List D} {k : α → Pr β} {rel' : β → D → Sto → Prop} (ho : ∀ (a : α) {M}, objOf c (en a) M = some (ks a, ds a)) (hl : ∀ a, ((ks a).zip (ds a)).lookup m = none) (h : PX fo env S X p) (hM : S M)
    (hk : ∀ a M1, S M1 → Sat ((fa env M1).bind fun as M2 => noex (F (en a :: as) M2)) (k a) rel' X) : Sat (dMeth c m F fo fa env M) (p.bind k) rel' X := by
  unfold dMeth
  refine bd_e h hM fun a M1 h1 => ?_
  show Sat (match objOf c (en a) M1 with
    | some (ks, ds) => match (ks.zip ds).lookup m with
      | none => (fa env M1).bind fun as M2 => noex (F (en a :: as) M2)
      | some _ => .bad
    | none => .bad) _ _ _
  rw [ho a]
  simp only [hl a]
  exact hk a M1 h1
/-- a new object -/
def FM [Enc α] (c : Str) (F : DF) (ds : List D) (p : Pr α) : Prop := ∀ M, PureS M → Sat (kMake c F ds M) p (fun a d M' => d = en a ∧ M' = M) NX
theorem Sat.nx {rel : α → δ → Sto → Prop} {o : Out δ} {p : Pr α} (h : Sat o p rel NX) : Sat o p rel X := ⟨fun Q E z => (h.run Q E z).imp (fun _ _ z => z) (fun _ _ _ z => z.2.elim)⟩
theorem makeP [PuS S] [Enc α] {c : Str} {F : DF} {ds : List D} {p : Pr α} (h : FM c F ds p) (hM : S M) : Sat (kMake c F ds M) p (relE S) X :=
  ((h M (PuS.pure M hM)).imp fun a d M' ⟨e1, e2⟩ => ⟨e1, by rw [e2]; exact hM⟩).nx
theorem ifE_true [Enc α] {ft : DT} {fa fb : DE} {p : Pr α} (h : TV ft env S true) (ha : PX fa env S X p) : PX (dIfE ft fa fb) env S X p := fun M hM => td_p h hM (ha M hM)
theorem ifE_trueV {ft : DT} {fa fb : DE} {x : D} (h : TV ft env S true) (ha : PV fa env S x) : PV (dIfE ft fa fb) env S x := fun M hM => by
  unfold dIfE
  rw [h M hM]
  exact ha M hM
/-! ### the law's own comparison: two values that are the same -/
mutual
def lkD : Nat → D → Bool
  | 0, _ => false
  | _ + 1, .non => true
  | _ + 1, .bl _ => true
  | _ + 1, .int _ => true
  | _ + 1, .str _ => true
  | k + 1, .tup l => decide (l.length ≤ 1000) && lkDs k l
  | k + 1, .lst l => decide (l.length ≤ 1000) && lkDs k l
  | _ + 1, _ => false
def lkDs : Nat → List D → Bool
  | _, [] => true
  | k, d :: l => lkD k d && lkDs k l
end
def lk [Enc α] [Enc β] (k : Nat) (a : α) (b : β) : Pr Bool := fun Q _ => en a = en b ∧ lkD k (en a) = true ∧ Q true
/-! ### the law -/
variable {rel : α → Fl → Sto → Prop}
theorem seq_bag {ns : List Int} {Fb : DF} {g : DS} {i : Nat} {env1 : En} {p : Pr α} (h : ∃ l, Fb [.scr ns] [] = .ok (.ref 0) [.lst l] ∧ BagOk l) (h0 : env[0]? = some (some (.scr ns))) (he : env.set i (some (.ref 0)) = env1) (hk : ∀ M, SB [] M → Sat (g env1 M) p rel X) : Sat (dSeq (dSet i (dCall Fb (dConsA (dVar 0) dNilA))) g env []) p rel X := by
  obtain ⟨l, e, hb⟩ := h
  have e2 : dCall Fb (dConsA (dVar 0) dNilA) env [] = .ok (.ref 0) [.lst l] := by
    unfold dCall dConsA dVar dNilA
    rw [h0]
    show noex (Fb [.scr ns] []) = _
    rw [e]; rfl
  unfold dSeq dSet
  rw [e2]
  subst he
  exact hk _ ⟨l, hb, rfl, PureS.nil⟩
theorem SB.st {M : Sto} (h : SB [] M) : St (([] : Sto).length + 1) (BagP []) [] M := by
  obtain ⟨b, hb, rfl, _⟩ := h
  exact .start ⟨b, hb, rfl⟩ rfl (pure_bag hb PureS.nil)
theorem run_law {n : Nat} {B : DS} {ns : List Int} {p : Pr Bool} {env0 : En} {R : Sto → Prop} (he : [some (D.scr ns)] ++ List.replicate (n - 1) none = env0) (h : Sat (B env0 []) p (fun a fl M' => fl = .rt (en a) ∧ R M') NX) (ht : p (fun b => b = true) (fun _ => False)) : ∃ M, runF n 1 B [.scr ns] [] = .ok (.bl true) M := by
  have := h.run _ _ ht
  have e : runF n 1 B [.scr ns] [] = (B env0 []).bind fun fl M1 => match fl with
    | .nx _ => .ok .non M1
    | .rt d => .ok d M1
    | _ => .bad := by
    unfold runF
    rw [if_pos (show [D.scr ns].length = 1 from rfl), ← he]
    rfl
  rw [e]
  cases ho : B env0 [] with
  | bad => rw [ho] at this; exact this.elim
  | exc e v M => rw [ho] at this; exact this.1.elim
  | ok fl M =>
    rw [ho] at this
    obtain ⟨a, ha, h1, _⟩ := this
    subst ha
    rw [h1]
    exact ⟨M, rfl⟩
end
end Ip
namespace Ip
open PySem L2
/-! ### rows in order -/
abbrev Rw := Option (Int × Int)
def pr : Rw → Rw → Prop
  | none, _ => True
  | some _, none => False
  | some x, some y => x.1 ≤ y.1 ∧ x.2 ≤ y.2 ∧ (x.1 = x.2 → y.1 = y.2 → x.1 < y.1)
def okR : Rw → Prop
  | none => True
  | some x => 0 ≤ x.1 ∧ x.1 ≤ x.2
theorem pr_trans {x y z : Rw} (hy : okR y) (h1 : pr x y) (h2 : pr y z) : pr x z := by
  cases x with
  | none => trivial
  | some x =>
    cases y with
    | none => exact h1.elim
    | some y =>
      cases z with
      | none => exact h2.elim
      | some z =>
        obtain ⟨a, b⟩ := x; obtain ⟨c, d⟩ := y; obtain ⟨e, f⟩ := z
        simp only [pr, okR] at *
        omega
theorem idx_nat {α : Type} {l : List α} {i : Nat} (h : i < l.length) : idx l (i : Int) = Pr.ok l[i] := by
  funext Q E
  have e : atI l (i : Int) = some l[i] := by
    unfold atI ixN
    simp [h]
  refine propext ⟨fun ⟨a, ha, q⟩ => ?_, fun q => ⟨l[i], e, q⟩⟩
  rw [e] at ha
  cases ha
  exact q
theorem ixN_last {α : Type} (l : List α) (x : α) : ixN (l ++ [x]).length (-1) = some l.length := by
  unfold ixN
  rw [if_neg (by omega), if_pos (by simp; omega), show (-1 + (((l ++ [x]).length : Nat) : Int)).toNat = l.length by simp; omega]
theorem idx_last {α : Type} (l : List α) (x : α) : idx (l ++ [x]) (-1) = Pr.ok x := by
  funext Q E
  have e : atI (l ++ [x]) (-1) = some x := by
    unfold atI
    rw [ixN_last]
    simp
  refine propext ⟨fun ⟨a, ha, q⟩ => ?_, fun q => ⟨x, e, q⟩⟩
  rw [e] at ha
  cases ha
  exact q
theorem setI_last {α : Type} (l : List α) (x y : α) : setI (l ++ [x]) (-1) y = Pr.ok (l ++ [y]) := by
  funext Q E
  have e := ixN_last l x
  have e2 : (l ++ [x]).set l.length y = l ++ [y] := by simp
  refine propext ⟨fun ⟨j, hj, q⟩ => ?_, fun q => ⟨l.length, e, ?_⟩⟩
  · rw [e] at hj
    cases hj
    rw [e2] at q
    exact q
  · rw [e2]; exact q
theorem setI_zero {α : Type} (x y : α) (l : List α) : setI (x :: l) 0 y = Pr.ok (y :: l) := by
  funext Q E
  have e : ixN (x :: l).length 0 = some 0 := by
    unfold ixN
    simp
  refine propext ⟨fun ⟨j, hj, q⟩ => ?_, fun q => ⟨0, e, q⟩⟩
  rw [e] at hj
  cases hj
  exact q
end Ip
namespace Ip
open PySem L2
section
variable {α β γ δ ε σ ρ : Type} {X : Sto → Prop} {env : En} {S : Sto → Prop} {M : Sto}
/-! ### loops over a list in a cell -/
theorem forS_cell {t : DG} {fb : DS} {n : Nat} {l : List β} {enc : β → D} {body : β → σ → Pr σ} {I : σ → En → Sto → Prop} (hI : ∀ s env M, I s env M → M[n]? = some (Cell.lst (l.map enc))) (hb : ∀ x s env M, I s env M → ∃ env1, t (enc x) env = some env1 ∧ Sat (fb env1 M) (body x s) (LpR I) X) :
    ∀ (f i : Nat) (s : σ) (env : En) (M : Sto), l.length < f + i → i ≤ l.length → I s env M → Sat (forS t fb (.cell n) f i env M) (Pr.forM (l.drop i) s body) (NxR I) X
  | 0, i, s, env, M, h, hi, _ => by omega
  | f + 1, i, s, env, M, h, hi, hs => by
    have hc := hI s env M hs
    by_cases hl : i < l.length
    · rw [List.drop_eq_getElem_cons hl]
      obtain ⟨env1, e1, hb1⟩ := hb l[i] s env M hs
      unfold forS
      rw [show (Src.cell n).at_ i M = some (some (enc l[i])) by
        show (celL M[n]?).map (fun l => l[i]?) = _
        rw [hc]
        show some ((l.map enc)[i]?) = _
        rw [List.getElem?_map, List.getElem?_eq_getElem hl]; rfl]
      simp only [e1]
      refine hb1.bind fun s' fl M1 ⟨env2, z, i2⟩ => ?_
      rcases z with z | z
      · rw [z]; exact forS_cell hI hb f (i + 1) s' env2 M1 (by omega) (by omega) i2
      · rw [z]; exact forS_cell hI hb f (i + 1) s' env2 M1 (by omega) (by omega) i2
    · have e : i = l.length := by omega
      subst e
      rw [List.drop_length]
      unfold forS
      rw [show (Src.cell n).at_ l.length M = some none by
        show (celL M[n]?).map (fun k => k[l.length]?) = _
        rw [hc]
        show some ((l.map enc)[l.length]?) = _
        simp]
      exact .ok ⟨env, rfl, hs⟩
theorem forS_cellF {t : DG} {fb : DS} {n : Nat} {l : List β} {enc : β → D} {body : β → σ → Pr (FlT σ ρ)} {I : σ → En → Sto → Prop} {R : ρ → D → Sto → Prop} (hI : ∀ s env M, I s env M → M[n]? = some (Cell.lst (l.map enc))) (hb : ∀ x s env M, I s env M → ∃ env1, t (enc x) env = some env1 ∧ Sat (fb env1 M) (body x s) (LfR I R) X) :
    ∀ (f i : Nat) (s : σ) (env : En) (M : Sto), l.length < f + i → i ≤ l.length → I s env M → Sat (forS t fb (.cell n) f i env M) (Pr.forF (l.drop i) s body) (NfR I R) X
  | 0, i, s, env, M, h, hi, _ => by omega
  | f + 1, i, s, env, M, h, hi, hs => by
    have hc := hI s env M hs
    by_cases hl : i < l.length
    · rw [List.drop_eq_getElem_cons hl]
      obtain ⟨env1, e1, hb1⟩ := hb l[i] s env M hs
      unfold forS
      rw [show (Src.cell n).at_ i M = some (some (enc l[i])) by
        show (celL M[n]?).map (fun l => l[i]?) = _
        rw [hc]
        show some ((l.map enc)[i]?) = _
        rw [List.getElem?_map, List.getElem?_eq_getElem hl]; rfl]
      simp only [e1]
      refine hb1.bind fun s' fl M1 z => ?_
      cases s' with
      | nx s2 =>
        obtain ⟨env2, z, i2⟩ := z
        rcases z with z | z
        · rw [z]; exact forS_cellF hI hb f (i + 1) s2 env2 M1 (by omega) (by omega) i2
        · rw [z]; exact forS_cellF hI hb f (i + 1) s2 env2 M1 (by omega) (by omega) i2
      | bk s2 => obtain ⟨env2, z, i2⟩ := z; rw [z]; exact .ok ⟨env2, rfl, i2⟩
      | rt r => obtain ⟨d, z, i2⟩ := z; rw [z]; exact .ok ⟨d, rfl, i2⟩
    · have e : i = l.length := by omega
      subst e
      rw [List.drop_length]
      unfold forS
      rw [show (Src.cell n).at_ l.length M = some none by
        show (celL M[n]?).map (fun k => k[l.length]?) = _
        rw [hc]
        show some ((l.map enc)[l.length]?) = _
        simp]
      exact .ok ⟨env, rfl, hs⟩
theorem iter2_c {fe : DE} {n : Nat} {l : List D} {c : Src → Sto → Out ε} (h : fe env M = .ok (.ref n) M) (hn : M[n]? = some (.lst l)) : (dIter2 fe env M).bind c = c (.cell n) M := by
  unfold dIter2
  rw [h]
  show Out.bind (match (celL M[n]?).map (fun _ => Src.cell n) with
    | some s => Out.ok s M
    | none => .bad) c = _
  rw [hn]
  rfl
theorem forC_nx {t : DG} {k n : Nat} {fb : DS} {l : List β} {enc : β → D} {s : σ} {body : β → σ → Pr σ} {I : σ → En → Sto → Prop} (hk : env[k]? = some (some (.ref n))) (hI : ∀ s env M, I s env M → M[n]? = some (Cell.lst (l.map enc))) (h0 : I s env M)
    (hb : ∀ x s env M, I s env M → ∃ env1, t (enc x) env = some env1 ∧ Sat (fb env1 M) (body x s) (LpR I) X) : Sat (dForS t (dIter2 (dVar k)) fb env M) ((lim l).bind fun l => Pr.forM l s body) (NxR I) X := by
  refine Sat.need (p := Pr.forM l s body) fun hl => ?_
  unfold dForS
  rw [iter2_c (by unfold dVar; rw [hk]) (hI s env M h0)]
  exact forS_cell hI hb 20000000 0 s env M (by omega) (Nat.zero_le _) h0
theorem forC_fl {t : DG} {k n : Nat} {fb : DS} {l : List β} {enc : β → D} {s : σ} {body : β → σ → Pr (FlT σ ρ)} {I : σ → En → Sto → Prop} {R : ρ → D → Sto → Prop} (hk : env[k]? = some (some (.ref n))) (hI : ∀ s env M, I s env M → M[n]? = some (Cell.lst (l.map enc))) (h0 : I s env M)
    (hb : ∀ x s env M, I s env M → ∃ env1, t (enc x) env = some env1 ∧ Sat (fb env1 M) (body x s) (LfR I R) X) : Sat (dForS t (dIter2 (dVar k)) fb env M) ((lim l).bind fun l => Pr.forF l s body) (NfR I R) X := by
  refine Sat.need (p := Pr.forF l s body) fun hl => ?_
  unfold dForS
  rw [iter2_c (by unfold dVar; rw [hk]) (hI s env M h0)]
  exact forS_cellF hI hb 20000000 0 s env M (by omega) (Nat.zero_le _) h0
end
end Ip
namespace Ip
open PySem L2
section
variable {α β γ δ ε σ ρ : Type} {X : Sto → Prop} {env : En} {S : Sto → Prop} {M : Sto} {N : Nat} {P : Sto → Prop} {cs : List (Nat × Cell)}
/-! ### a list that a call gives, in a cell -/
theorem callC_v [Enc β] {F : DF} {fa : DA} {ds : List D} {p : Pr (List β)} {c : D → Sto → Out ε} {k : List β → Pr γ} {rel' : γ → ε → Sto → Prop} (ha : AV fa env (St N P cs) ds) (h : FC F ds p) (hM : St N P cs M) (hk : ∀ l n M1, St N P (cs ++ [(n, .lst (l.map en))]) M1 → Sat (c (.ref n) M1) (k l) rel' X) : Sat ((dCall F fa env M).bind c) (p.bind k) rel' X := by
  unfold dCall
  rw [bind_assoc, ha M hM]
  exact callC h hM hk
theorem eqD_ref {n : Nat} {l : List D} {y : D} (hn : M[n]? = some (.lst l)) : eqD (.ref n) y M = eqD (.lst l) y M := by
  unfold eqD
  have h1 : pyM (.ref n) M = pyM (.lst l) M := by
    show (match M[n]? with
      | some (.lst l) => toPy (.lst l)
      | _ => none) = _
    rw [hn]
    rfl
  rw [h1]
  rfl
theorem eqC_v [Enc β] [PyT β] [DecidableEq β] {F : DF} {fa : DA} {fb : DE} {ds : List D} {p : Pr (List β)} {b : List β} (n : Bool) (ha : AV fa env (St N P cs) ds) (h : FC F ds p) (hb : ∀ cs', PV fb env (St N P cs') (en b)) (hd : PyT.dp (List β) ≤ 64 := by exact Nat.le_of_ble_eq_true rfl) : PX (dBin (gEq n) (dCall F fa) fb) env (St N P cs) X (p.bind fun a => Pr.ok (if n then !decide (a = b) else decide (a = b))) := fun M hM => by
  unfold dBin
  refine callC_v ha h hM fun l k M1 h1 => ?_
  rw [hb _ M1 h1]
  have hc := h1.get cs.length (n := k) (c := .lst (l.map en)) (by simp)
  have e : gEq n (.ref k) (en b) M1 = some (en (if n then !decide (l = b) else decide (l = b)), M1) := by
    unfold gEq
    rw [eqD_ref hc, show D.lst (l.map en) = en l from rfl, eqD_T l b M1 hd]
    rfl
  show Sat (liftM (gEq n (.ref k) (en b) M1)) _ _ _
  rw [e]
  exact .ok ⟨rfl, h1.pre⟩
end
end Ip
namespace Ip
open PySem L2
section
variable {α β γ δ ε σ ρ : Type} {X : Sto → Prop} {env : En} {S : Sto → Prop} {M : Sto} {N : Nat} {P : Sto → Prop} {cs : List (Nat × Cell)}
theorem eqC_x [Enc α] [Enc β] [PyT β] [DecidableEq β] {F : DF} {fe fb : DE} {q : Pr α} {p : α → Pr (List β)} {b : List β} (n : Bool) (ha : PX fe env (St N P cs) X q) (h : ∀ a : α, FC F [en a] (p a)) (hb : ∀ cs', PV fb env (St N P cs') (en b)) (hd : PyT.dp (List β) ≤ 64 := by exact Nat.le_of_ble_eq_true rfl) : PX (dBin (gEq n) (dCall F (dConsA fe dNilA)) fb) env (St N P cs) X (q.bind fun y => (p y).bind fun a => Pr.ok (if n then !decide (a = b) else decide (a = b))) := fun M hM => by
  unfold dBin dCall
  rw [bind_assoc]
  refine arg_e ha hM fun y M0 h0 => arg_nil ?_
  refine callC (h y) h0 fun l k M1 h1 => ?_
  rw [hb _ M1 h1]
  have hc := h1.get cs.length (n := k) (c := .lst (l.map en)) (by simp)
  have e : gEq n (.ref k) (en b) M1 = some (en (if n then !decide (l = b) else decide (l = b)), M1) := by
    unfold gEq
    rw [eqD_ref hc, show D.lst (l.map en) = en l from rfl, eqD_T l b M1 hd]
    rfl
  show Sat (liftM (gEq n (.ref k) (en b) M1)) _ _ _
  rw [e]
  exact .ok ⟨rfl, h1.pre⟩
end
end Ip
end
section
set_option Elab.async false
set_option linter.all false
set_option maxRecDepth 100000
set_option maxHeartbeats 1000000
set_option autoImplicit false
namespace Ip
open PySem L2
section
variable {α β γ δ ε σ ρ : Type} {X : Sto → Prop} {rel : α → Fl → Sto → Prop} {env : En} {S : Sto → Prop} {M : Sto}
/-- a list of two, of three -/
def unp2 (l : List β) : Pr (β × β) := match l with
  | [x, y] => Pr.ok (x, y)
  | _ => Pr.bad
def unp3 (l : List β) : Pr (T3 β β β) := match l with
  | [x, y, z] => Pr.ok ⟨x, y, z⟩
  | _ => Pr.bad
theorem seq_asgL2 [Enc β] {i j : Nat} {fe : DE} {g : DS} {env1 : β × β → En} {p : Pr (List β)} {k : β × β → Pr α} (h : PX fe env S X p) (ht : ∀ a, tgAll [i, j] [en a.1, en a.2] env = some (env1 a)) (hM : S M) (hk : ∀ a M1, S M1 → Sat (g (env1 a) M1) (k a) rel X) : Sat (dSeq (dAsg (tgLst [i, j]) fe) g env M) ((p.bind unp2).bind k) rel X := by
  unfold dSeq dAsg
  rw [bind_assoc, Pr.bind_bind]
  refine bd_e h hM fun l M1 h1 => ?_
  match l with
  | [x, y] =>
    show Sat (Out.bind (match tgAll [i, j] [en x, en y] env with
      | some env' => Out.ok (Fl.nx env') M1
      | none => .bad) _) _ rel X
    rw [ht (x, y)]
    exact hk (x, y) M1 h1
  | [] => exact .bad
  | [_] => exact .bad
  | _ :: _ :: _ :: _ => exact .bad
theorem seq_asgL3 [Enc β] {i j n : Nat} {fe : DE} {g : DS} {env1 : T3 β β β → En} {p : Pr (List β)} {k : T3 β β β → Pr α} (h : PX fe env S X p) (ht : ∀ a : T3 β β β, tgAll [i, j, n] [en a.p1, en a.p2, en a.p3] env = some (env1 a)) (hM : S M) (hk : ∀ a M1, S M1 → Sat (g (env1 a) M1) (k a) rel X) : Sat (dSeq (dAsg (tgLst [i, j, n]) fe) g env M) ((p.bind unp3).bind k) rel X := by
  unfold dSeq dAsg
  rw [bind_assoc, Pr.bind_bind]
  refine bd_e h hM fun l M1 h1 => ?_
  match l with
  | [x, y, z] =>
    show Sat (Out.bind (match tgAll [i, j, n] [en x, en y, en z] env with
      | some env' => Out.ok (Fl.nx env') M1
      | none => .bad) _) _ rel X
    rw [ht ⟨x, y, z⟩]
    exact hk ⟨x, y, z⟩ M1 h1
  | [] => exact .bad
  | [_] => exact .bad
  | [_, _] => exact .bad
  | _ :: _ :: _ :: _ :: _ => exact .bad
/-! ### == of layouts -/
theorem eqO_end [PuS S] {n : Bool} {F : DF} {a b : Lay} {p : Pr Bool} (h : FP F [en a, en b] p) (hM : S M) : Sat (match objOf "Layout" (en a) M, hasTy "Layout" (en b) M with
    | some _, true => (noex (F [en a, en b] M)).bind fun d M3 => match d with
      | .bl b => .ok (.bl (if n then !b else b)) M3
      | _ => .bad
    | _, _ => .bad) (p.bind fun c => Pr.ok (if n then !c else c)) (relE (α := Bool) S) X := by
  have h2 : hasTy "Layout" (en b) M = true := by unfold hasTy; rw [lay_ob]; rfl
  rw [lay_ob, h2]
  refine (callP h hM).bind fun c d M1 ⟨e, s⟩ => ?_
  rw [e]
  exact .ok ⟨rfl, s⟩
theorem eqO_pp [PuS S] {n : Bool} {F : DF} {fa fb : DE} {a b : Lay} {p : Pr Bool} (h : FP F [en a, en b] p) (ha : PV fa env S (en a)) (hb : PV fb env S (en b)) : PX (dEqO "Layout" n F fa fb) env S X (p.bind fun c => Pr.ok (if n then !c else c)) := fun M hM => by
  unfold dEqO
  exact bd_p ha hM (bd_p hb hM (eqO_end h hM))
theorem eqO_ep [PuS S] {n : Bool} {F : DF} {fa fb : DE} {q : Pr Lay} {b : Lay} {p : Lay → Pr Bool} (h : ∀ a : Lay, FP F [en a, en b] (p a)) (ha : PX fa env S X q) (hb : PV fb env S (en b)) : PX (dEqO "Layout" n F fa fb) env S X (q.bind fun a => (p a).bind fun c => Pr.ok (if n then !c else c)) := fun M hM => by
  unfold dEqO
  exact bd_e ha hM fun a M1 h1 => bd_p hb h1 (eqO_end (h a) h1)
theorem eqO_pe [PuS S] {n : Bool} {F : DF} {fa fb : DE} {q : Pr Lay} {a : Lay} {p : Lay → Pr Bool} (h : ∀ b : Lay, FP F [en a, en b] (p b)) (ha : PV fa env S (en a)) (hb : PX fb env S X q) : PX (dEqO "Layout" n F fa fb) env S X (q.bind fun b => (p b).bind fun c => Pr.ok (if n then !c else c)) := fun M hM => by
  unfold dEqO
  exact bd_p ha hM (bd_e hb hM fun b M1 h1 => eqO_end (h b) h1)
theorem eqO_ee [PuS S] {n : Bool} {F : DF} {fa fb : DE} {q r : Pr Lay} {p : Lay → Lay → Pr Bool} (h : ∀ a b : Lay, FP F [en a, en b] (p a b)) (ha : PX fa env S X q) (hb : PX fb env S X r) : PX (dEqO "Layout" n F fa fb) env S X (q.bind fun a => r.bind fun b => (p a b).bind fun c => Pr.ok (if n then !c else c)) := fun M hM => by
  unfold dEqO
  exact bd_e ha hM fun a M1 h1 => bd_e hb h1 fun b M2 h2 => eqO_end (h a b) h2
theorem gs_is [Enc β] [NoN β] {o : Option β} : GS S X (gIs false) (en o) (en ()) (Pr.ok o.isNone) := gs_ok fun M _ => by
  show some (D.bl (if false = true then !isNon (en o) else isNon (en o)), M) = _
  rw [isNon_opt]; rfl
theorem gs_isnt [Enc β] [NoN β] {o : Option β} : GS S X (gIs true) (en o) (en ()) (Pr.ok o.isSome) := gs_ok fun M _ => by
  show some (D.bl (if true = true then !isNon (en o) else isNon (en o)), M) = _
  rw [isNon_opt]
  cases o <;> rfl
theorem isiL_v {fa : DE} {a : Lay} (h : PV fa env S (en a)) : PV (dUn (gIsiO "Layout") fa) env S (.bl true) := un_v h fun M _ => by
  unfold gIsiO
  rw [lay_ob]
end
/-! ### pieces are data -/
def strP : Str → PyData := .str
def Pc.py : Pc → PyData
  | .top n => .tuple [.str "top", .int n]
  | .old a b => .tuple [.str "old", .int a, .int b]
  | .opn a => .tuple [.str "old", .int a, .none]
  | .new a b n => .tuple [.str "new", .int a, .int b, .int n]
theorem sOkT : PyData.strOk (Str.ofString "top") = true := by decide +kernel
theorem sOkO : PyData.strOk (Str.ofString "old") = true := by decide +kernel
theorem sOkN : PyData.strOk (Str.ofString "new") = true := by decide +kernel
theorem sTO : (Str.ofString "top" == Str.ofString "old") = false := by decide +kernel
theorem sTN : (Str.ofString "top" == Str.ofString "new") = false := by decide +kernel
theorem sOT : (Str.ofString "old" == Str.ofString "top") = false := by decide +kernel
theorem sON : (Str.ofString "old" == Str.ofString "new") = false := by decide +kernel
theorem sNT : (Str.ofString "new" == Str.ofString "top") = false := by decide +kernel
theorem sNO : (Str.ofString "new" == Str.ofString "old") = false := by decide +kernel
instance : PyT Pc := ⟨Pc.py, fun p => by cases p <;> rfl, fun p => by cases p <;> simp [Pc.py, PyData.canLay0, PyData.canLayAll0, sOkT, sOkO, sOkN], 1, fun p => by cases p <;> simp [Pc.py, PyData.depth, PyData.depthAll],
  fun a b => by cases a <;> cases b <;> simp [Pc.py, PyData.eqv, PyData.eqvAll, sTO, sTN, sOT, sON, sNT, sNO], fun a b v w h1 h2 => by cases a <;> cases h1⟩
instance : NoE Pc := ⟨fun p => by cases p <;> rfl, fun p => by cases p <;> rfl⟩
end Ip
end
section
set_option Elab.async false
set_option linter.all false
set_option maxRecDepth 100000
set_option maxHeartbeats 1000000
set_option autoImplicit false
/-! Typed readings of defs that may raise, and of what is told of them. -/
namespace Ip
open PySem L2
section
variable {α β γ δ ε σ ρ : Type} {X S : Sto → Prop} {env : En} {M : Sto} {rel : α → Fl → Sto → Prop}
/-- a def that may raise and leaves the store as it is -/
def FPx [Enc α] (F : DF) (ds : List D) (p : Pr α) : Prop := ∀ M, PureS M → Sat (F ds M) p (fun a d M' => d = en a ∧ M' = M) (fun M' => M' = M)
theorem callPx [PuS S] [Enc α] {F : DF} {ds : List D} {p : Pr α} (h : FPx F ds p) (hM : S M) : Sat (atE env (F ds M)) p (relE S) S := by
  refine ⟨fun Q E z => ?_⟩
  have q := (h M (PuS.pure M hM)).run Q E z
  cases hf : F ds M with
  | ok d M1 =>
    rw [hf] at q
    obtain ⟨a, qa, e, eM⟩ := q
    subst eM
    exact ⟨a, qa, e, hM⟩
  | exc e v M1 =>
    rw [hf] at q
    obtain ⟨qe, eM⟩ := q
    subst eM
    exact ⟨qe, hM⟩
  | bad => rw [hf] at q; exact q.elim
theorem seq_raise0 {c w : Str} {g : DS} (hM : X M) : Sat (dSeq (dRaise0 c w) g env M) (Pr.exc ⟨c, ["word"], [.str w]⟩ : Pr α) rel X := ⟨fun Q E z => ⟨z, hM⟩⟩
theorem run_px [Enc α] {n m : Nat} {B : DS} {ds : List D} {p : Pr α} {env0 : En} (hl : ds.length = m) (he : ds.map some ++ List.replicate (n - m) none = env0) (h : ∀ M0 M, S0 M0 M → Sat (B env0 M) p (fun a fl M' => fl = .rt (en a) ∧ S0 M0 M') (S0 M0)) : FPx (runF n m B) ds p := fun M hM => by
  unfold runF
  rw [if_pos hl, he]
  refine ⟨fun Q E z => ?_⟩
  refine post_mk_bind (((h M M ⟨rfl, hM⟩).run Q E z).imp (fun fl M1 ⟨a, q, e, s⟩ => ?_) (fun _ _ _ z => ⟨z.1, z.2.1⟩))
  rw [e]
  exact ⟨a, q, rfl, s.1⟩
theorem run_pNx {n m : Nat} {B : DS} {ds : List D} {p : Pr Unit} {env0 : En} (hl : ds.length = m) (he : ds.map some ++ List.replicate (n - m) none = env0) (h : ∀ M0 M, S0 M0 M → Sat (B env0 M) p (fun _ fl M' => ((∃ e, fl = .nx e) ∨ fl = .rt .non) ∧ S0 M0 M') (S0 M0)) : FPx (runF n m B) ds p := fun M hM => by
  unfold runF
  rw [if_pos hl, he]
  refine ⟨fun Q E z => ?_⟩
  refine post_mk_bind (((h M M ⟨rfl, hM⟩).run Q E z).imp (fun fl M1 ⟨a, q, e, s⟩ => ?_) (fun _ _ _ z => ⟨z.1, z.2.1⟩))
  rcases e with ⟨e, rfl⟩ | rfl
  · exact ⟨a, q, rfl, s.1⟩
  · exact ⟨a, q, rfl, s.1⟩
/-- an object made that may raise -/
def FMx [Enc α] (c : Str) (F : DF) (ds : List D) (p : Pr α) : Prop := ∀ M, PureS M → ∀ env, Sat (kMakeX c F env ds M) p (fun a d M' => d = en a ∧ M' = M) (fun M' => M' = M)
theorem makePx [PuS S] [Enc α] {c : Str} {F : DF} {ds : List D} {p : Pr α} (h : FMx c F ds p) (hM : S M) : Sat (kMakeX c F env ds M) p (relE S) S := by
  refine ⟨fun Q E z => ((h M (PuS.pure M hM) env).run Q E z).imp (fun d M1 ⟨a, q, e, eM⟩ => ⟨a, q, e, by rw [eM]; exact hM⟩) (fun _ _ M1 ⟨q, eM⟩ => ⟨q, by rw [eM]; exact hM⟩)⟩
theorem seq_raise1 [Enc β] {c w fl : Str} {fe : DE} {g : DS} {a : β} (h : PV fe env S (en a)) (hS : S M) (hM : X M) : Sat (dSeq (dRaise1 c w fl okIntD fe) g env M) (Pr.need (okIntD (en a) = true) (Pr.exc ⟨c, [fl, "word"], [en a, .str w]⟩) : Pr α) rel X := by
  refine ⟨fun Q E z => ?_⟩
  unfold dSeq dRaise1
  rw [h M hS]
  show (Out.bind (if okIntD (en a) = true then Out.exc ⟨c, [fl, "word"], [en a, .str w]⟩ env M else .bad) _).post _ _
  rw [if_pos z.1]
  exact ⟨z.2, hM⟩
/-- len() of an own object -/
theorem lenO_xx [PuS S] [Enc β] {c : Str} {F : DF} {fe : DE} {r : Pr β} {q : β → List Str × List D} {p : β → Pr Int} (ho : ∀ (a : β) {M}, objOf c (en a) M = some (q a)) (h : ∀ a, FP F [en a] (p a)) (he : PX fe env S X r) : PX (dLenO c F fe) env S X (r.bind fun a => (p a).bind fun (n : Int) => Pr.need (0 ≤ n ∧ n < 2 ^ 63) (Pr.ok n)) := fun M hM => by
  unfold dLenO
  refine bd_e he hM fun a M1 h1 => ?_
  show Sat (match objOf c (en a) M1 with
    | some _ => (noex (F [en a] M1)).bind fun (d : D) M2 => (match d with
      | D.int n => if 0 ≤ n ∧ n < 2 ^ 63 then Out.ok (D.int n) M2 else .bad
      | _ => .bad : Out D)
    | none => .bad) _ _ _
  rw [ho a]
  refine (callP (h a) h1).bind fun n d M2 ⟨e, s⟩ => ?_
  rw [e]
  refine ⟨fun Q E z => ?_⟩
  show (if 0 ≤ n ∧ n < 2 ^ 63 then Out.ok (D.int n) M2 else .bad).post _ _
  rw [if_pos z.1]
  exact ⟨n, z.2, rfl, s⟩
/-- what is told of a value or of an error -/
def Pr.told [Enc α] (errs : List Str) (p : Pr α) : Pr (Str × Da) := fun Q _ => p (fun a => Q ("told", da a)) (fun e => e.c ∈ errs ∧ ∃ (w : Str) (d : Da), e.at "word" = some (.str w) ∧ fieldD e w = some d.d ∧ Q (w, d))
theorem px_told [Enc α] {errs : List Str} {fe : DE} {p : Pr α} (h : PX fe env S S p) : PX (dTold errs fe) env S X (Pr.told errs p) := fun M hM => by
  refine ⟨fun Q E z => ?_⟩
  have q := (h M hM).run _ _ z
  unfold dTold
  cases hf : fe env M with
  | ok d M1 =>
    rw [hf] at q
    obtain ⟨a, qa, e, s⟩ := q
    subst e
    exact ⟨_, qa, rfl, s⟩
  | exc e v M1 =>
    rw [hf] at q
    obtain ⟨⟨hc, w, d, hw, hd, hq⟩, s⟩ := q
    simp only [hc, if_true, hw, hd]
    exact ⟨_, hq, rfl, s⟩
  | bad => rw [hf] at q; exact q.elim
end
/-- != of one and the same -/
theorem ne_same {x : PyData} {d : D} {M : Sto} (h0 : toV d = none) (hp : pyM d M = some x) (h1 : SeqAt.shaped x = true) (h2 : PyData.eqv x x = true) : gEq true d d M = some (.bl false, M) := by
  unfold gEq eqD
  rw [h0, hp]
  simp only [h1, h2, Bool.and_self, if_true, Option.map_some, Bool.not_true]
end Ip
end
section
set_option Elab.async false
set_option linter.all false
set_option maxRecDepth 100000
set_option maxHeartbeats 4000000
namespace T
open PySem PyProof.Rows L2 Ip
def top (i : Nat) : Stmt := PySem.Challenge.pw_spanrows_k03_too_many_pieces.main.body.getD i (.Pass ⟨0, 0, 0, 0⟩)
abbrev s__law_bag : Stmt := top 36
abbrev s__law_pull : Stmt := top 37
abbrev s__law_long_pieces : Stmt := top 41
abbrev s_Layout___len__ : Stmt := inClass (top 34) 11
abbrev s_is_number : Stmt := top 12
abbrev s_are_numbers : Stmt := top 13
abbrev s_is_range : Stmt := top 14
abbrev s_is_piece : Stmt := top 15
abbrev s_is_open : Stmt := top 16
abbrev s_row_count : Stmt := top 21
abbrev s_label_in : Stmt := top 24
abbrev s_first_label : Stmt := top 25
abbrev s_may_follow : Stmt := top 17
abbrev s_first_wrong : Stmt := top 18
abbrev s_joined : Stmt := top 19
abbrev s_normal_form : Stmt := top 20
abbrev s_starts_of : Stmt := top 22
abbrev s_Layout___init__ : Stmt := inClass (top 34) 1
abbrev s__law_like : Stmt := top 38
abbrev s_Layout___eq__ : Stmt := inClass (top 34) 10
abbrev s_Layout_plain : Stmt := inClass (top 34) 2
abbrev s_Layout_pieces : Stmt := inClass (top 34) 7
abbrev s_law : Stmt := top 42
abbrev s_SpanError : Stmt := inClass (top 2) 0
abbrev s_BadPieces : Stmt := inClass (top 4) 0
abbrev s_TooManyPieces : Stmt := inClass (top 5) 0
abbrev s__law_field : Stmt := top 39
abbrev s__law_told : Stmt := top 40
structure Txt (K : PySem.W.Frag) (mg : Str → Option Value) where
  b_all : mg "all" = none
  b_bool : mg "bool" = none
  b_enumerate : mg "enumerate" = none
  b_int : mg "int" = none
  b_isinstance : mg "isinstance" = none
  b_len : mg "len" = none
  b_list : mg "list" = none
  b_range : mg "range" = none
  b_tuple : mg "tuple" = none
  p_PLAIN : Addr
  c_PLAIN : mg "PLAIN" = some (.ref p_PLAIN)
  w_PLAIN : ∀ cl H ρ, RV ⟨K, cl⟩ H ρ (.tup [.tup [.str "old", .int 0, .non]]) (.ref p_PLAIN)
  a_Layout : Addr
  mc_Layout : Value
  g_Layout : mg "Layout" = some (.ref a_Layout)
  k_Layout : Cls K a_Layout
  r_Layout : ClX.CRead K a_Layout mc_Layout
  na_Layout_parts : NoAttr K a_Layout "parts"
  na_Layout_starts : NoAttr K a_Layout "starts"
  u_Layout_LIMIT : Value
  v_Layout_LIMIT : ClX.CVal K a_Layout mc_Layout "LIMIT" (.int 60) u_Layout_LIMIT
  a__law_bag : Addr
  d__law_bag : FuncData
  g__law_bag : mg "_law_bag" = some (.ref a__law_bag)
  p__law_bag : PySem.W.keepIn K (.ref a__law_bag) = true
  f__law_bag : Fun K "_law_bag" "_law_bag" s__law_bag a__law_bag d__law_bag
  n__law_bag : Binds K d__law_bag ["_law_script"] []
  a__law_pull : Addr
  d__law_pull : FuncData
  g__law_pull : mg "_law_pull" = some (.ref a__law_pull)
  p__law_pull : PySem.W.keepIn K (.ref a__law_pull) = true
  f__law_pull : Fun K "_law_pull" "_law_pull" s__law_pull a__law_pull d__law_pull
  n__law_pull : Binds K d__law_pull ["_law_bag_here", "_law_size"] []
  a__law_long_pieces : Addr
  d__law_long_pieces : FuncData
  g__law_long_pieces : mg "_law_long_pieces" = some (.ref a__law_long_pieces)
  p__law_long_pieces : PySem.W.keepIn K (.ref a__law_long_pieces) = true
  f__law_long_pieces : Fun K "_law_long_pieces" "_law_long_pieces" s__law_long_pieces a__law_long_pieces d__law_long_pieces
  n__law_long_pieces : Binds K d__law_long_pieces ["_law_many", "_law_wide"] []
  a_Layout___len__ : Addr
  d_Layout___len__ : FuncData
  m_Layout___len__ : Meth K a_Layout "__len__" a_Layout___len__
  p_Layout___len__ : PySem.W.keepIn K (.ref a_Layout___len__) = true
  f_Layout___len__ : Fun K "__len__" "Layout.__len__" s_Layout___len__ a_Layout___len__ d_Layout___len__
  n_Layout___len__ : Binds K d_Layout___len__ ["self"] []
  a_is_number : Addr
  d_is_number : FuncData
  g_is_number : mg "is_number" = some (.ref a_is_number)
  p_is_number : PySem.W.keepIn K (.ref a_is_number) = true
  f_is_number : Fun K "is_number" "is_number" s_is_number a_is_number d_is_number
  n_is_number : Binds K d_is_number ["value"] []
  a_are_numbers : Addr
  d_are_numbers : FuncData
  g_are_numbers : mg "are_numbers" = some (.ref a_are_numbers)
  p_are_numbers : PySem.W.keepIn K (.ref a_are_numbers) = true
  f_are_numbers : Fun K "are_numbers" "are_numbers" s_are_numbers a_are_numbers d_are_numbers
  n_are_numbers : Binds K d_are_numbers ["values", "many"] []
  a_is_range : Addr
  d_is_range : FuncData
  g_is_range : mg "is_range" = some (.ref a_is_range)
  p_is_range : PySem.W.keepIn K (.ref a_is_range) = true
  f_is_range : Fun K "is_range" "is_range" s_is_range a_is_range d_is_range
  n_is_range : Binds K d_is_range ["pair"] []
  a_is_piece : Addr
  d_is_piece : FuncData
  g_is_piece : mg "is_piece" = some (.ref a_is_piece)
  p_is_piece : PySem.W.keepIn K (.ref a_is_piece) = true
  f_is_piece : Fun K "is_piece" "is_piece" s_is_piece a_is_piece d_is_piece
  n_is_piece : Binds K d_is_piece ["piece"] []
  a_is_open : Addr
  d_is_open : FuncData
  g_is_open : mg "is_open" = some (.ref a_is_open)
  p_is_open : PySem.W.keepIn K (.ref a_is_open) = true
  f_is_open : Fun K "is_open" "is_open" s_is_open a_is_open d_is_open
  n_is_open : Binds K d_is_open ["piece"] []
  a_row_count : Addr
  d_row_count : FuncData
  g_row_count : mg "row_count" = some (.ref a_row_count)
  p_row_count : PySem.W.keepIn K (.ref a_row_count) = true
  f_row_count : Fun K "row_count" "row_count" s_row_count a_row_count d_row_count
  n_row_count : Binds K d_row_count ["piece"] []
  a_label_in : Addr
  d_label_in : FuncData
  g_label_in : mg "label_in" = some (.ref a_label_in)
  p_label_in : PySem.W.keepIn K (.ref a_label_in) = true
  f_label_in : Fun K "label_in" "label_in" s_label_in a_label_in d_label_in
  n_label_in : Binds K d_label_in ["piece", "offset"] []
  a_first_label : Addr
  d_first_label : FuncData
  g_first_label : mg "first_label" = some (.ref a_first_label)
  p_first_label : PySem.W.keepIn K (.ref a_first_label) = true
  f_first_label : Fun K "first_label" "first_label" s_first_label a_first_label d_first_label
  n_first_label : Binds K d_first_label ["piece"] []
  a_may_follow : Addr
  d_may_follow : FuncData
  g_may_follow : mg "may_follow" = some (.ref a_may_follow)
  p_may_follow : PySem.W.keepIn K (.ref a_may_follow) = true
  f_may_follow : Fun K "may_follow" "may_follow" s_may_follow a_may_follow d_may_follow
  n_may_follow : Binds K d_may_follow ["before", "piece"] []
  a_first_wrong : Addr
  d_first_wrong : FuncData
  g_first_wrong : mg "first_wrong" = some (.ref a_first_wrong)
  p_first_wrong : PySem.W.keepIn K (.ref a_first_wrong) = true
  f_first_wrong : Fun K "first_wrong" "first_wrong" s_first_wrong a_first_wrong d_first_wrong
  n_first_wrong : Binds K d_first_wrong ["pieces"] []
  a_joined : Addr
  d_joined : FuncData
  g_joined : mg "joined" = some (.ref a_joined)
  p_joined : PySem.W.keepIn K (.ref a_joined) = true
  f_joined : Fun K "joined" "joined" s_joined a_joined d_joined
  n_joined : Binds K d_joined ["one", "other"] []
  a_normal_form : Addr
  d_normal_form : FuncData
  g_normal_form : mg "normal_form" = some (.ref a_normal_form)
  p_normal_form : PySem.W.keepIn K (.ref a_normal_form) = true
  f_normal_form : Fun K "normal_form" "normal_form" s_normal_form a_normal_form d_normal_form
  n_normal_form : Binds K d_normal_form ["pieces"] []
  a_starts_of : Addr
  d_starts_of : FuncData
  g_starts_of : mg "starts_of" = some (.ref a_starts_of)
  p_starts_of : PySem.W.keepIn K (.ref a_starts_of) = true
  f_starts_of : Fun K "starts_of" "starts_of" s_starts_of a_starts_of d_starts_of
  n_starts_of : Binds K d_starts_of ["pieces"] []
  a_Layout___init__ : Addr
  d_Layout___init__ : FuncData
  mk_Layout : Mk K a_Layout a_Layout___init__
  p_Layout___init__ : PySem.W.keepIn K (.ref a_Layout___init__) = true
  f_Layout___init__ : Fun K "__init__" "Layout.__init__" s_Layout___init__ a_Layout___init__ d_Layout___init__
  n_Layout___init__ : Binds K d_Layout___init__ ["self", "pieces"] []
  a__law_like : Addr
  d__law_like : FuncData
  g__law_like : mg "_law_like" = some (.ref a__law_like)
  p__law_like : PySem.W.keepIn K (.ref a__law_like) = true
  f__law_like : Fun K "_law_like" "_law_like" s__law_like a__law_like d__law_like
  n__law_like : Binds K d__law_like ["_law_found", "_law_due"] []
  a_Layout___eq__ : Addr
  d_Layout___eq__ : FuncData
  m_Layout___eq__ : Meth K a_Layout "__eq__" a_Layout___eq__
  p_Layout___eq__ : PySem.W.keepIn K (.ref a_Layout___eq__) = true
  f_Layout___eq__ : Fun K "__eq__" "Layout.__eq__" s_Layout___eq__ a_Layout___eq__ d_Layout___eq__
  n_Layout___eq__ : Binds K d_Layout___eq__ ["self", "other"] []
  a_Layout_plain : Addr
  d_Layout_plain : FuncData
  q_Layout_plain : Addr
  cm_Layout_plain : ClX.CMet K a_Layout mc_Layout "plain" q_Layout_plain a_Layout_plain
  p_Layout_plain : PySem.W.keepIn K (.ref a_Layout_plain) = true
  f_Layout_plain : Fun K "plain" "Layout.plain" s_Layout_plain a_Layout_plain d_Layout_plain
  n_Layout_plain : Binds K d_Layout_plain ["cls"] []
  a_Layout_pieces : Addr
  d_Layout_pieces : FuncData
  m_Layout_pieces : Meth K a_Layout "pieces" a_Layout_pieces
  p_Layout_pieces : PySem.W.keepIn K (.ref a_Layout_pieces) = true
  f_Layout_pieces : Fun K "pieces" "Layout.pieces" s_Layout_pieces a_Layout_pieces d_Layout_pieces
  n_Layout_pieces : Binds K d_Layout_pieces ["self"] []
  a_law : Addr
  d_law : FuncData
  g_law : mg "law" = some (.ref a_law)
  p_law : PySem.W.keepIn K (.ref a_law) = true
  f_law : Fun K "law" "law" s_law a_law d_law
  n_law : Binds K d_law ["_law_script"] []
  eo_Layout : EqOwn K a_Layout a_Layout___eq__
  ty_Layout : PySem.W.typeIn K (.ref a_Layout) = some (.type "type")
  a_SpanError : Addr
  mc_SpanError : Value
  g_SpanError : mg "SpanError" = some (.ref a_SpanError)
  fi_SpanError : Addr
  di_SpanError : FuncData
  rd_SpanError : ClX.CRead K a_SpanError mc_SpanError
  ci_SpanError : PySem.W.findCls K (.ref a_SpanError) mc_SpanError "__init__" = some (.val (.ref fi_SpanError))
  ki_SpanError : PySem.W.keepIn K (.ref fi_SpanError) = true
  fn_SpanError : Fun K "__init__" "SpanError.__init__" s_SpanError fi_SpanError di_SpanError
  nb_SpanError : Binds K di_SpanError ["self", "word", "message"] []
  mV : mg "ValueError" = none
  vV : PySem.W.findCls K (.type "ValueError") (.type "type") "__init__" = some (.val (.builtin "ValueError.__init__"))
  a_BadPieces : Addr
  fi_BadPieces : Addr
  di_BadPieces : FuncData
  g_BadPieces : mg "BadPieces" = some (.ref a_BadPieces)
  oc_BadPieces : OexC K a_BadPieces
  xc_BadPieces : XcC K a_BadPieces
  em_BadPieces : PySem.W.exmOne K (.ref a_BadPieces) (.ref a_SpanError) = some true
  in_BadPieces : PySem.W.findIn K (.ref a_BadPieces) "__init__" = some (some (.ref fi_BadPieces))
  ti_BadPieces : PySem.W.typeIn K (.ref fi_BadPieces) = some (.type "function")
  fn_BadPieces : Fun K "__init__" "BadPieces.__init__" s_BadPieces fi_BadPieces di_BadPieces
  nb_BadPieces : Binds K di_BadPieces ["self", "at"] []
  a_TooManyPieces : Addr
  fi_TooManyPieces : Addr
  di_TooManyPieces : FuncData
  g_TooManyPieces : mg "TooManyPieces" = some (.ref a_TooManyPieces)
  oc_TooManyPieces : OexC K a_TooManyPieces
  xc_TooManyPieces : XcC K a_TooManyPieces
  em_TooManyPieces : PySem.W.exmOne K (.ref a_TooManyPieces) (.ref a_SpanError) = some true
  in_TooManyPieces : PySem.W.findIn K (.ref a_TooManyPieces) "__init__" = some (some (.ref fi_TooManyPieces))
  ti_TooManyPieces : PySem.W.typeIn K (.ref fi_TooManyPieces) = some (.type "function")
  fn_TooManyPieces : Fun K "__init__" "TooManyPieces.__init__" s_TooManyPieces fi_TooManyPieces di_TooManyPieces
  nb_TooManyPieces : Binds K di_TooManyPieces ["self", "most"] []
  a__law_field : Addr
  d__law_field : FuncData
  g__law_field : mg "_law_field" = some (.ref a__law_field)
  p__law_field : PySem.W.keepIn K (.ref a__law_field) = true
  f__law_field : Fun K "_law_field" "_law_field" s__law_field a__law_field d__law_field
  n__law_field : Binds K d__law_field ["_law_e"] []
  a__law_told : Addr
  d__law_told : FuncData
  cd__law_told : Value
  g__law_told : mg "_law_told" = some (.ref a__law_told)
  p__law_told : PySem.W.keepIn K (.ref a__law_told) = true
  fc__law_told : FunC K "_law_told" "_law_told" s__law_told a__law_told d__law_told cd__law_told
  n__law_told : Binds K d__law_told ["_law_ask"] []
  c_law : Addr
  t_law : Addr
  fc_law : FunC K "law" "law" s_law a_law d_law (.ref c_law)
section
variable {P : Program} {w : World} {K : PySem.W.Frag} {mg : Str → Option Value} {base : Heap}
def Txt.cl (T : Txt K mg) : Str → Option Addr := fun x => if x = "law.<locals>.<lambda>" then some T.t_law else if x = "TooManyPieces" then some T.a_TooManyPieces else if x = "BadPieces" then some T.a_BadPieces else if x = "Layout" then some T.a_Layout else none
theorem Txt.cl_Layout (T : Txt K mg) : T.cl "Layout" = some T.a_Layout := rfl
theorem Txt.cl_BadPieces (T : Txt K mg) : T.cl "BadPieces" = some T.a_BadPieces := rfl
theorem Txt.cl_TooManyPieces (T : Txt K mg) : T.cl "TooManyPieces" = some T.a_TooManyPieces := rfl
def Txt.lams (T : Txt K mg) : List (Addr × Str) := [(T.t_law, "law.<locals>.<lambda>")]
theorem Txt.lam (T : Txt K mg) : ∀ q P, lamQ q = true → T.cl q = some P → (P, q) ∈ T.lams := by
  intro q P h e
  unfold Txt.cl at e
  split at e
  · rename_i z; cases e; subst z; exact List.mem_singleton.mpr rfl
  split at e
  · rename_i z; subst z; exact absurd h (by decide +kernel)
  split at e
  · rename_i z; subst z; exact absurd h (by decide +kernel)
  split at e
  · rename_i z; subst z; exact absurd h (by decide +kernel)
  cases e
theorem Txt.lam2 (T : Txt K mg) : ∀ p ∈ T.lams, lamQ p.2 = true ∧ T.cl p.2 = some p.1 := fun p hp => by
  obtain rfl := List.mem_singleton.mp hp
  exact ⟨(by decide +kernel : lamQ "law.<locals>.<lambda>" = true), rfl⟩
theorem Txt.lam3 (T : Txt K mg) : (T.t_law, ("law.<locals>.<lambda>" : Str)) ∈ T.lams := List.mem_singleton.mpr rfl
theorem Txt.lam4 (T : Txt K mg) : ∀ p ∈ T.lams, p.1 = T.t_law → p.2 = ("law.<locals>.<lambda>" : Str) := fun p hp _ => by
  obtain rfl := List.mem_singleton.mp hp
  rfl
theorem sc_SpanError : FnScope ["self", "word", "message"] ["self", "word", "message"] (defScope s_SpanError) := ⟨rfl, rfl, rfl, by decide +kernel, rfl, by decide +kernel, by decide +kernel⟩
theorem okE_SpanError (T : Txt K mg) : FnOk P w K mg base CX0 1 T.fi_SpanError T.di_SpanError ["self", "word", "message"] (spSE K) := by
  refine T.fn_SpanError.ok sc_SpanError (fun vs H Q E ⟨a, C, w, m, e, _⟩ => by rw [e]; rfl) fun cdv A outer s H vs Q E hr ⟨a, C, wd, m, e, o, hw, ha, q⟩ => ⟨_, pss_cons (ps_expr (pe_veinit (by rfl) T.mV T.vV (pa_cons (pv 0) (pa_cons (pv 2) pa_nil)))) (pss_one (ps_ost (pv 0) (pv 1))), ?_⟩
  subst e
  exact ⟨.ref a, rfl, m, rfl, a, C, [m], rfl, by simp, o, ha, .str wd, rfl, .ref a, rfl, a, C, rfl, o, hw, .inl ⟨ha, fun dx hd hn => q dx hd hn⟩⟩
theorem sc_BadPieces : FnScope ["self", "at"] ["self", "at"] (defScope s_BadPieces) := ⟨rfl, rfl, rfl, by decide +kernel, rfl, by decide +kernel, by decide +kernel⟩
theorem okE_BadPieces (T : Txt K mg) : FnOk P w K mg base CX0 2 T.fi_BadPieces T.di_BadPieces ["self", "at"] (spE1 T.a_BadPieces "BadPieces" "at" okInt) := by
  refine T.fn_BadPieces.ok sc_BadPieces (fun vs H Q E ⟨a, x, e, _⟩ => by rw [e]; rfl) fun cdv A outer s H vs Q E hr ⟨a, x, e, ha, ⟨i, ei, hi⟩, q⟩ => ⟨_, pss_cons (ps_expr (pe_cfn (pe_glob (v := .ref T.a_SpanError) rfl T.g_SpanError rfl) T.rd_SpanError T.ci_SpanError T.ki_SpanError (okE_SpanError T) hr T.nb_SpanError (E := E0) pass0 (pa_cons (pv 0) (pa_cons pe_str (pa_cons (pe_joined (.cons pe_str (.cons (pe_fmt (pv 1)) .nil))) pa_nil))))) (pss_one (ps_ost (pv 0) (pv 1))), ?_⟩
  subst e ei
  have hl := int_text_len_1921 hi
  exact ⟨rfl, .ref a, rfl, _, rfl, line_of (by decide +kernel), .int i, rfl, .inr ⟨i, rfl, hi, _, rfl, msg2 (by decide +kernel) hl, a, T.a_BadPieces, _, _, rfl, T.oc_BadPieces, T.xc_BadPieces.no "word" (by simp [xNames]), ha, fun dx hd hn => ⟨.int i, rfl, .ref a, rfl, a, T.a_BadPieces, rfl, T.oc_BadPieces, T.xc_BadPieces.no "at" (by simp [xNames]), .inr ⟨dx, _, upd_same, (upd_ne hn).trans upd_same, by simp, q dx hd hn⟩⟩⟩⟩
theorem sc_TooManyPieces : FnScope ["self", "most"] ["self", "most"] (defScope s_TooManyPieces) := ⟨rfl, rfl, rfl, by decide +kernel, rfl, by decide +kernel, by decide +kernel⟩
theorem okE_TooManyPieces (T : Txt K mg) : FnOk P w K mg base CX0 2 T.fi_TooManyPieces T.di_TooManyPieces ["self", "most"] (spE1 T.a_TooManyPieces "TooManyPieces" "most" okInt) := by
  refine T.fn_TooManyPieces.ok sc_TooManyPieces (fun vs H Q E ⟨a, x, e, _⟩ => by rw [e]; rfl) fun cdv A outer s H vs Q E hr ⟨a, x, e, ha, ⟨i, ei, hi⟩, q⟩ => ⟨_, pss_cons (ps_expr (pe_cfn (pe_glob (v := .ref T.a_SpanError) rfl T.g_SpanError rfl) T.rd_SpanError T.ci_SpanError T.ki_SpanError (okE_SpanError T) hr T.nb_SpanError (E := E0) pass0 (pa_cons (pv 0) (pa_cons pe_str (pa_cons (pe_joined (.cons pe_str (.cons (pe_fmt (pv 1)) (.cons pe_str .nil)))) pa_nil))))) (pss_one (ps_ost (pv 0) (pv 1))), ?_⟩
  subst e ei
  have hl := int_text_len_1921 hi
  exact ⟨rfl, .ref a, rfl, _, rfl, line_of (by decide +kernel), .int i, rfl, .inr ⟨i, rfl, hi, _, rfl, msg2 (by decide +kernel) hl, _, rfl, msg3 (by decide +kernel) hl (by decide +kernel), a, T.a_TooManyPieces, _, _, rfl, T.oc_TooManyPieces, T.xc_TooManyPieces.no "word" (by simp [xNames]), ha, fun dx hd hn => ⟨.int i, rfl, .ref a, rfl, a, T.a_TooManyPieces, rfl, T.oc_TooManyPieces, T.xc_TooManyPieces.no "most" (by simp [xNames]), .inr ⟨dx, _, upd_same, (upd_ne hn).trans upd_same, by simp, q dx hd hn⟩⟩⟩⟩
theorem Txt.hx (T : Txt K mg) : ∀ c ∈ (["BadPieces", "TooManyPieces"] : List Str), ∀ C, T.cl c = some C → XcC K C ∧ PySem.W.exmOne K (.ref C) (.ref T.a_SpanError) = some true := fun c hc C e => by
  rcases List.mem_cons.mp hc with z | hc
  · subst z; cases e.symm.trans (T.cl_BadPieces); exact ⟨T.xc_BadPieces, T.em_BadPieces⟩
  rcases List.mem_cons.mp hc with z | hc
  · subst z; cases e.symm.trans (T.cl_TooManyPieces); exact ⟨T.xc_TooManyPieces, T.em_TooManyPieces⟩
  cases hc
theorem sc__law_field : FnScope ["_law_e"] ["_law_e"] (defScope s__law_field) := ⟨rfl, rfl, rfl, by decide +kernel, rfl, by decide +kernel, by decide +kernel⟩
theorem xn (n : Str) (h : n ∈ xNames := by simp [xNames]) : n ∈ xNames := h
theorem ok__law_field {P : Program} {w : World} {K : PySem.W.Frag} {mg : Str → Option Value} {base : Heap} {cl : Str → Option Addr} {f : Addr} {fd : FuncData} (F : Fun K "_law_field" "_law_field" s__law_field f fd) : FnP P w K mg base 1 f fd ["_law_e"] (spF ⟨K, cl⟩) := by
  refine fnP_of F sc__law_field (fun p vs H Q E ⟨C, dd, e, us, ρ, M, w, d, ev, _⟩ => by rw [ev]; rfl) fun cdv A outer s H vs Q E p hr ⟨C, dd, e, us, ρ, M, wd, d, ev, hz, hf, hX, x0, hw, hd, hQ⟩ => ?_
  subst ev
  have hp : p ∈ (L2H.cxH CX0 P w K mg base ["_law_e"] "_law_field" (defScope s__law_field) f cdv A outer s H E p).pn := List.mem_cons_self
  have at_ : ∀ (n : Str) (hn : n ∈ xNames) {pos ap : Pos}, PE (L2H.cxH CX0 P w K mg base ["_law_e"] "_law_field" (defScope s__law_field) f cdv A outer s H E p) (.Attribute (.Name "_law_e" ap) n pos) (tXf p.1 (.ref C) (some dd) C n (tVar 0)) := fun n hn {pos ap} => pe_xfP hp hX.xf (hX.no n hn) hz hf (pv 0)
  refine ⟨_, pss_cons (ps_if (pt_cmpR op_in_seq (at_ "word" (xn _)) (pe_tup (pa_cons pe_str (pa_cons pe_str pa_nil))) rfl) (pss_one (ps_ret (at_ "number" (xn _)))) pss_nil)
    (pss_cons (ps_if (pt_cmpR op_in_seq (at_ "word" (xn _)) (pe_tup (pa_cons pe_str (pa_cons pe_str (pa_cons pe_str (pa_cons pe_str pa_nil))))) rfl) (pss_one (ps_ret (at_ "at" (xn _)))) pss_nil)
    (pss_cons (ps_if (pt_cmpR op_in_seq (at_ "word" (xn _)) (pe_tup (pa_cons pe_str (pa_cons pe_str pa_nil))) rfl) (pss_one (ps_ret (at_ "name" (xn _)))) pss_nil)
    (pss_cons (ps_if (pt_cmpR op_in_seq (at_ "word" (xn _)) (pe_tup (pa_cons pe_str (pa_cons pe_str pa_nil))) rfl) (pss_one (ps_ret (at_ "cell" (xn _)))) pss_nil)
    (pss_cons (ps_if (pt_cmpR op_in_seq (at_ "word" (xn _)) (pe_tup (pa_cons pe_str (pa_cons pe_str pa_nil))) rfl) (pss_one (ps_ret (at_ "most" (xn _)))) pss_nil)
    (pss_one (ps_ret (pe_ifExp (pt_cmpR (op := .Eq) op_eq (at_ "word" (xn _)) pe_str (nomark _)) (pe_tup (pa_cons (at_ "label" (xn _)) (pa_cons (at_ "other" (xn _)) pa_nil))) pe_non))))))), ?_⟩
  obtain ⟨vw, hvw, rw_⟩ := x0.at hw
  cases rw_
  have one : ∀ {H' : Hp} {n : Str} {d' : D}, ExS ⟨K, cl⟩ H' ρ M e dd us → Ext ⟨K, cl⟩ H ρ H' ρ → e.at n = some d' → d' = d → tXf p.1 (.ref C) (some dd) C n (tVar 0) (L2.start ["_law_e"] [.ref p.1]) H' Q := fun {H' n d'} x' ex hn ed => by
    subst ed
    obtain ⟨v, hv, r⟩ := x'.at hn
    exact xf_q rfl x'.xd hv (hQ ρ v H' ex x'.rs r)
  unfold fieldD at hd
  refine in_q ["BadRow", "BadCount"] rfl x0.xd hvw (by decide) fun q1 n1 => ?_
  have x1 := x0.new (o := .tup ((["BadRow", "BadCount"] : List Str).map V.str)) n1
  have e1 := Ext.new (o := .tup ((["BadRow", "BadCount"] : List Str).map V.str)) x0.rs n1
  by_cases c1 : wd = "BadRow" ∨ wd = "BadCount"
  · rw [if_pos c1] at hd
    rw [if_pos (by simpa using c1)]
    exact one x1 e1 hd rfl
  rw [if_neg c1] at hd
  rw [if_neg (by simpa using c1)]
  refine in_q ["BadPieces", "BadCommand", "BadDeed", "BadText"] rfl x1.xd hvw (by decide) fun q2 n2 => ?_
  have x2 := x1.new (o := .tup ((["BadPieces", "BadCommand", "BadDeed", "BadText"] : List Str).map V.str)) n2
  have e2 := e1.trans (Ext.new (o := .tup ((["BadPieces", "BadCommand", "BadDeed", "BadText"] : List Str).map V.str)) x1.rs n2)
  by_cases c2 : wd = "BadPieces" ∨ wd = "BadCommand" ∨ wd = "BadDeed" ∨ wd = "BadText"
  · rw [if_pos c2] at hd
    rw [if_pos (by simpa using c2)]
    exact one x2 e2 hd rfl
  rw [if_neg c2] at hd
  rw [if_neg (by simpa using c2)]
  refine in_q ["BadName", "Taken"] rfl x2.xd hvw (by decide) fun q3 n3 => ?_
  have x3 := x2.new (o := .tup ((["BadName", "Taken"] : List Str).map V.str)) n3
  have e3 := e2.trans (Ext.new (o := .tup ((["BadName", "Taken"] : List Str).map V.str)) x2.rs n3)
  by_cases c3 : wd = "BadName" ∨ wd = "Taken"
  · rw [if_pos c3] at hd
    rw [if_pos (by simpa using c3)]
    exact one x3 e3 hd rfl
  rw [if_neg c3] at hd
  rw [if_neg (by simpa using c3)]
  refine in_q ["Gone", "Ring"] rfl x3.xd hvw (by decide) fun q4 n4 => ?_
  have x4 := x3.new (o := .tup ((["Gone", "Ring"] : List Str).map V.str)) n4
  have e4 := e3.trans (Ext.new (o := .tup ((["Gone", "Ring"] : List Str).map V.str)) x3.rs n4)
  by_cases c4 : wd = "Gone" ∨ wd = "Ring"
  · rw [if_pos c4] at hd
    rw [if_pos (by simpa using c4)]
    exact one x4 e4 hd rfl
  rw [if_neg c4] at hd
  rw [if_neg (by simpa using c4)]
  refine in_q ["TooManyPieces", "Full"] rfl x4.xd hvw (by decide) fun q5 n5 => ?_
  have x5 := x4.new (o := .tup ((["TooManyPieces", "Full"] : List Str).map V.str)) n5
  have e5 := e4.trans (Ext.new (o := .tup ((["TooManyPieces", "Full"] : List Str).map V.str)) x4.rs n5)
  by_cases c5 : wd = "TooManyPieces" ∨ wd = "Full"
  · rw [if_pos c5] at hd
    rw [if_pos (by simpa using c5)]
    exact one x5 e5 hd rfl
  rw [if_neg c5] at hd
  rw [if_neg (by simpa using c5)]
  unfold tNext
  simp only
  unfold tRet tIf tTest tOp
  refine xf_q rfl x5.xd hvw ?_
  refine ⟨rfl, _, rfl, ?_⟩
  by_cases c6 : wd = "Clash"
  · rw [if_pos c6] at hd
    rw [if_pos (by simpa using c6)]
    split at hd
    · rename_i a b ha hb
      cases hd
      obtain ⟨va, hva, ra⟩ := x5.at ha
      obtain ⟨vb, hvb, rb⟩ := x5.at hb
      unfold tTup tCons
      refine xf_q rfl x5.xd hva ?_
      refine xf_q rfl x5.xd hvb ?_
      refine ⟨line_of (by simp), fun q hq => ?_⟩
      have en := Ext.new (o := .tup [va, vb]) x5.rs hq
      exact hQ ρ _ _ (e5.trans en) (x5.rs.new hq) (.tup (SqT.of upd_same) (.two (ra.mono en) (rb.mono en)))
    · cases hd
  · rw [if_neg c6] at hd
    rw [if_neg (by simpa using c6)]
    cases hd
    exact hQ ρ .non _ e5 x5.rs .non
theorem sc__law_told : FnScope ["_law_ask", "_law_e"] ["_law_ask"] (defScope s__law_told) := ⟨rfl, rfl, rfl, by decide +kernel, rfl, by decide +kernel, by decide +kernel⟩
theorem gives_told {X : Cx} {cl : Str → Option Addr} {g SE fF : Addr} {fd : FuncData} {cdg : Value} {q : Str} (hr : Room 3 X.A) (gF : X.mg "_law_field" = some (.ref fF)) (F : Fun X.K "_law_field" "_law_field" s__law_field fF fd) (kF : PySem.W.keepIn X.K (.ref fF) = true) (nF : Binds X.K fd ["_law_e"] []) (gS : X.mg "SpanError" = some (.ref SE)) :
    LamX.GivesTo X ["_law_ask", "_law_e"] "_law_told" (defScope s__law_told) g cdg (defBody s__law_told) "_law_ask" q (TTold2 (gx X cl) SE) := by
  intro f c' s H Q tl act hc h
  refine ⟨_, pss_one (ps_try_first (X := (cxOf C8.CX0 X.prog X.w X.K X.mg X.base ["_law_ask", "_law_e"] "_law_told" (defScope s__law_told) g cdg X.A X.stack s H C8.E0).nox) (c := .ref SE) (i := 1)
    (tb := fun W D σ H => ∃ Ech : XK, (∀ cls d σ' H', Ech cls d H' → W cls d σ' H') ∧ σ[0]? = some (some (.ref f)) ∧ H c' = some (LamX.CodeO c' q) ∧ tl Ech H fun v H1 => ([V.str "told", v].length ≤ sizeLine ∧ ∀ p, H1 p = none → D.rt (.ref p) (upd H1 p (.tup [.str "told", v]))))
    (ts := fun a cls d D σ H => ∃ C dd, cls = .ref C ∧ d = some dd ∧ XcC X.K C ∧ ∀ oe : Obj, Zc (.ref C) (some dd) oe → (∃ vs, oe.data = .fields vs) → tRet (tTup (tCons (tXf a (.ref C) (some dd) C "word" (tVar 1)) (tCons (fun σ H Q => tCons (tVar 1) tNil σ H fun vs H1 => spF (gx X cl) (a, oe) vs H1 Q E0) tNil))) D σ H)
    rfl rfl (show ([Str.ofString "_law_ask", Str.ofString "_law_e"] : List Str).Nodup by decide +kernel) rfl rfl ⟨rfl, by decide, .inl gS⟩ (fun W pn xe tk => ?_) (fun a oe cls d pn hz hf => ?_)), ?_⟩
  · refine ⟨fun pins s' σ H' D I h' => ?_⟩
    obtain ⟨Ech, hW, h1, h2, h3⟩ := h'
    exact (pss_one (ps_ret (pe_tup (pa_cons pe_str (pa_cons (act W pn xe Ech _ _ tk hW) pa_nil))))).run pins s' σ H' D I ⟨h1, h2, h3⟩
  · refine ⟨fun pins s' σ H' D I h' => ?_⟩
    obtain ⟨C, dd, rfl, rfl, hX, h'⟩ := h'
    have hp : (a, oe) ∈ (Cx.suite (cxOf C8.CX0 X.prog X.w X.K X.mg X.base ["_law_ask", "_law_e"] "_law_told" (defScope s__law_told) g cdg X.A X.stack s H C8.E0).nox a ((a, oe) :: pn)).pn := List.mem_cons_self
    have r2 := hr.deeper (envOfC "_law_told" (defScope s__law_told) s.heap.objs.size g cdg)
    exact (pss_one (ps_ret (pe_tup (pa_cons (pe_xfP hp hX.xf (hX.no "word" (xn _)) hz hf (pv 1)) (pa_cons (pe_callP (k := 1) (x := "_law_field") hp (ok__law_field (cl := cl) F) ⟨(r2.mono (j := 1) (by omega)).dp, (r2.mono (j := 1) (by omega)).un⟩ rfl gF kF nF (pa_cons (pv 1) pa_nil)) pa_nil))))).run pins s' σ H' D I (h' oe hz hf)
  · refine ⟨EchT (gx X cl) SE Q, fun cls d σ' H' ⟨C, dd, e, us, ρ, M, wd, d', ec, ed, hX, hm, hS, hw, hd, hQ⟩ => ?_, rfl, hc, ?_⟩
    · subst ec ed
      refine ⟨hm, fun hσ a na => ⟨C, dd, rfl, rfl, hX, fun oe hz hf => ?_⟩⟩
      obtain ⟨v, hv, rv⟩ := hS.at hw
      cases rv
      have h1 : (σ'.set 1 (some (.ref a)))[1]? = some (some (V.ref a)) := List.getElem?_set_self hσ
      unfold tRet tTup tCons
      refine xf_qi h1 hS.xd hv ⟨.ref a, h1, C, dd, e, us, ρ, M, wd, d', rfl, hz, hf, hX, hS, hw, hd, fun ρ' v' H1 x S' r => ⟨line_of (by simp), fun p hp => ?_⟩⟩
      have en := Ext.new (o := .tup [.str wd, v']) S' hp
      exact hQ ρ' (.ref p) _ (x.trans en) (S'.new hp) (.tup (SqT.of upd_same) (.two (.str _) (r.mono en)))
    · exact h

theorem sc__law_bag : FnScope ["_law_script", "_law_mix", "_law_figure"] ["_law_script"] (defScope s__law_bag) := ⟨rfl, rfl, rfl, by decide +kernel, rfl, by decide +kernel, by decide +kernel⟩
def B__law_bag : DS := (dSeq (dSet 1 (dC (.int 3804)))
      (dSeq (dForS (tgName 2) (dIter2 (dSl (dVar 0) dNoPart (dPart (dC (.int 63))))) (dSet 1 (dBin gMod (dBin gAdd (dBin gAdd (dBin gMul (dVar 1) (dC (.int 39373))) (dBin gMod (dVar 2) (dC (.int 2147483563)))) (dC (.int 29))) (dC (.int 2147483563)))))
      (dRet (dLstC (dConsA (dCallB gList (dConsA (dSl (dVar 0) dNoPart (dPart (dC (.int 63)))) dNilA)) (dConsA (dC (.int 0)) (dConsA (dC (.int 0)) (dConsA (dVar 1) (dConsA (dC (.int 0)) dNilA)))))))))
def F__law_bag : DF := (runF 3 1 B__law_bag)
theorem ok__law_bag (T : Txt K mg) : FnOk P w K mg base CX0 1 T.a__law_bag T.d__law_bag ["_law_script"] (spD ⟨K, T.cl⟩ F__law_bag) :=
  fnok T.f__law_bag sc__law_bag fun cdv A outer s H E hr =>
    (ss_cons (ss_let 1 sc__law_bag.nd se_int)
      (ss_cons (ss_forS PassesOwn.never rfl (si2_iter (se_slice (se_v 0) so_none (so_some se_int))) (sg_v 2 sc__law_bag.nd) (ss_one (ss_let 1 sc__law_bag.nd (se_mod (se_add (se_add (se_mul (se_v 1) se_int) (se_mod (se_v 2) se_int)) se_int) se_int))))
      (ss_one (ss_ret (se_lstC (sa_cons (se_callTy call_list_of cs_list rfl T.b_list (by decide +kernel) (sa_cons (se_slice (se_v 0) so_none (so_some se_int)) sa_nil)) (sa_cons se_int (sa_cons se_int (sa_cons (se_v 1) (sa_cons se_int sa_nil))))))))))
theorem sc__law_pull : FnScope ["_law_bag_here", "_law_size", "_law_mix", "_law_figure", "_law_found"] ["_law_bag_here", "_law_size"] (defScope s__law_pull) := ⟨rfl, rfl, rfl, by decide +kernel, rfl, by decide +kernel, by decide +kernel⟩
def B__law_pull : DS := (dSeq (dSetIx (dVar 0) (dC (.int 4)) (dBin gAdd (dBin gIx (dVar 0) (dC (.int 4))) (dC (.int 1))))
      (dSeq (dIf (dAnd (dB (dBin (gEq false) (dBin gIx (dVar 0) (dC (.int 2))) (dC (.int 0)))) (dB (dBin gLt (dBin gIx (dVar 0) (dC (.int 1))) (dCallB gLen (dConsA (dBin gIx (dVar 0) (dC (.int 0))) dNilA))))) (dSeq (dSet 3 (dBin gIx (dBin gIx (dVar 0) (dC (.int 0))) (dBin gIx (dVar 0) (dC (.int 1)))))
      (dSeq (dSetIx (dVar 0) (dC (.int 1)) (dBin gAdd (dBin gIx (dVar 0) (dC (.int 1))) (dC (.int 1))))
      (dIf (dB (dBin gGe (dVar 3) (dBin gPow (dC (.int 10)) (dC (.int 18))))) (dSetIx (dVar 0) (dC (.int 2)) (dVar 3)) (dSeq (dSet 2 (dBin gAdd (dBin gMul (dBin gIx (dVar 0) (dC (.int 3))) (dC (.int 48271))) (dBin gMul (dBin gMod (dVar 3) (dC (.int 2147483563))) (dC (.int 69621)))))
      (dSetIx (dVar 0) (dC (.int 3)) (dBin gMod (dBin gAdd (dVar 2) (dC (.int 11))) (dC (.int 2147483563)))))))) dSkip)
      (dSeq (dIf (dB (dBin gGt (dBin gIx (dVar 0) (dC (.int 2))) (dC (.int 0)))) (dSeq (dSet 4 (dBin gMod (dBin gIx (dVar 0) (dC (.int 2))) (dVar 1)))
      (dSeq (dSetIx (dVar 0) (dC (.int 2)) (dBin gDiv (dBin gIx (dVar 0) (dC (.int 2))) (dVar 1)))
      (dRet (dVar 4)))) dSkip)
      (dSeq (dSet 2 (dBin gAdd (dBin gMul (dBin gMul (dBin gIx (dVar 0) (dC (.int 3))) (dBin gIx (dVar 0) (dC (.int 3)))) (dC (.int 5))) (dBin gMul (dBin gIx (dVar 0) (dC (.int 3))) (dC (.int 39373)))))
      (dSeq (dSetIx (dVar 0) (dC (.int 3)) (dBin gMod (dBin gAdd (dVar 2) (dBin gMul (dC (.int 1013904223)) (dBin gIx (dVar 0) (dC (.int 4))))) (dC (.int 2147483563))))
      (dRet (dBin gMod (dBin gDiv (dBin gIx (dVar 0) (dC (.int 3))) (dC (.int 37))) (dVar 1))))))))
def F__law_pull : DF := (runF 5 2 B__law_pull)
theorem ok__law_pull (T : Txt K mg) : FnOk P w K mg base CX0 1 T.a__law_pull T.d__law_pull ["_law_bag_here", "_law_size"] (spD ⟨K, T.cl⟩ F__law_pull) :=
  fnok T.f__law_pull sc__law_pull fun cdv A outer s H E hr =>
    (ss_cons (ss_setIx (se_v 0) se_int (se_add (se_at (se_v 0) se_int) se_int) (pg_sub (se_v 0) se_int set_list))
      (ss_cons (ss_if (SW.st (sw_and (st_eq hr (se_at (se_v 0) se_int) se_int) (sw_and1 (st_lt (se_at (se_v 0) se_int) (se_callB call_len_seq cs_len rfl T.b_len (by decide +kernel) (sa_cons (se_at (se_v 0) se_int) sa_nil)))))) (ss_cons (ss_let 3 sc__law_pull.nd (se_at (se_at (se_v 0) se_int) (se_at (se_v 0) se_int)))
      (ss_cons (ss_setIx (se_v 0) se_int (se_add (se_at (se_v 0) se_int) se_int) (pg_sub (se_v 0) se_int set_list))
      (ss_one (ss_if (st_ge (se_v 3) (se_pow se_int se_int)) (ss_one (ss_setIx (se_v 0) se_int (se_v 3) (pg_sub (se_v 0) se_int set_list))) (ss_cons (ss_let 2 sc__law_pull.nd (se_add (se_mul (se_at (se_v 0) se_int) se_int) (se_mul (se_mod (se_v 3) se_int) se_int)))
      (ss_one (ss_setIx (se_v 0) se_int (se_mod (se_add (se_v 2) se_int) se_int) (pg_sub (se_v 0) se_int set_list)))))))) ss_nil)
      (ss_cons (ss_if (st_gt (se_at (se_v 0) se_int) se_int) (ss_cons (ss_let 4 sc__law_pull.nd (se_mod (se_at (se_v 0) se_int) (se_v 1)))
      (ss_cons (ss_setIx (se_v 0) se_int (se_div (se_at (se_v 0) se_int) (se_v 1)) (pg_sub (se_v 0) se_int set_list))
      (ss_one (ss_ret (se_v 4))))) ss_nil)
      (ss_cons (ss_let 2 sc__law_pull.nd (se_add (se_mul (se_mul (se_at (se_v 0) se_int) (se_at (se_v 0) se_int)) se_int) (se_mul (se_at (se_v 0) se_int) se_int)))
      (ss_cons (ss_setIx (se_v 0) se_int (se_mod (se_add (se_v 2) (se_mul se_int (se_at (se_v 0) se_int))) se_int) (pg_sub (se_v 0) se_int set_list))
      (ss_one (ss_ret (se_mod (se_div (se_at (se_v 0) se_int) se_int) (se_v 1)))))))))
theorem sc__law_long_pieces : FnScope ["_law_many", "_law_wide", "_law_found", "_law_k"] ["_law_many", "_law_wide"] (defScope s__law_long_pieces) := ⟨rfl, rfl, rfl, by decide +kernel, rfl, by decide +kernel, by decide +kernel⟩
def B__law_long_pieces : DS := (dSeq (dSet 2 (dLc [3] (tgName 3) (dRng1 (dConsA (dBin Ip.gSub (dVar 0) (dC (.int 1))) dNilA)) dYes (dTup (dConsA (dC (.str "old")) (dConsA (dBin gMul (dVar 3) (dVar 1)) (dConsA (dBin gMul (dVar 3) (dVar 1)) dNilA))))))
      (dRet (dBin gAdd (dVar 2) (dLst (dConsA (dTup (dConsA (dC (.str "old")) (dConsA (dBin gMul (dBin Ip.gSub (dVar 0) (dC (.int 1))) (dVar 1)) (dConsA (dC .non) dNilA)))) dNilA)))))
def F__law_long_pieces : DF := (runF 4 2 B__law_long_pieces)
theorem ok__law_long_pieces (T : Txt K mg) : FnOk P w K mg base CX0 1 T.a__law_long_pieces T.d__law_long_pieces ["_law_many", "_law_wide"] (spD ⟨K, T.cl⟩ F__law_long_pieces) :=
  fnok T.f__law_long_pieces sc__law_long_pieces fun cdv A outer s H E hr =>
    (ss_cons (ss_setLc (i := 2) (own := [("_law_k", 3)]) rfl sc__law_long_pieces.nd rfl rfl (sw_true rfl rfl rfl (by decide +kernel)) (si_range1 rfl T.b_range (sa_cons (se_sub (se_v 0) se_int) sa_nil)) (blkOk_by (N := ["_law_many", "_law_wide", "_law_found", "_law_k"]) (sc := defScope s__law_long_pieces) (by decide +kernel)) (fun _ _ _ _ _ => pg_name (i := 3) sc__law_long_pieces.nd rfl (Or.inl rfl)) (tgok_name (by decide)) (fun _ _ _ _ _ => pts_yes) (fun _ _ _ _ _ => (se_tup (sa_cons se_str (sa_cons (se_mul (se_v 3) (se_v 1)) (sa_cons (se_mul (se_v 3) (se_v 1)) sa_nil))))))
      (ss_one (ss_ret (se_add (se_v 2) (se_lst (sa_cons (se_tup (sa_cons se_str (sa_cons (se_mul (se_sub (se_v 0) se_int) (se_v 1)) (sa_cons se_non sa_nil)))) sa_nil))))))
theorem sc_Layout___len__ : FnScope ["self"] ["self"] (defScope s_Layout___len__) := ⟨rfl, rfl, rfl, by decide +kernel, rfl, by decide +kernel, by decide +kernel⟩
def B_Layout___len__ : DS := (dRet (dCallB gLen (dConsA (dFld "Layout" "parts" (dVar 0)) dNilA)))
def F_Layout___len__ : DF := (runF 1 1 B_Layout___len__)
theorem ok_Layout___len__ (T : Txt K mg) : FnOk P w K mg base CX0 1 T.a_Layout___len__ T.d_Layout___len__ ["self"] (spD ⟨K, T.cl⟩ F_Layout___len__) :=
  fnok T.f_Layout___len__ sc_Layout___len__ fun cdv A outer s H E hr =>
    (ss_one (ss_ret (se_callB call_len_seq cs_len rfl T.b_len (by decide +kernel) (sa_cons (se_fld (T.cl_Layout) T.k_Layout T.na_Layout_parts (se_v 0)) sa_nil))))
theorem sc_is_number : FnScope ["value"] ["value"] (defScope s_is_number) := ⟨rfl, rfl, rfl, by decide +kernel, rfl, by decide +kernel, by decide +kernel⟩
def B_is_number : DS := (dRet (dAndV (dUn (gIsi "int") (dVar 0)) (dNotV (dUn (gIsi "bool") (dVar 0)))))
def F_is_number : DF := (runF 1 1 B_is_number)
theorem ok_is_number (T : Txt K mg) : FnOk P w K mg base CX0 1 T.a_is_number T.d_is_number ["value"] (spD ⟨K, T.cl⟩ F_is_number) :=
  fnok T.f_is_number sc_is_number fun cdv A outer s H E hr =>
    (ss_one (ss_ret (se_and (se_isi (T := "int") rfl T.b_isinstance rfl T.b_int (by decide +kernel) (se_v 0)) (se_one (se_not (se_isi (T := "bool") rfl T.b_isinstance rfl T.b_bool (by decide +kernel) (se_v 0)))))))
theorem sc_are_numbers : FnScope ["values", "many", "value"] ["values", "many"] (defScope s_are_numbers) := ⟨rfl, rfl, rfl, by decide +kernel, rfl, by decide +kernel, by decide +kernel⟩
def B_are_numbers : DS := (dRet (dAndV (dBin (gEq false) (dCallB gLen (dConsA (dVar 0) dNilA)) (dVar 1)) (dCallB gAll (dConsA (dLc [2] (tgName 2) (dIter (dVar 0)) dYes (dCall F_is_number (dConsA (dVar 2) dNilA))) dNilA))))
def F_are_numbers : DF := (runF 3 2 B_are_numbers)
theorem ok_are_numbers (T : Txt K mg) : FnOk P w K mg base CX0 2 T.a_are_numbers T.d_are_numbers ["values", "many"] (spD ⟨K, T.cl⟩ F_are_numbers) :=
  fnok T.f_are_numbers sc_are_numbers fun cdv A outer s H E hr =>
    (ss_one (ss_ret (se_and (se_eq hr (se_callB call_len_seq cs_len rfl T.b_len (by decide +kernel) (sa_cons (se_v 0) sa_nil)) (se_v 1)) (se_one (se_callB (cr_all rfl) cs_all rfl T.b_all (by decide +kernel) (sa_cons (se_lc (own := [("value", 2)]) rfl sc_are_numbers.nd (si_iter (se_v 0)) (blkOk_by (N := ["values", "many", "value"]) (sc := defScope s_are_numbers) (by decide +kernel)) (fun _ _ _ _ _ => pg_name (i := 2) sc_are_numbers.nd rfl (Or.inl rfl)) (tgok_name (by decide)) (fun _ _ _ _ _ => pts_yes) (fun _ _ _ _ _ => (se_call (ok_is_number T) (hr.mono (by decide)) rfl T.g_is_number T.p_is_number T.n_is_number (sa_cons (se_v 2) sa_nil)))) sa_nil))))))
theorem sc_is_range : FnScope ["pair", "first", "last"] ["pair"] (defScope s_is_range) := ⟨rfl, rfl, rfl, by decide +kernel, rfl, by decide +kernel, by decide +kernel⟩
def B_is_range : DS := (dSeq (dIf (dOr (dNot (dTru (dUn (gIsi "tuple") (dVar 0)))) (dB (dBin (gEq true) (dCallB gLen (dConsA (dVar 0) dNilA)) (dC (.int 2))))) (dRet (dC (.bl false))) dSkip)
      (dSeq (dAsg (tgTup [1, 2]) (dVar 0))
      (dSeq (dIf (dOr (dNot (dTru (dCall F_is_number (dConsA (dVar 1) dNilA)))) (dB (dBin gLt (dVar 1) (dC (.int 0))))) (dRet (dC (.bl false))) dSkip)
      (dRet (dOrV (dBin (gIs false) (dVar 2) (dC .non)) (dAndV (dCall F_is_number (dConsA (dVar 2) dNilA)) (dBin gLe (dVar 1) (dVar 2))))))))
def F_is_range : DF := (runF 3 1 B_is_range)
theorem ok_is_range (T : Txt K mg) : FnOk P w K mg base CX0 2 T.a_is_range T.d_is_range ["pair"] (spD ⟨K, T.cl⟩ F_is_range) :=
  fnok T.f_is_range sc_is_range fun cdv A outer s H E hr =>
    (ss_cons (ss_if (SW.st (sw_or (st_not (st_val (se_isi (T := "tuple") rfl T.b_isinstance rfl T.b_tuple (by decide +kernel) (se_v 0)))) (sw_or1 (st_ne hr (se_callB call_len_seq cs_len rfl T.b_len (by decide +kernel) (sa_cons (se_v 0) sa_nil)) se_int)))) (ss_one (ss_ret se_bl)) ss_nil)
      (ss_cons (ss_asg (se_v 0) (sg_tup (is := [1, 2]) rfl (pgs_cons (pg_name (i := 1) sc_is_range.nd rfl (by first | exact Or.inl rfl | exact Or.inr rfl)) (pgs_cons (pg_name (i := 2) sc_is_range.nd rfl (by first | exact Or.inl rfl | exact Or.inr rfl)) pgs_nil)) rfl))
      (ss_cons (ss_if (SW.st (sw_or (st_not (st_val (se_call (ok_is_number T) (hr.mono (by decide)) rfl T.g_is_number T.p_is_number T.n_is_number (sa_cons (se_v 1) sa_nil)))) (sw_or1 (st_lt (se_v 1) se_int)))) (ss_one (ss_ret se_bl)) ss_nil)
      (ss_one (ss_ret (se_or (se_is (se_v 2) se_non) (se_one (se_and (se_call (ok_is_number T) (hr.mono (by decide)) rfl T.g_is_number T.p_is_number T.n_is_number (sa_cons (se_v 2) sa_nil)) (se_one (se_le (se_v 1) (se_v 2)))))))))))
theorem sc_is_piece : FnScope ["piece", "word", "rest"] ["piece"] (defScope s_is_piece) := ⟨rfl, rfl, rfl, by decide +kernel, rfl, by decide +kernel, by decide +kernel⟩
def B_is_piece : DS := (dSeq (dIf (dOr (dNot (dTru (dUn (gIsi "tuple") (dVar 0)))) (dB (dBin (gEq false) (dCallB gLen (dConsA (dVar 0) dNilA)) (dC (.int 0))))) (dRet (dC (.bl false))) dSkip)
      (dSeq (dPar 1 2 (dConsA (dBin gIx (dVar 0) (dC (.int 0))) (dConsA (dSl (dVar 0) (dPart (dC (.int 1))) dNoPart) dNilA)))
      (dSeq (dIf (dB (dBin (gEq false) (dVar 1) (dC (.str "top")))) (dRet (dAndV (dCall F_are_numbers (dConsA (dVar 2) (dConsA (dC (.int 1)) dNilA))) (dBin gGe (dBin gIx (dVar 2) (dC (.int 0))) (dC (.int 1))))) dSkip)
      (dSeq (dIf (dB (dBin (gEq false) (dVar 1) (dC (.str "old")))) (dRet (dCall F_is_range (dConsA (dVar 2) dNilA))) dSkip)
      (dSeq (dIf (dB (dBin (gEq false) (dVar 1) (dC (.str "new")))) (dRet (dAndV (dCall F_are_numbers (dConsA (dVar 2) (dConsA (dC (.int 3)) dNilA))) (dAndV (dChain gLe gLt (dC (.int 0)) (dBin gIx (dVar 2) (dC (.int 0))) (dBin gIx (dVar 2) (dC (.int 1)))) (dBin gGe (dBin gIx (dVar 2) (dC (.int 2))) (dC (.int 1)))))) dSkip)
      (dRet (dC (.bl false))))))))
def F_is_piece : DF := (runF 3 1 B_is_piece)
theorem ok_is_piece (T : Txt K mg) : FnOk P w K mg base CX0 3 T.a_is_piece T.d_is_piece ["piece"] (spD ⟨K, T.cl⟩ F_is_piece) :=
  fnok T.f_is_piece sc_is_piece fun cdv A outer s H E hr =>
    (ss_cons (ss_if (SW.st (sw_or (st_not (st_val (se_isi (T := "tuple") rfl T.b_isinstance rfl T.b_tuple (by decide +kernel) (se_v 0)))) (sw_or1 (st_eq hr (se_callB call_len_seq cs_len rfl T.b_len (by decide +kernel) (sa_cons (se_v 0) sa_nil)) se_int)))) (ss_one (ss_ret se_bl)) ss_nil)
      (ss_cons (ss_par (i := 1) (j := 2) rfl sc_is_piece.nd rfl rfl (by decide) rfl rfl (sa_cons (se_at (se_v 0) se_int) (sa_cons (se_slice (se_v 0) (so_some se_int) so_none) sa_nil)) (by rfl))
      (ss_cons (ss_if (st_eq hr (se_v 1) se_str) (ss_one (ss_ret (se_and (se_call (ok_are_numbers T) (hr.mono (by decide)) rfl T.g_are_numbers T.p_are_numbers T.n_are_numbers (sa_cons (se_v 2) (sa_cons se_int sa_nil))) (se_one (se_ge (se_at (se_v 2) se_int) se_int))))) ss_nil)
      (ss_cons (ss_if (st_eq hr (se_v 1) se_str) (ss_one (ss_ret (se_call (ok_is_range T) (hr.mono (by decide)) rfl T.g_is_range T.p_is_range T.n_is_range (sa_cons (se_v 2) sa_nil)))) ss_nil)
      (ss_cons (ss_if (st_eq hr (se_v 1) se_str) (ss_one (ss_ret (se_and (se_call (ok_are_numbers T) (hr.mono (by decide)) rfl T.g_are_numbers T.p_are_numbers T.n_are_numbers (sa_cons (se_v 2) (sa_cons se_int sa_nil))) (se_and (se_chain op_le ops_intB op_lt ops_intB se_int (se_at (se_v 2) se_int) (se_at (se_v 2) se_int)) (se_one (se_ge (se_at (se_v 2) se_int) se_int)))))) ss_nil)
      (ss_one (ss_ret se_bl)))))))
theorem sc_is_open : FnScope ["piece"] ["piece"] (defScope s_is_open) := ⟨rfl, rfl, rfl, by decide +kernel, rfl, by decide +kernel, by decide +kernel⟩
def B_is_open : DS := (dRet (dAndV (dBin (gEq false) (dBin gIx (dVar 0) (dC (.int 0))) (dC (.str "old"))) (dBin (gIs false) (dBin gIx (dVar 0) (dC (.int 2))) (dC .non))))
def F_is_open : DF := (runF 1 1 B_is_open)
theorem ok_is_open (T : Txt K mg) : FnOk P w K mg base CX0 1 T.a_is_open T.d_is_open ["piece"] (spD ⟨K, T.cl⟩ F_is_open) :=
  fnok T.f_is_open sc_is_open fun cdv A outer s H E hr =>
    (ss_one (ss_ret (se_and (se_eq hr (se_at (se_v 0) se_int) se_str) (se_one (se_is (se_at (se_v 0) se_int) se_non)))))
theorem sc_row_count : FnScope ["piece"] ["piece"] (defScope s_row_count) := ⟨rfl, rfl, rfl, by decide +kernel, rfl, by decide +kernel, by decide +kernel⟩
def B_row_count : DS := (dSeq (dIf (dB (dBin (gEq false) (dBin gIx (dVar 0) (dC (.int 0))) (dC (.str "old")))) (dRet (dBin gAdd (dBin Ip.gSub (dBin gIx (dVar 0) (dC (.int 2))) (dBin gIx (dVar 0) (dC (.int 1)))) (dC (.int 1)))) dSkip)
      (dRet (dBin gIx (dVar 0) (dUn gNeg (dC (.int 1))))))
def F_row_count : DF := (runF 1 1 B_row_count)
theorem ok_row_count (T : Txt K mg) : FnOk P w K mg base CX0 1 T.a_row_count T.d_row_count ["piece"] (spD ⟨K, T.cl⟩ F_row_count) :=
  fnok T.f_row_count sc_row_count fun cdv A outer s H E hr =>
    (ss_cons (ss_if (st_eq hr (se_at (se_v 0) se_int) se_str) (ss_one (ss_ret (se_add (se_sub (se_at (se_v 0) se_int) (se_at (se_v 0) se_int)) se_int))) ss_nil)
      (ss_one (ss_ret (se_at (se_v 0) (se_neg se_int)))))
theorem sc_label_in : FnScope ["piece", "offset"] ["piece", "offset"] (defScope s_label_in) := ⟨rfl, rfl, rfl, by decide +kernel, rfl, by decide +kernel, by decide +kernel⟩
def B_label_in : DS := (dSeq (dIf (dB (dBin (gEq false) (dBin gIx (dVar 0) (dC (.int 0))) (dC (.str "top")))) (dRet (dC .non)) dSkip)
      (dSeq (dIf (dB (dBin (gEq false) (dBin gIx (dVar 0) (dC (.int 0))) (dC (.str "old")))) (dRet (dTup (dConsA (dBin gAdd (dBin gIx (dVar 0) (dC (.int 1))) (dVar 1)) (dConsA (dBin gAdd (dBin gIx (dVar 0) (dC (.int 1))) (dVar 1)) dNilA)))) dSkip)
      (dRet (dTup (dConsA (dBin gIx (dVar 0) (dC (.int 1))) (dConsA (dBin gIx (dVar 0) (dC (.int 2))) dNilA))))))
def F_label_in : DF := (runF 2 2 B_label_in)
theorem ok_label_in (T : Txt K mg) : FnOk P w K mg base CX0 1 T.a_label_in T.d_label_in ["piece", "offset"] (spD ⟨K, T.cl⟩ F_label_in) :=
  fnok T.f_label_in sc_label_in fun cdv A outer s H E hr =>
    (ss_cons (ss_if (st_eq hr (se_at (se_v 0) se_int) se_str) (ss_one (ss_ret se_non)) ss_nil)
      (ss_cons (ss_if (st_eq hr (se_at (se_v 0) se_int) se_str) (ss_one (ss_ret (se_tup (sa_cons (se_add (se_at (se_v 0) se_int) (se_v 1)) (sa_cons (se_add (se_at (se_v 0) se_int) (se_v 1)) sa_nil))))) ss_nil)
      (ss_one (ss_ret (se_tup (sa_cons (se_at (se_v 0) se_int) (sa_cons (se_at (se_v 0) se_int) sa_nil)))))))
theorem sc_first_label : FnScope ["piece"] ["piece"] (defScope s_first_label) := ⟨rfl, rfl, rfl, by decide +kernel, rfl, by decide +kernel, by decide +kernel⟩
def B_first_label : DS := (dRet (dCall F_label_in (dConsA (dVar 0) (dConsA (dC (.int 0)) dNilA))))
def F_first_label : DF := (runF 1 1 B_first_label)
theorem ok_first_label (T : Txt K mg) : FnOk P w K mg base CX0 2 T.a_first_label T.d_first_label ["piece"] (spD ⟨K, T.cl⟩ F_first_label) :=
  fnok T.f_first_label sc_first_label fun cdv A outer s H E hr =>
    (ss_one (ss_ret (se_call (ok_label_in T) (hr.mono (by decide)) rfl T.g_label_in T.p_label_in T.n_label_in (sa_cons (se_v 0) (sa_cons se_int sa_nil)))))
theorem sc_may_follow : FnScope ["before", "piece", "above", "label"] ["before", "piece"] (defScope s_may_follow) := ⟨rfl, rfl, rfl, by decide +kernel, rfl, by decide +kernel, by decide +kernel⟩
def B_may_follow : DS := (dSeq (dIf (dTru (dCall F_is_open (dConsA (dVar 0) dNilA))) (dRet (dC (.bl false))) dSkip)
      (dSeq (dIf (dB (dBin (gEq false) (dBin gIx (dVar 0) (dC (.int 0))) (dC (.str "top")))) (dRet (dC (.bl true))) dSkip)
      (dSeq (dIf (dB (dBin (gEq false) (dBin gIx (dVar 1) (dC (.int 0))) (dC (.str "top")))) (dRet (dC (.bl false))) dSkip)
      (dSeq (dIf (dAnd (dB (dBin (gEq false) (dBin gIx (dVar 0) (dC (.int 0))) (dC (.str "old")))) (dB (dBin (gEq false) (dBin gIx (dVar 1) (dC (.int 0))) (dC (.str "old"))))) (dRet (dBin gLt (dBin gIx (dVar 0) (dC (.int 2))) (dBin gIx (dVar 1) (dC (.int 1))))) dSkip)
      (dSeq (dSet 2 (dCall F_label_in (dConsA (dVar 0) (dConsA (dBin Ip.gSub (dCall F_row_count (dConsA (dVar 0) dNilA)) (dC (.int 1))) dNilA))))
      (dSeq (dSet 3 (dCall F_first_label (dConsA (dVar 1) dNilA)))
      (dRet (dAndV (dBin gLe (dBin gIx (dVar 2) (dC (.int 0))) (dBin gIx (dVar 3) (dC (.int 0)))) (dBin gLe (dBin gIx (dVar 2) (dC (.int 1))) (dBin gIx (dVar 3) (dC (.int 1))))))))))))
def F_may_follow : DF := (runF 4 2 B_may_follow)
theorem ok_may_follow (T : Txt K mg) : FnOk P w K mg base CX0 3 T.a_may_follow T.d_may_follow ["before", "piece"] (spD ⟨K, T.cl⟩ F_may_follow) :=
  fnok T.f_may_follow sc_may_follow fun cdv A outer s H E hr =>
    (ss_cons (ss_if (st_val (se_call (ok_is_open T) (hr.mono (by decide)) rfl T.g_is_open T.p_is_open T.n_is_open (sa_cons (se_v 0) sa_nil))) (ss_one (ss_ret se_bl)) ss_nil)
      (ss_cons (ss_if (st_eq hr (se_at (se_v 0) se_int) se_str) (ss_one (ss_ret se_bl)) ss_nil)
      (ss_cons (ss_if (st_eq hr (se_at (se_v 1) se_int) se_str) (ss_one (ss_ret se_bl)) ss_nil)
      (ss_cons (ss_if (SW.st (sw_and (st_eq hr (se_at (se_v 0) se_int) se_str) (sw_and1 (st_eq hr (se_at (se_v 1) se_int) se_str)))) (ss_one (ss_ret (se_lt (se_at (se_v 0) se_int) (se_at (se_v 1) se_int)))) ss_nil)
      (ss_cons (ss_let 2 sc_may_follow.nd (se_call (ok_label_in T) (hr.mono (by decide)) rfl T.g_label_in T.p_label_in T.n_label_in (sa_cons (se_v 0) (sa_cons (se_sub (se_call (ok_row_count T) (hr.mono (by decide)) rfl T.g_row_count T.p_row_count T.n_row_count (sa_cons (se_v 0) sa_nil)) se_int) sa_nil))))
      (ss_cons (ss_let 3 sc_may_follow.nd (se_call (ok_first_label T) (hr.mono (by decide)) rfl T.g_first_label T.p_first_label T.n_first_label (sa_cons (se_v 1) sa_nil)))
      (ss_one (ss_ret (se_and (se_le (se_at (se_v 2) se_int) (se_at (se_v 3) se_int)) (se_one (se_le (se_at (se_v 2) se_int) (se_at (se_v 3) se_int))))))))))))
theorem sc_first_wrong : FnScope ["pieces", "before", "at", "piece"] ["pieces"] (defScope s_first_wrong) := ⟨rfl, rfl, rfl, by decide +kernel, rfl, by decide +kernel, by decide +kernel⟩
def B_first_wrong : DS := (dSeq (dSet 1 (dC .non))
      (dSeq (dForS (tgTup [2, 3]) (dEnum2 (dVar 0)) (dSeq (dIf (dNot (dTru (dCall F_is_piece (dConsA (dVar 3) dNilA)))) (dRet (dVar 2)) dSkip)
      (dSeq (dIf (dAnd (dB (dBin (gIs true) (dVar 1) (dC .non))) (dNot (dTru (dCall F_may_follow (dConsA (dVar 1) (dConsA (dVar 3) dNilA)))))) (dRet (dVar 2)) dSkip)
      (dSet 1 (dVar 3)))))
      (dSeq (dIf (dOr (dB (dBin (gIs false) (dVar 1) (dC .non))) (dNot (dTru (dCall F_is_open (dConsA (dVar 1) dNilA))))) (dRet (dCallB gLen (dConsA (dVar 0) dNilA))) dSkip)
      (dRet (dC .non)))))
def F_first_wrong : DF := (runF 4 1 B_first_wrong)
theorem ok_first_wrong (T : Txt K mg) : FnOk P w K mg base CX0 4 T.a_first_wrong T.d_first_wrong ["pieces"] (spD ⟨K, T.cl⟩ F_first_wrong) :=
  fnok T.f_first_wrong sc_first_wrong fun cdv A outer s H E hr =>
    (ss_cons (ss_let 1 sc_first_wrong.nd se_non)
      (ss_cons (ss_forS PassesOwn.never rfl (si2_enum rfl T.b_enumerate (se_v 0)) (sg_tup (is := [2, 3]) rfl (pgs_cons (pg_name (i := 2) sc_first_wrong.nd rfl (by first | exact Or.inl rfl | exact Or.inr rfl)) (pgs_cons (pg_name (i := 3) sc_first_wrong.nd rfl (by first | exact Or.inl rfl | exact Or.inr rfl)) pgs_nil)) rfl) (ss_cons (ss_if (st_not (st_val (se_call (ok_is_piece T) (hr.mono (by decide)) rfl T.g_is_piece T.p_is_piece T.n_is_piece (sa_cons (se_v 3) sa_nil)))) (ss_one (ss_ret (se_v 2))) ss_nil)
      (ss_cons (ss_if (SW.st (sw_and (st_isnot (se_v 1) se_non) (sw_and1 (st_not (st_val (se_call (ok_may_follow T) (hr.mono (by decide)) rfl T.g_may_follow T.p_may_follow T.n_may_follow (sa_cons (se_v 1) (sa_cons (se_v 3) sa_nil)))))))) (ss_one (ss_ret (se_v 2))) ss_nil)
      (ss_one (ss_let 1 sc_first_wrong.nd (se_v 3))))))
      (ss_cons (ss_if (SW.st (sw_or (st_is (se_v 1) se_non) (sw_or1 (st_not (st_val (se_call (ok_is_open T) (hr.mono (by decide)) rfl T.g_is_open T.p_is_open T.n_is_open (sa_cons (se_v 1) sa_nil))))))) (ss_one (ss_ret (se_callB call_len_seq cs_len rfl T.b_len (by decide +kernel) (sa_cons (se_v 0) sa_nil)))) ss_nil)
      (ss_one (ss_ret se_non)))))
theorem sc_joined : FnScope ["one", "other"] ["one", "other"] (defScope s_joined) := ⟨rfl, rfl, rfl, by decide +kernel, rfl, by decide +kernel, by decide +kernel⟩
def B_joined : DS := (dSeq (dIf (dB (dBin (gEq true) (dBin gIx (dVar 0) (dC (.int 0))) (dBin gIx (dVar 1) (dC (.int 0))))) (dRet (dC .non)) dSkip)
      (dSeq (dIf (dB (dBin (gEq false) (dBin gIx (dVar 0) (dC (.int 0))) (dC (.str "top")))) (dRet (dTup (dConsA (dC (.str "top")) (dConsA (dBin gAdd (dBin gIx (dVar 0) (dC (.int 1))) (dBin gIx (dVar 1) (dC (.int 1)))) dNilA)))) dSkip)
      (dSeq (dIf (dB (dBin (gEq false) (dBin gIx (dVar 0) (dC (.int 0))) (dC (.str "old")))) (dRet (dIfE (dB (dBin (gEq false) (dBin gAdd (dBin gIx (dVar 0) (dC (.int 2))) (dC (.int 1))) (dBin gIx (dVar 1) (dC (.int 1))))) (dTup (dConsA (dC (.str "old")) (dConsA (dBin gIx (dVar 0) (dC (.int 1))) (dConsA (dBin gIx (dVar 1) (dC (.int 2))) dNilA)))) (dC .non))) dSkip)
      (dSeq (dIf (dB (dBin (gEq false) (dSl (dVar 0) (dPart (dC (.int 1))) (dPart (dC (.int 3)))) (dSl (dVar 1) (dPart (dC (.int 1))) (dPart (dC (.int 3)))))) (dRet (dTup (dConsA (dC (.str "new")) (dConsA (dBin gIx (dVar 0) (dC (.int 1))) (dConsA (dBin gIx (dVar 0) (dC (.int 2))) (dConsA (dBin gAdd (dBin gIx (dVar 0) (dC (.int 3))) (dBin gIx (dVar 1) (dC (.int 3)))) dNilA)))))) dSkip)
      (dRet (dC .non))))))
def F_joined : DF := (runF 2 2 B_joined)
theorem ok_joined (T : Txt K mg) : FnOk P w K mg base CX0 1 T.a_joined T.d_joined ["one", "other"] (spD ⟨K, T.cl⟩ F_joined) :=
  fnok T.f_joined sc_joined fun cdv A outer s H E hr =>
    (ss_cons (ss_if (st_ne hr (se_at (se_v 0) se_int) (se_at (se_v 1) se_int)) (ss_one (ss_ret se_non)) ss_nil)
      (ss_cons (ss_if (st_eq hr (se_at (se_v 0) se_int) se_str) (ss_one (ss_ret (se_tup (sa_cons se_str (sa_cons (se_add (se_at (se_v 0) se_int) (se_at (se_v 1) se_int)) sa_nil))))) ss_nil)
      (ss_cons (ss_if (st_eq hr (se_at (se_v 0) se_int) se_str) (ss_one (ss_ret (se_if (st_eq hr (se_add (se_at (se_v 0) se_int) se_int) (se_at (se_v 1) se_int)) (se_tup (sa_cons se_str (sa_cons (se_at (se_v 0) se_int) (sa_cons (se_at (se_v 1) se_int) sa_nil)))) se_non))) ss_nil)
      (ss_cons (ss_if (st_eq hr (se_slice (se_v 0) (so_some se_int) (so_some se_int)) (se_slice (se_v 1) (so_some se_int) (so_some se_int))) (ss_one (ss_ret (se_tup (sa_cons se_str (sa_cons (se_at (se_v 0) se_int) (sa_cons (se_at (se_v 0) se_int) (sa_cons (se_add (se_at (se_v 0) se_int) (se_at (se_v 1) se_int)) sa_nil))))))) ss_nil)
      (ss_one (ss_ret se_non))))))
theorem sc_normal_form : FnScope ["pieces", "result", "piece", "both"] ["pieces"] (defScope s_normal_form) := ⟨rfl, rfl, rfl, by decide +kernel, rfl, by decide +kernel, by decide +kernel⟩
def B_normal_form : DS := (dSeq (dSet 1 (dLstC dNilA))
      (dSeq (dForS (tgName 2) (dIter2 (dVar 0)) (dSeq (dSet 3 (dIfE (dTru (dVar 1)) (dCall F_joined (dConsA (dBin gIx (dVar 1) (dUn gNeg (dC (.int 1)))) (dConsA (dVar 2) dNilA))) (dC .non)))
      (dIf (dB (dBin (gIs false) (dVar 3) (dC .non))) (dDrop (dLm gApp (dVar 1) (dConsA (dVar 2) dNilA))) (dSetIx (dVar 1) (dUn gNeg (dC (.int 1))) (dVar 3)))))
      (dRet (dVar 1))))
def F_normal_form : DF := frz (runF 4 1 B_normal_form)
theorem ok_normal_form (T : Txt K mg) : FnOk P w K mg base CX0 2 T.a_normal_form T.d_normal_form ["pieces"] (spD ⟨K, T.cl⟩ F_normal_form) :=
  fn_frz (fnok T.f_normal_form sc_normal_form fun cdv A outer s H E hr =>
    (ss_cons (ss_let 1 sc_normal_form.nd (se_lstC sa_nil))
      (ss_cons (ss_forS PassesOwn.never rfl (si2_iter (se_v 0)) (sg_v 2 sc_normal_form.nd) (ss_cons (ss_let 3 sc_normal_form.nd (se_if (st_val (se_v 1)) (se_call (ok_joined T) (hr.mono (by decide)) rfl T.g_joined T.p_joined T.n_joined (sa_cons (se_at (se_v 1) (se_neg se_int)) (sa_cons (se_v 2) sa_nil))) se_non))
      (ss_one (ss_if (st_is (se_v 3) se_non) (ss_one (ss_expr (se_append (se_v 1) (se_v 2)))) (ss_one (ss_setIx (se_v 1) (se_neg se_int) (se_v 3) (pg_sub (se_v 1) (se_neg se_int) set_list)))))))
      (ss_one (ss_ret (se_v 1))))))
theorem sc_starts_of : FnScope ["pieces", "starts", "piece"] ["pieces"] (defScope s_starts_of) := ⟨rfl, rfl, rfl, by decide +kernel, rfl, by decide +kernel, by decide +kernel⟩
def B_starts_of : DS := (dSeq (dSet 1 (dLstC (dConsA (dC (.int 0)) dNilA)))
      (dSeq (dForS (tgName 2) (dIter2 (dSl (dVar 0) dNoPart (dPart (dUn gNeg (dC (.int 1)))))) (dDrop (dLm gApp (dVar 1) (dConsA (dBin gAdd (dBin gIx (dVar 1) (dUn gNeg (dC (.int 1)))) (dCall F_row_count (dConsA (dVar 2) dNilA))) dNilA))))
      (dRet (dVar 1))))
def F_starts_of : DF := frz (runF 3 1 B_starts_of)
theorem ok_starts_of (T : Txt K mg) : FnOk P w K mg base CX0 2 T.a_starts_of T.d_starts_of ["pieces"] (spD ⟨K, T.cl⟩ F_starts_of) :=
  fn_frz (fnok T.f_starts_of sc_starts_of fun cdv A outer s H E hr =>
    (ss_cons (ss_let 1 sc_starts_of.nd (se_lstC (sa_cons se_int sa_nil)))
      (ss_cons (ss_forS PassesOwn.never rfl (si2_iter (se_slice (se_v 0) so_none (so_some (se_neg se_int)))) (sg_v 2 sc_starts_of.nd) (ss_one (ss_expr (se_append (se_v 1) (se_add (se_at (se_v 1) (se_neg se_int)) (se_call (ok_row_count T) (hr.mono (by decide)) rfl T.g_row_count T.p_row_count T.n_row_count (sa_cons (se_v 2) sa_nil)))))))
      (ss_one (ss_ret (se_v 1))))))
theorem sc_Layout___init__ : FnScope ["self", "pieces", "wrong", "parts"] ["self", "pieces"] (defScope s_Layout___init__) := ⟨rfl, rfl, rfl, by decide +kernel, rfl, by decide +kernel, by decide +kernel⟩
def B_Layout___init__ : DS := (dSeq (dSet 2 (dCall F_first_wrong (dConsA (dVar 1) dNilA)))
      (dSeq (dIf (dB (dBin (gIs true) (dVar 2) (dC .non))) dBad dSkip)
      (dSeq (dSet 3 (dCall F_normal_form (dConsA (dVar 1) dNilA)))
      (dSeq (dIf (dB (dBin gGt (dCallB gLen (dConsA (dVar 3) dNilA)) (dC (.int 60)))) dBad dSkip)
      (dSeq (dSetFld "Layout" "parts" (dVar 0) (dVar 3))
      (dSetFld "Layout" "starts" (dVar 0) (dCall F_starts_of (dConsA (dVar 3) dNilA))))))))
def F_Layout___init__ : DF := (runF 4 2 B_Layout___init__)
theorem ok_Layout___init__ (T : Txt K mg) : FnOk P w K mg base CX0 5 T.a_Layout___init__ T.d_Layout___init__ ["self", "pieces"] (spD ⟨K, T.cl⟩ F_Layout___init__) :=
  fnok T.f_Layout___init__ sc_Layout___init__ fun cdv A outer s H E hr =>
    (ss_cons (ss_let 2 sc_Layout___init__.nd (se_call (ok_first_wrong T) (hr.mono (by decide)) rfl T.g_first_wrong T.p_first_wrong T.n_first_wrong (sa_cons (se_v 1) sa_nil)))
      (ss_cons (ss_if (st_isnot (se_v 2) se_non) (ss_one ss_never) ss_nil)
      (ss_cons (ss_let 3 sc_Layout___init__.nd (se_call (ok_normal_form T) (hr.mono (by decide)) rfl T.g_normal_form T.p_normal_form T.n_normal_form (sa_cons (se_v 1) sa_nil)))
      (ss_cons (ss_if (st_gt (se_callB call_len_seq cs_len rfl T.b_len (by decide +kernel) (sa_cons (se_v 3) sa_nil)) (se_cval rfl T.g_Layout T.r_Layout T.v_Layout_LIMIT (fun _ _ => .int 60))) (ss_one ss_never) ss_nil)
      (ss_cons (ss_fld (T.cl_Layout) T.k_Layout T.na_Layout_parts (se_v 0) (se_v 3))
      (ss_one (ss_fld (T.cl_Layout) T.k_Layout T.na_Layout_starts (se_v 0) (se_call (ok_starts_of T) (hr.mono (by decide)) rfl T.g_starts_of T.p_starts_of T.n_starts_of (sa_cons (se_v 3) sa_nil)))))))))
def Bx_Layout___init__ : DS := (dSeq (dSet 2 (dCall F_first_wrong (dConsA (dVar 1) dNilA)))
      (dSeq (dIf (dB (dBin (gIs true) (dVar 2) (dC .non))) (dRaise1 "BadPieces" "BadPieces" "at" okIntD (dVar 2)) dSkip)
      (dSeq (dSet 3 (dCall F_normal_form (dConsA (dVar 1) dNilA)))
      (dSeq (dIf (dB (dBin gGt (dCallB gLen (dConsA (dVar 3) dNilA)) (dC (.int 60)))) (dRaise1 "TooManyPieces" "TooManyPieces" "most" okIntD (dC (.int 60))) dSkip)
      (dSeq (dSetFld "Layout" "parts" (dVar 0) (dVar 3))
      (dSetFld "Layout" "starts" (dVar 0) (dCall F_starts_of (dConsA (dVar 3) dNilA))))))))
def Fx_Layout___init__ : DF := runF 4 2 Bx_Layout___init__
theorem okx_Layout___init__ (T : Txt K mg) : FnOk P w K mg base (L2.CX P w) 6 T.a_Layout___init__ T.d_Layout___init__ ["self", "pieces"] (spX ⟨K, T.cl⟩ Fx_Layout___init__) :=
  fnX (k := 5) T.f_Layout___init__ sc_Layout___init__ fun cdv A outer s H E hr tk =>
    (ss_cons (ss_let 2 sc_Layout___init__.nd (se_call (ok_first_wrong T) (hr.mono (by decide)) rfl T.g_first_wrong T.p_first_wrong T.n_first_wrong (sa_cons (se_v 1) sa_nil)))
      (ss_cons (ss_if (st_isnot (se_v 2) se_non) (ss_one (ss_raise1 (okD := okIntD) (fun S r h => okInt_of S r h) rfl tk (T.cl_BadPieces) T.oc_BadPieces T.in_BadPieces T.ti_BadPieces (okE_BadPieces T) (hr.mono (by decide)) T.nb_BadPieces rfl T.g_BadPieces (se_v 2))) ss_nil)
      (ss_cons (ss_let 3 sc_Layout___init__.nd (se_call (ok_normal_form T) (hr.mono (by decide)) rfl T.g_normal_form T.p_normal_form T.n_normal_form (sa_cons (se_v 1) sa_nil)))
      (ss_cons (ss_if (st_gt (se_callB call_len_seq cs_len rfl T.b_len (by decide +kernel) (sa_cons (se_v 3) sa_nil)) (se_cval rfl T.g_Layout T.r_Layout T.v_Layout_LIMIT (fun _ _ => .int 60))) (ss_one (ss_raise1 (okD := okIntD) (fun S r h => okInt_of S r h) rfl tk (T.cl_TooManyPieces) T.oc_TooManyPieces T.in_TooManyPieces T.ti_TooManyPieces (okE_TooManyPieces T) (hr.mono (by decide)) T.nb_TooManyPieces rfl T.g_TooManyPieces (se_cval rfl T.g_Layout T.r_Layout T.v_Layout_LIMIT (fun _ _ => .int 60)))) ss_nil)
      (ss_cons (ss_fld (T.cl_Layout) T.k_Layout T.na_Layout_parts (se_v 0) (se_v 3))
      (ss_one (ss_fld (T.cl_Layout) T.k_Layout T.na_Layout_starts (se_v 0) (se_call (ok_starts_of T) (hr.mono (by decide)) rfl T.g_starts_of T.p_starts_of T.n_starts_of (sa_cons (se_v 3) sa_nil)))))))))
theorem sc__law_like : FnScope ["_law_found", "_law_due", "_law_k"] ["_law_found", "_law_due"] (defScope s__law_like) := ⟨rfl, rfl, rfl, by decide +kernel, rfl, by decide +kernel, by decide +kernel⟩
def B__law_like (Fr : DF) : DS := (dSeq (dIf (dTru (dUn (gIsi2 "tuple" "list") (dVar 1))) (dSeq (dIf (dOr (dB (dBin (gEq true) (dUn (gIsi "tuple") (dVar 0)) (dUn (gIsi "tuple") (dVar 1)))) (dB (dBin (gEq true) (dUn (gIsi "list") (dVar 0)) (dUn (gIsi "list") (dVar 1))))) (dRet (dC (.bl false))) dSkip)
      (dRet (dAndV (dBin (gEq false) (dCallB gLen (dConsA (dVar 0) dNilA)) (dCallB gLen (dConsA (dVar 1) dNilA))) (dCallB gAll (dConsA (dLc [2] (tgName 2) (dRng1 (dConsA (dCallB gLen (dConsA (dVar 1) dNilA)) dNilA)) dYes (dCall Fr (dConsA (dBin gIx (dVar 0) (dVar 2)) (dConsA (dBin gIx (dVar 1) (dVar 2)) dNilA)))) dNilA))))) dSkip)
      (dSeq (dIf (dOr (dB (dBin (gIs false) (dVar 1) (dC .non))) (dB (dBin (gIs false) (dVar 0) (dC .non)))) (dRet (dAndV (dBin (gIs false) (dVar 1) (dC .non)) (dBin (gIs false) (dVar 0) (dC .non)))) dSkip)
      (dRet (dAndV (dBin (gEq false) (dUn (gIsi "bool") (dVar 0)) (dUn (gIsi "bool") (dVar 1))) (dBin (gEq false) (dVar 0) (dVar 1))))))
def F__law_like : Nat → DF
  | 0 => fun _ _ => .bad
  | k + 1 => runF 3 2 (B__law_like (F__law_like k))
theorem ok__law_like (T : Txt K mg) : ∀ k : Nat, FnOk P w K mg base CX0 (k + 1) T.a__law_like T.d__law_like ["_law_found", "_law_due"] (spD ⟨K, T.cl⟩ (F__law_like k))
  | 0 => ⟨fun _ _ _ _ ⟨_, _, _, _, _, h⟩ => h.elim, fun _ _ _ _ _ _ _ _ _ _ _ _ _ ⟨_, _, _, _, _, h⟩ => h.elim⟩
  | k + 1 => fnok (k := k + 1) T.f__law_like sc__law_like fun cdv A outer s H E hr =>
    (ss_cons (ss_if (st_val (se_isi2 (T := "tuple") (U := "list") rfl T.b_isinstance rfl T.b_tuple (by decide +kernel) rfl T.b_list (by decide +kernel) (se_v 1))) (ss_cons (ss_if (SW.st (sw_or (st_ne hr (se_isi (T := "tuple") rfl T.b_isinstance rfl T.b_tuple (by decide +kernel) (se_v 0)) (se_isi (T := "tuple") rfl T.b_isinstance rfl T.b_tuple (by decide +kernel) (se_v 1))) (sw_or1 (st_ne hr (se_isi (T := "list") rfl T.b_isinstance rfl T.b_list (by decide +kernel) (se_v 0)) (se_isi (T := "list") rfl T.b_isinstance rfl T.b_list (by decide +kernel) (se_v 1)))))) (ss_one (ss_ret se_bl)) ss_nil)
      (ss_one (ss_ret (se_and (se_eq hr (se_callB call_len_seq cs_len rfl T.b_len (by decide +kernel) (sa_cons (se_v 0) sa_nil)) (se_callB call_len_seq cs_len rfl T.b_len (by decide +kernel) (sa_cons (se_v 1) sa_nil))) (se_one (se_callB (cr_all rfl) cs_all rfl T.b_all (by decide +kernel) (sa_cons (se_lc (own := [("_law_k", 2)]) rfl sc__law_like.nd (si_range1 rfl T.b_range (sa_cons (se_callB call_len_seq cs_len rfl T.b_len (by decide +kernel) (sa_cons (se_v 1) sa_nil)) sa_nil)) (blkOk_by (N := ["_law_found", "_law_due", "_law_k"]) (sc := defScope s__law_like) (by decide +kernel)) (fun _ _ _ _ _ => pg_name (i := 2) sc__law_like.nd rfl (Or.inl rfl)) (tgok_name (by decide)) (fun _ _ _ _ _ => pts_yes) (fun _ _ _ _ _ => (se_call (ok__law_like T k) (hr.mono (by omega)) rfl T.g__law_like T.p__law_like T.n__law_like (sa_cons (se_at (se_v 0) (se_v 2)) (sa_cons (se_at (se_v 1) (se_v 2)) sa_nil))))) sa_nil))))))) ss_nil)
      (ss_cons (ss_if (SW.st (sw_or (st_is (se_v 1) se_non) (sw_or1 (st_is (se_v 0) se_non)))) (ss_one (ss_ret (se_and (se_is (se_v 1) se_non) (se_one (se_is (se_v 0) se_non))))) ss_nil)
      (ss_one (ss_ret (se_and (se_eq hr (se_isi (T := "bool") rfl T.b_isinstance rfl T.b_bool (by decide +kernel) (se_v 0)) (se_isi (T := "bool") rfl T.b_isinstance rfl T.b_bool (by decide +kernel) (se_v 1))) (se_one (se_eq hr (se_v 0) (se_v 1))))))))
theorem sc_Layout___eq__ : FnScope ["self", "other"] ["self", "other"] (defScope s_Layout___eq__) := ⟨rfl, rfl, rfl, by decide +kernel, rfl, by decide +kernel, by decide +kernel⟩
def B_Layout___eq__ : DS := (dRet (dAndV (dUn (gIsiO "Layout") (dVar 1)) (dBin (gEq false) (dFld "Layout" "parts" (dVar 0)) (dFld "Layout" "parts" (dVar 1)))))
def F_Layout___eq__ : DF := (runF 2 2 B_Layout___eq__)
theorem ok_Layout___eq__ (T : Txt K mg) : FnOk P w K mg base CX0 1 T.a_Layout___eq__ T.d_Layout___eq__ ["self", "other"] (spD ⟨K, T.cl⟩ F_Layout___eq__) :=
  fnok T.f_Layout___eq__ sc_Layout___eq__ fun cdv A outer s H E hr =>
    (ss_one (ss_ret (se_and (se_isiO (T.cl_Layout) T.eo_Layout.it T.ty_Layout rfl T.b_isinstance rfl T.g_Layout (se_v 1)) (se_one (se_eq hr (se_fld (T.cl_Layout) T.k_Layout T.na_Layout_parts (se_v 0)) (se_fld (T.cl_Layout) T.k_Layout T.na_Layout_parts (se_v 1)))))))
theorem sc_Layout_plain : FnScope ["cls"] ["cls"] (defScope s_Layout_plain) := ⟨rfl, rfl, rfl, by decide +kernel, rfl, by decide +kernel, by decide +kernel⟩
def B_Layout_plain : DS := (dRet (dMakeV 0 "Layout" F_Layout___init__ (dConsA (dC (.tup [.tup [.str "old", .int 0, .non]])) dNilA)))
def F_Layout_plain : DF := (runF 1 1 B_Layout_plain)
theorem ok_Layout_plain (T : Txt K mg) : FnOk P w K mg base CX0 7 T.a_Layout_plain T.d_Layout_plain ["cls"] (spD ⟨K, T.cl⟩ F_Layout_plain) :=
  fnok T.f_Layout_plain sc_Layout_plain fun cdv A outer s H E hr =>
    (ss_one (ss_ret (se_makeV 0 (T.cl_Layout) T.mk_Layout (ok_Layout___init__ T) (hr.mono (by decide)) rfl (Or.inl rfl) T.n_Layout___init__ (sa_cons (se_const (pe_glob (v := .ref T.p_PLAIN) rfl T.c_PLAIN rfl) (T.w_PLAIN _)) sa_nil))))
theorem sc_Layout_pieces : FnScope ["self"] ["self"] (defScope s_Layout_pieces) := ⟨rfl, rfl, rfl, by decide +kernel, rfl, by decide +kernel, by decide +kernel⟩
def B_Layout_pieces : DS := (dRet (dCallB gList (dConsA (dFld "Layout" "parts" (dVar 0)) dNilA)))
def F_Layout_pieces : DF := (runF 1 1 B_Layout_pieces)
theorem ok_Layout_pieces (T : Txt K mg) : FnOk P w K mg base CX0 1 T.a_Layout_pieces T.d_Layout_pieces ["self"] (spD ⟨K, T.cl⟩ F_Layout_pieces) :=
  fnok T.f_Layout_pieces sc_Layout_pieces fun cdv A outer s H E hr =>
    (ss_one (ss_ret (se_callTy call_list_of cs_list rfl T.b_list (by decide +kernel) (sa_cons (se_fld (T.cl_Layout) T.k_Layout T.na_Layout_parts (se_v 0)) sa_nil))))
theorem sc_law : FnScope ["_law_script", "_law_bag_here", "_law_turn", "_law_pieces", "_law_told_here", "_law_size", "_law_label", "_law_many", "_law_wide", "_law_k"] ["_law_script"] (defScope s_law) := ⟨rfl, rfl, rfl, by decide +kernel, rfl, by decide +kernel, by decide +kernel⟩
def B_law : DS := (dSeq (dSet 1 (dCall F__law_bag (dConsA (dVar 0) dNilA)))
      (dSeq (dFor (tgName 2) (dRng1 (dConsA (dC (.int 3)) dNilA)) (dSeq (dPar 7 8 (dConsA (dBin gAdd (dC (.int 58)) (dCall F__law_pull (dConsA (dVar 1) (dConsA (dC (.int 6)) dNilA)))) (dConsA (dBin gAdd (dC (.int 2)) (dCall F__law_pull (dConsA (dVar 1) (dConsA (dC (.int 9)) dNilA)))) dNilA)))
      (dSeq (dSet 3 (dCall F__law_long_pieces (dConsA (dVar 7) (dConsA (dVar 8) dNilA))))
      (dSeq (dSet 4 (dTold ["BadPieces", "TooManyPieces"] (dLenO "Layout" F_Layout___len__ (dMakeX "Layout" Fx_Layout___init__ (dConsA (dVar 3) dNilA)))))
      (dSeq (dIf (dNot (dTru (dCall (F__law_like 4) (dConsA (dVar 4) (dConsA (dIfE (dB (dBin gLt (dVar 7) (dC (.int 61)))) (dTup (dConsA (dC (.str "told")) (dConsA (dVar 7) dNilA))) (dTup (dConsA (dC (.str "TooManyPieces")) (dConsA (dC (.int 60)) dNilA)))) dNilA))))) (dRet (dC (.bl false))) dSkip)
      (dSeq (dIf (dB (dBin (gEq true) (dTold ["BadPieces", "TooManyPieces"] (dMakeX "Layout" Fx_Layout___init__ (dConsA (dSl (dVar 3) dNoPart (dPart (dUn gNeg (dC (.int 1))))) dNilA))) (dTup (dConsA (dC (.str "BadPieces")) (dConsA (dBin Ip.gSub (dVar 7) (dC (.int 1))) dNilA))))) (dRet (dC (.bl false))) dSkip)
      (dSeq (dSet 5 (dBin gAdd (dC (.int 1)) (dCall F__law_pull (dConsA (dVar 1) (dConsA (dC (.int 399)) dNilA)))))
      (dSeq (dIf (dB (dEqO "Layout" true F_Layout___eq__ (dMake "Layout" F_Layout___init__ (dConsA (dBin gAdd (dLc [9] (tgName 9) (dRng1 (dConsA (dVar 5) dNilA)) dYes (dTup (dConsA (dC (.str "old")) (dConsA (dVar 9) (dConsA (dVar 9) dNilA))))) (dLst (dConsA (dTup (dConsA (dC (.str "old")) (dConsA (dVar 5) (dConsA (dC .non) dNilA)))) dNilA))) dNilA)) (dCMeth "Layout" F_Layout_plain))) (dRet (dC (.bl false))) dSkip)
      (dSeq (dSet 6 (dBin gAdd (dBin gAdd (dLst (dConsA (dTup (dConsA (dC (.str "old")) (dConsA (dC (.int 0)) (dConsA (dC (.int 0)) dNilA)))) dNilA)) (dBin gMul (dLst (dConsA (dTup (dConsA (dC (.str "new")) (dConsA (dC (.int 0)) (dConsA (dVar 8) (dConsA (dC (.int 1)) dNilA))))) dNilA)) (dVar 5))) (dLst (dConsA (dTup (dConsA (dC (.str "old")) (dConsA (dVar 8) (dConsA (dC .non) dNilA)))) dNilA))))
      (dSeq (dSet 4 (dSl (dMeth "Layout" "pieces" F_Layout_pieces (dMake "Layout" F_Layout___init__ (dConsA (dSl (dVar 6) (dPart (dUn gNeg (dC (.int 400)))) dNoPart) dNilA)) dNilA) (dPart (dUn gNeg (dC (.int 2)))) dNoPart))
      (dIf (dNot (dTru (dCall (F__law_like 4) (dConsA (dVar 4) (dConsA (dLst (dConsA (dTup (dConsA (dC (.str "new")) (dConsA (dC (.int 0)) (dConsA (dVar 8) (dConsA (dVar 5) dNilA))))) (dConsA (dTup (dConsA (dC (.str "old")) (dConsA (dVar 8) (dConsA (dC .non) dNilA)))) dNilA))) dNilA))))) (dRet (dC (.bl false))) dSkip)))))))))))
      (dRet (dBin (gEq false) (dC (.int 60)) (dC (.int 60))))))
def F_law : DF := (runF 10 1 B_law)
theorem ok_law (T : Txt K mg) (tb : LamX.TabB base mg T.c_law T.t_law) : FnOk P w K mg base CX0 10 T.a_law T.d_law ["_law_script"] (spD ⟨K, T.cl⟩ F_law) :=
  fnokC (k := 9) T.fc_law sc_law fun A outer s H E hr =>
    (ss_cons (ss_let 1 sc_law.nd (se_call (ok__law_bag T) (hr.mono (by decide)) rfl T.g__law_bag T.p__law_bag T.n__law_bag (sa_cons (se_v 0) sa_nil)))
      (ss_cons (ss_for PassesOwn.never rfl (si_range1 rfl T.b_range (sa_cons se_int sa_nil)) (sg_v 2 sc_law.nd) (ss_cons (ss_par (i := 7) (j := 8) rfl sc_law.nd rfl rfl (by decide) rfl rfl (sa_cons (se_add se_int (se_call (ok__law_pull T) (hr.mono (by decide)) rfl T.g__law_pull T.p__law_pull T.n__law_pull (sa_cons (se_v 1) (sa_cons se_int sa_nil)))) (sa_cons (se_add se_int (se_call (ok__law_pull T) (hr.mono (by decide)) rfl T.g__law_pull T.p__law_pull T.n__law_pull (sa_cons (se_v 1) (sa_cons se_int sa_nil)))) sa_nil)) (by rfl))
      (ss_cons (ss_let 3 sc_law.nd (se_call (ok__law_long_pieces T) (hr.mono (by decide)) rfl T.g__law_long_pieces T.p__law_long_pieces T.n__law_long_pieces (sa_cons (se_v 7) (sa_cons (se_v 8) sa_nil))))
      (ss_cons (ss_let 4 sc_law.nd (se_told (k := 7) (errs := ["BadPieces", "TooManyPieces"]) T.g__law_told T.p__law_told T.fc__law_told T.n__law_told sc__law_told (Or.inl rfl) (gives_told (hr.mono (by decide)) T.g__law_field T.f__law_field T.p__law_field T.n__law_field T.g_SpanError) T.hx tb rfl T.lam T.lam2 T.lam3 T.lam4 (hr.mono (by decide)) rfl (LamX.lamS_by (sc := defScope s_law) (by decide +kernel)) rfl (fun _ _ _ _ _ => rfl) (fun A outer s H E f c' hr tk => (se_lenO (T.cl_Layout) T.m_Layout___len__ (ok_Layout___len__ T) (hr.mono (by decide)) T.n_Layout___len__ rfl T.b_len (se_makeX tk (T.cl_Layout) T.mk_Layout (okx_Layout___init__ T) (hr.mono (by decide)) rfl T.g_Layout T.n_Layout___init__ (sa_cons (se_v 3) sa_nil))))))
      (ss_cons (ss_if (st_not (st_val (se_call (ok__law_like T 4) (hr.mono (by decide)) rfl T.g__law_like T.p__law_like T.n__law_like (sa_cons (se_v 4) (sa_cons (se_if (st_lt (se_v 7) se_int) (se_tup (sa_cons se_str (sa_cons (se_v 7) sa_nil))) (se_tup (sa_cons se_str (sa_cons se_int sa_nil)))) sa_nil))))) (ss_one (ss_ret se_bl)) ss_nil)
      (ss_cons (ss_if (st_ne hr (se_told (k := 7) (errs := ["BadPieces", "TooManyPieces"]) T.g__law_told T.p__law_told T.fc__law_told T.n__law_told sc__law_told (Or.inl rfl) (gives_told (hr.mono (by decide)) T.g__law_field T.f__law_field T.p__law_field T.n__law_field T.g_SpanError) T.hx tb rfl T.lam T.lam2 T.lam3 T.lam4 (hr.mono (by decide)) rfl (LamX.lamS_by (sc := defScope s_law) (by decide +kernel)) rfl (fun _ _ _ _ _ => rfl) (fun A outer s H E f c' hr tk => (se_makeX tk (T.cl_Layout) T.mk_Layout (okx_Layout___init__ T) (hr.mono (by decide)) rfl T.g_Layout T.n_Layout___init__ (sa_cons (se_slice (se_v 3) so_none (so_some (se_neg se_int))) sa_nil)))) (se_tup (sa_cons se_str (sa_cons (se_sub (se_v 7) se_int) sa_nil)))) (ss_one (ss_ret se_bl)) ss_nil)
      (ss_cons (ss_let 5 sc_law.nd (se_add se_int (se_call (ok__law_pull T) (hr.mono (by decide)) rfl T.g__law_pull T.p__law_pull T.n__law_pull (sa_cons (se_v 1) (sa_cons se_int sa_nil)))))
      (ss_cons (ss_if (st_neO (T.cl_Layout) T.eo_Layout (ok_Layout___eq__ T) (hr.mono (by decide)) T.n_Layout___eq__ (se_make (T.cl_Layout) T.mk_Layout (ok_Layout___init__ T) (hr.mono (by decide)) rfl T.g_Layout T.n_Layout___init__ (sa_cons (se_add (se_lc (own := [("_law_k", 9)]) rfl sc_law.nd (si_range1 rfl T.b_range (sa_cons (se_v 5) sa_nil)) (blkOk_by (N := ["_law_script", "_law_bag_here", "_law_turn", "_law_pieces", "_law_told_here", "_law_size", "_law_label", "_law_many", "_law_wide", "_law_k"]) (sc := defScope s_law) (by decide +kernel)) (fun _ _ _ _ _ => pg_name (i := 9) sc_law.nd rfl (Or.inl rfl)) (tgok_name (by decide)) (fun _ _ _ _ _ => pts_yes) (fun _ _ _ _ _ => (se_tup (sa_cons se_str (sa_cons (se_v 9) (sa_cons (se_v 9) sa_nil)))))) (se_lst (sa_cons (se_tup (sa_cons se_str (sa_cons (se_v 5) (sa_cons se_non sa_nil)))) sa_nil))) sa_nil)) (se_cmeth0 (T.cl_Layout) rfl T.g_Layout T.r_Layout T.cm_Layout_plain (ok_Layout_plain T) (hr.mono (by decide)) T.n_Layout_plain)) (ss_one (ss_ret se_bl)) ss_nil)
      (ss_cons (ss_let 6 sc_law.nd (se_add (se_add (se_lst (sa_cons (se_tup (sa_cons se_str (sa_cons se_int (sa_cons se_int sa_nil)))) sa_nil)) (se_mul (se_lst (sa_cons (se_tup (sa_cons se_str (sa_cons se_int (sa_cons (se_v 8) (sa_cons se_int sa_nil))))) sa_nil)) (se_v 5))) (se_lst (sa_cons (se_tup (sa_cons se_str (sa_cons (se_v 8) (sa_cons se_non sa_nil)))) sa_nil))))
      (ss_cons (ss_let 4 sc_law.nd (se_slice (se_meth0 (T.cl_Layout) (se_make (T.cl_Layout) T.mk_Layout (ok_Layout___init__ T) (hr.mono (by decide)) rfl T.g_Layout T.n_Layout___init__ (sa_cons (se_slice (se_v 6) (so_some (se_neg se_int)) so_none) sa_nil)) T.k_Layout T.m_Layout_pieces (ok_Layout_pieces T) (hr.mono (by decide)) T.n_Layout_pieces) (so_some (se_neg se_int)) so_none))
      (ss_one (ss_if (st_not (st_val (se_call (ok__law_like T 4) (hr.mono (by decide)) rfl T.g__law_like T.p__law_like T.n__law_like (sa_cons (se_v 4) (sa_cons (se_lst (sa_cons (se_tup (sa_cons se_str (sa_cons se_int (sa_cons (se_v 8) (sa_cons (se_v 5) sa_nil))))) (sa_cons (se_tup (sa_cons se_str (sa_cons (se_v 8) (sa_cons se_non sa_nil)))) sa_nil))) sa_nil))))) (ss_one (ss_ret se_bl)) ss_nil))))))))))))
      (ss_one (ss_ret (se_eq hr (se_cval rfl T.g_Layout T.r_Layout T.v_Layout_LIMIT (fun _ _ => .int 60)) se_int)))))
end
end T
end
section
set_option Elab.async false
set_option linter.all false
set_option maxRecDepth 100000
set_option maxHeartbeats 4000000
namespace T
open PySem PyProof.Rows L2 Ip
def spLaw (K : PySem.W.Frag) : Sp := fun vs H Q _ => ∃ (a : Addr) (ns : List Int), vs = [.ref a] ∧ SqL K H a (ns.map V.int) ∧ ns.length ≤ 63 ∧ ∀ H', Q (.bl true) H'
def Main : Prop := ∀ ns : List Int, ns.length ≤ 63 → ∃ M, F_law [.scr ns] [] = .ok (.bl true) M
theorem spLaw_of {K : PySem.W.Frag} {cl : Str → Option Addr} (hM : Main) {vs : List V} {H : Hp} {Q : VK} {E : XK} (tb : TabR ⟨K, cl⟩ H) (h : spLaw K vs H Q E) : spD ⟨K, cl⟩ F_law vs H Q E := by
  obtain ⟨a, ns, rfl, hs, hl, q⟩ := h
  obtain ⟨M, e⟩ := hM ns hl
  refine ⟨⟨[], []⟩, [], [.scr ns], ⟨rfl, .nil, fun _ z => (nomatch z), fun _ z => (nomatch z), fun n c z => (by simp at z), tb⟩, .one (.scr ?_), ?_⟩
  · rcases hs with z | z
    · exact .inl ⟨z, fun w => by rcases w with w | w <;> cases w⟩
    · exact .inr fun _ => .inr z
  · rw [e]
    intro ρ' v H' _ _ r
    cases r
    exact q H'
theorem Txt.tab {K : PySem.W.Frag} {mg : Str → Option Value} (T : Txt K mg) {H : Hp} (hH : H T.t_law = some (.tbl #[])) : TabR ⟨K, T.cl⟩ H := fun q P hq hc => by
  cases List.mem_singleton.mp (T.lam q P hq hc)
  exact LamX.TabS.nil hH
theorem all_mk {l : PySem.W.OpenLaw} {w : World} {K : PySem.W.Frag} {h : Heap} {mg : Str → Option Value} {fa A_Layout f__law_bag f__law_pull f__law_long_pieces f_Layout___len__ f_is_number f_are_numbers f_is_range f_is_piece f_is_open f_row_count f_label_in f_first_label f_may_follow f_first_wrong f_joined f_normal_form f_starts_of f_Layout___init__ f__law_like f_Layout___eq__ f_Layout_plain f_Layout_pieces f_law A_SpanError I_SpanError A_BadPieces I_BadPieces A_TooManyPieces I_TooManyPieces f__law_field f__law_told C_law P_law : Addr} (hM : Main) (X : K.In h) (G : h.Ns mainGlobals mg) (hfa : mg "law" = some (.ref fa)) (own : LamX.OwnTab K fa h)
    {od__law_bag an__law_bag od__law_pull an__law_pull od__law_long_pieces an__law_long_pieces od_Layout___len__ an_Layout___len__ od_is_number an_is_number od_are_numbers an_are_numbers od_is_range an_is_range od_is_piece an_is_piece od_is_open an_is_open od_row_count an_row_count od_label_in an_label_in od_first_label an_first_label od_may_follow an_may_follow od_first_wrong an_first_wrong od_joined an_joined od_normal_form an_normal_form od_starts_of an_starts_of od_Layout___init__ an_Layout___init__ od__law_like an__law_like od_Layout___eq__ an_Layout___eq__ od_Layout_plain an_Layout_plain od_Layout_pieces an_Layout_pieces od_law an_law od_SpanError an_SpanError od_BadPieces an_BadPieces od_TooManyPieces an_TooManyPieces od__law_field an__law_field od__law_told an__law_told : Option Addr} {sl__law_bag sl__law_pull sl__law_long_pieces sl_Layout___len__ sl_is_number sl_are_numbers sl_is_range sl_is_piece sl_is_open sl_row_count sl_label_in sl_first_label sl_may_follow sl_first_wrong sl_joined sl_normal_form sl_starts_of sl_Layout___init__ sl__law_like sl_Layout___eq__ sl_Layout_plain sl_Layout_pieces sl_law sl_SpanError sl_BadPieces sl_TooManyPieces sl__law_field sl__law_told : Array (Option Value)} {oc__law_bag kV__law_bag dc__law_bag pm__law_bag cd__law_bag ct__law_bag oc__law_pull kV__law_pull dc__law_pull pm__law_pull cd__law_pull ct__law_pull oc__law_long_pieces kV__law_long_pieces dc__law_long_pieces pm__law_long_pieces cd__law_long_pieces ct__law_long_pieces oc_Layout___len__ kV_Layout___len__ dc_Layout___len__ pm_Layout___len__ cd_Layout___len__ ct_Layout___len__ oc_is_number kV_is_number dc_is_number pm_is_number cd_is_number ct_is_number oc_are_numbers kV_are_numbers dc_are_numbers pm_are_numbers cd_are_numbers ct_are_numbers oc_is_range kV_is_range dc_is_range pm_is_range cd_is_range ct_is_range oc_is_piece kV_is_piece dc_is_piece pm_is_piece cd_is_piece ct_is_piece oc_is_open kV_is_open dc_is_open pm_is_open cd_is_open ct_is_open oc_row_count kV_row_count dc_row_count pm_row_count cd_row_count ct_row_count oc_label_in kV_label_in dc_label_in pm_label_in cd_label_in ct_label_in oc_first_label kV_first_label dc_first_label pm_first_label cd_first_label ct_first_label oc_may_follow kV_may_follow dc_may_follow pm_may_follow cd_may_follow ct_may_follow oc_first_wrong kV_first_wrong dc_first_wrong pm_first_wrong cd_first_wrong ct_first_wrong oc_joined kV_joined dc_joined pm_joined cd_joined ct_joined oc_normal_form kV_normal_form dc_normal_form pm_normal_form cd_normal_form ct_normal_form oc_starts_of kV_starts_of dc_starts_of pm_starts_of cd_starts_of ct_starts_of oc_Layout___init__ kV_Layout___init__ dc_Layout___init__ pm_Layout___init__ cd_Layout___init__ ct_Layout___init__ oc__law_like kV__law_like dc__law_like pm__law_like cd__law_like ct__law_like oc_Layout___eq__ kV_Layout___eq__ dc_Layout___eq__ pm_Layout___eq__ cd_Layout___eq__ ct_Layout___eq__ oc_Layout_plain kV_Layout_plain dc_Layout_plain pm_Layout_plain cd_Layout_plain ct_Layout_plain oc_Layout_pieces kV_Layout_pieces dc_Layout_pieces pm_Layout_pieces cd_Layout_pieces ct_Layout_pieces oc_law kV_law dc_law pm_law ct_law oc_SpanError kV_SpanError dc_SpanError pm_SpanError cd_SpanError ct_SpanError oc_BadPieces kV_BadPieces dc_BadPieces pm_BadPieces cd_BadPieces ct_BadPieces oc_TooManyPieces kV_TooManyPieces dc_TooManyPieces pm_TooManyPieces cd_TooManyPieces ct_TooManyPieces oc__law_field kV__law_field dc__law_field pm__law_field cd__law_field ct__law_field oc__law_told kV__law_told dc__law_told pm__law_told cd__law_told ct__law_told : Value} {t_Layout_LIMIT : Tok} {P_PLAIN R_PLAIN : Addr} {oP_PLAIN oR_PLAIN : Option Addr} {nP_PLAIN nR_PLAIN : Nat} {sP_PLAIN sR_PLAIN : Array (Option Value)} {tP_PLAIN tR_PLAIN : Tok} {Q_Layout_plain : Addr} {R_Layout_plain : List Value} {kd_SpanError : ClassData} {nm_BadPieces q_BadPieces : Str} {N_BadPieces : Addr} {bs_BadPieces bm_BadPieces : List Value} {sn_BadPieces : List Str} {su_BadPieces : List Value} {ab_BadPieces : Bool} {co_BadPieces : Option Bool} {dd_BadPieces : Option Addr} {k0_BadPieces k1_BadPieces k2_BadPieces k3_BadPieces k5_BadPieces : Option Value} {nm_TooManyPieces q_TooManyPieces : Str} {N_TooManyPieces : Addr} {bs_TooManyPieces bm_TooManyPieces : List Value} {sn_TooManyPieces : List Str} {su_TooManyPieces : List Value} {ab_TooManyPieces : Bool} {co_TooManyPieces : Option Bool} {dd_TooManyPieces : Option Addr} {k0_TooManyPieces k1_TooManyPieces k2_TooManyPieces k3_TooManyPieces k5_TooManyPieces : Option Value} {e_law : Value} {dd_law : Option Addr} {vs_law : Array Value} {sm_law : Array (Option Value)}
    (z_all : PySem.W.nsIn K mainGlobals "all" = some none)
    (z_bool : PySem.W.nsIn K mainGlobals "bool" = some none)
    (z_enumerate : PySem.W.nsIn K mainGlobals "enumerate" = some none)
    (z_int : PySem.W.nsIn K mainGlobals "int" = some none)
    (z_isinstance : PySem.W.nsIn K mainGlobals "isinstance" = some none)
    (z_len : PySem.W.nsIn K mainGlobals "len" = some none)
    (z_list : PySem.W.nsIn K mainGlobals "list" = some none)
    (z_range : PySem.W.nsIn K mainGlobals "range" = some none)
    (z_tuple : PySem.W.nsIn K mainGlobals "tuple" = some none)
    (aC_Layout : PySem.W.nsIn K mainGlobals "Layout" = some (some (.ref A_Layout)))
    (pg_Layout : PySem.W.plainGet K A_Layout Str.empty = true)
    (hd_Layout : PySem.W.hasDictIn K A_Layout = true)
    (po_Layout : PySem.W.plainOver K A_Layout = true)
    (sa_Layout : PySem.W.findIn K (.ref A_Layout) "__setattr__" = some (some (.builtin "object.__setattr__")))
    (mk_Layout : PySem.W.makesIn K A_Layout = true)
    (kc_Layout : PySem.W.keepIn K (.ref A_Layout) = true)
    (rd_Layout : PySem.W.readsIn K A_Layout (.type "type") = true)
    (ga_Layout : PySem.W.specialIn K (.ref A_Layout) "__getattribute__" = some (some (.builtin "type.__getattribute__")))
    (na_Layout_parts : PySem.W.findIn K (.ref A_Layout) "parts" = some none)
    (na_Layout_starts : PySem.W.findIn K (.ref A_Layout) "starts" = some none)
    (cv_Layout_LIMIT : PySem.W.findCls K (.ref A_Layout) (.type "type") "LIMIT" = some (.val (.int 60 t_Layout_LIMIT)))
    (gp_PLAIN : PySem.W.nsIn K mainGlobals "PLAIN" = some (some (.ref P_PLAIN)))
    (lp_PLAIN : K.lookup P_PLAIN = some ⟨.type "tuple", oP_PLAIN, .seq #[.ref R_PLAIN] nP_PLAIN, sP_PLAIN⟩)
    (lr_PLAIN : K.lookup R_PLAIN = some ⟨.type "tuple", oR_PLAIN, .seq #[.str "old" tP_PLAIN, .int 0 tR_PLAIN, .none] nR_PLAIN, sR_PLAIN⟩)
    (a__law_bag : PySem.W.nsIn K mainGlobals "_law_bag" = some (some (.ref f__law_bag)))
    (l__law_bag : K.lookup f__law_bag = some ⟨oc__law_bag, od__law_bag, .func (PySem.W.fnOf "_law_bag" "_law_bag" (defArgs s__law_bag) (defBody s__law_bag) (defScope s__law_bag) .none kV__law_bag dc__law_bag pm__law_bag an__law_bag cd__law_bag ct__law_bag), sl__law_bag⟩)
    (c__law_bag : PySem.W.codeIn K cd__law_bag "_law_bag" = true)
    (k__law_bag : PySem.W.keepIn K (.ref f__law_bag) = true)
    (a__law_pull : PySem.W.nsIn K mainGlobals "_law_pull" = some (some (.ref f__law_pull)))
    (l__law_pull : K.lookup f__law_pull = some ⟨oc__law_pull, od__law_pull, .func (PySem.W.fnOf "_law_pull" "_law_pull" (defArgs s__law_pull) (defBody s__law_pull) (defScope s__law_pull) .none kV__law_pull dc__law_pull pm__law_pull an__law_pull cd__law_pull ct__law_pull), sl__law_pull⟩)
    (c__law_pull : PySem.W.codeIn K cd__law_pull "_law_pull" = true)
    (k__law_pull : PySem.W.keepIn K (.ref f__law_pull) = true)
    (a__law_long_pieces : PySem.W.nsIn K mainGlobals "_law_long_pieces" = some (some (.ref f__law_long_pieces)))
    (l__law_long_pieces : K.lookup f__law_long_pieces = some ⟨oc__law_long_pieces, od__law_long_pieces, .func (PySem.W.fnOf "_law_long_pieces" "_law_long_pieces" (defArgs s__law_long_pieces) (defBody s__law_long_pieces) (defScope s__law_long_pieces) .none kV__law_long_pieces dc__law_long_pieces pm__law_long_pieces an__law_long_pieces cd__law_long_pieces ct__law_long_pieces), sl__law_long_pieces⟩)
    (c__law_long_pieces : PySem.W.codeIn K cd__law_long_pieces "_law_long_pieces" = true)
    (k__law_long_pieces : PySem.W.keepIn K (.ref f__law_long_pieces) = true)
    (a_Layout___len__ : PySem.W.findIn K (.ref A_Layout) "__len__" = some (some (.ref f_Layout___len__)))
    (i_Layout___len__ : PySem.W.isFn K (.ref f_Layout___len__) = true)
    (l_Layout___len__ : K.lookup f_Layout___len__ = some ⟨oc_Layout___len__, od_Layout___len__, .func (PySem.W.fnOf "__len__" "Layout.__len__" (defArgs s_Layout___len__) (defBody s_Layout___len__) (defScope s_Layout___len__) .none kV_Layout___len__ dc_Layout___len__ pm_Layout___len__ an_Layout___len__ cd_Layout___len__ ct_Layout___len__), sl_Layout___len__⟩)
    (c_Layout___len__ : PySem.W.codeIn K cd_Layout___len__ "Layout.__len__" = true)
    (k_Layout___len__ : PySem.W.keepIn K (.ref f_Layout___len__) = true)
    (a_is_number : PySem.W.nsIn K mainGlobals "is_number" = some (some (.ref f_is_number)))
    (l_is_number : K.lookup f_is_number = some ⟨oc_is_number, od_is_number, .func (PySem.W.fnOf "is_number" "is_number" (defArgs s_is_number) (defBody s_is_number) (defScope s_is_number) .none kV_is_number dc_is_number pm_is_number an_is_number cd_is_number ct_is_number), sl_is_number⟩)
    (c_is_number : PySem.W.codeIn K cd_is_number "is_number" = true)
    (k_is_number : PySem.W.keepIn K (.ref f_is_number) = true)
    (a_are_numbers : PySem.W.nsIn K mainGlobals "are_numbers" = some (some (.ref f_are_numbers)))
    (l_are_numbers : K.lookup f_are_numbers = some ⟨oc_are_numbers, od_are_numbers, .func (PySem.W.fnOf "are_numbers" "are_numbers" (defArgs s_are_numbers) (defBody s_are_numbers) (defScope s_are_numbers) .none kV_are_numbers dc_are_numbers pm_are_numbers an_are_numbers cd_are_numbers ct_are_numbers), sl_are_numbers⟩)
    (c_are_numbers : PySem.W.codeIn K cd_are_numbers "are_numbers" = true)
    (k_are_numbers : PySem.W.keepIn K (.ref f_are_numbers) = true)
    (a_is_range : PySem.W.nsIn K mainGlobals "is_range" = some (some (.ref f_is_range)))
    (l_is_range : K.lookup f_is_range = some ⟨oc_is_range, od_is_range, .func (PySem.W.fnOf "is_range" "is_range" (defArgs s_is_range) (defBody s_is_range) (defScope s_is_range) .none kV_is_range dc_is_range pm_is_range an_is_range cd_is_range ct_is_range), sl_is_range⟩)
    (c_is_range : PySem.W.codeIn K cd_is_range "is_range" = true)
    (k_is_range : PySem.W.keepIn K (.ref f_is_range) = true)
    (a_is_piece : PySem.W.nsIn K mainGlobals "is_piece" = some (some (.ref f_is_piece)))
    (l_is_piece : K.lookup f_is_piece = some ⟨oc_is_piece, od_is_piece, .func (PySem.W.fnOf "is_piece" "is_piece" (defArgs s_is_piece) (defBody s_is_piece) (defScope s_is_piece) .none kV_is_piece dc_is_piece pm_is_piece an_is_piece cd_is_piece ct_is_piece), sl_is_piece⟩)
    (c_is_piece : PySem.W.codeIn K cd_is_piece "is_piece" = true)
    (k_is_piece : PySem.W.keepIn K (.ref f_is_piece) = true)
    (a_is_open : PySem.W.nsIn K mainGlobals "is_open" = some (some (.ref f_is_open)))
    (l_is_open : K.lookup f_is_open = some ⟨oc_is_open, od_is_open, .func (PySem.W.fnOf "is_open" "is_open" (defArgs s_is_open) (defBody s_is_open) (defScope s_is_open) .none kV_is_open dc_is_open pm_is_open an_is_open cd_is_open ct_is_open), sl_is_open⟩)
    (c_is_open : PySem.W.codeIn K cd_is_open "is_open" = true)
    (k_is_open : PySem.W.keepIn K (.ref f_is_open) = true)
    (a_row_count : PySem.W.nsIn K mainGlobals "row_count" = some (some (.ref f_row_count)))
    (l_row_count : K.lookup f_row_count = some ⟨oc_row_count, od_row_count, .func (PySem.W.fnOf "row_count" "row_count" (defArgs s_row_count) (defBody s_row_count) (defScope s_row_count) .none kV_row_count dc_row_count pm_row_count an_row_count cd_row_count ct_row_count), sl_row_count⟩)
    (c_row_count : PySem.W.codeIn K cd_row_count "row_count" = true)
    (k_row_count : PySem.W.keepIn K (.ref f_row_count) = true)
    (a_label_in : PySem.W.nsIn K mainGlobals "label_in" = some (some (.ref f_label_in)))
    (l_label_in : K.lookup f_label_in = some ⟨oc_label_in, od_label_in, .func (PySem.W.fnOf "label_in" "label_in" (defArgs s_label_in) (defBody s_label_in) (defScope s_label_in) .none kV_label_in dc_label_in pm_label_in an_label_in cd_label_in ct_label_in), sl_label_in⟩)
    (c_label_in : PySem.W.codeIn K cd_label_in "label_in" = true)
    (k_label_in : PySem.W.keepIn K (.ref f_label_in) = true)
    (a_first_label : PySem.W.nsIn K mainGlobals "first_label" = some (some (.ref f_first_label)))
    (l_first_label : K.lookup f_first_label = some ⟨oc_first_label, od_first_label, .func (PySem.W.fnOf "first_label" "first_label" (defArgs s_first_label) (defBody s_first_label) (defScope s_first_label) .none kV_first_label dc_first_label pm_first_label an_first_label cd_first_label ct_first_label), sl_first_label⟩)
    (c_first_label : PySem.W.codeIn K cd_first_label "first_label" = true)
    (k_first_label : PySem.W.keepIn K (.ref f_first_label) = true)
    (a_may_follow : PySem.W.nsIn K mainGlobals "may_follow" = some (some (.ref f_may_follow)))
    (l_may_follow : K.lookup f_may_follow = some ⟨oc_may_follow, od_may_follow, .func (PySem.W.fnOf "may_follow" "may_follow" (defArgs s_may_follow) (defBody s_may_follow) (defScope s_may_follow) .none kV_may_follow dc_may_follow pm_may_follow an_may_follow cd_may_follow ct_may_follow), sl_may_follow⟩)
    (c_may_follow : PySem.W.codeIn K cd_may_follow "may_follow" = true)
    (k_may_follow : PySem.W.keepIn K (.ref f_may_follow) = true)
    (a_first_wrong : PySem.W.nsIn K mainGlobals "first_wrong" = some (some (.ref f_first_wrong)))
    (l_first_wrong : K.lookup f_first_wrong = some ⟨oc_first_wrong, od_first_wrong, .func (PySem.W.fnOf "first_wrong" "first_wrong" (defArgs s_first_wrong) (defBody s_first_wrong) (defScope s_first_wrong) .none kV_first_wrong dc_first_wrong pm_first_wrong an_first_wrong cd_first_wrong ct_first_wrong), sl_first_wrong⟩)
    (c_first_wrong : PySem.W.codeIn K cd_first_wrong "first_wrong" = true)
    (k_first_wrong : PySem.W.keepIn K (.ref f_first_wrong) = true)
    (a_joined : PySem.W.nsIn K mainGlobals "joined" = some (some (.ref f_joined)))
    (l_joined : K.lookup f_joined = some ⟨oc_joined, od_joined, .func (PySem.W.fnOf "joined" "joined" (defArgs s_joined) (defBody s_joined) (defScope s_joined) .none kV_joined dc_joined pm_joined an_joined cd_joined ct_joined), sl_joined⟩)
    (c_joined : PySem.W.codeIn K cd_joined "joined" = true)
    (k_joined : PySem.W.keepIn K (.ref f_joined) = true)
    (a_normal_form : PySem.W.nsIn K mainGlobals "normal_form" = some (some (.ref f_normal_form)))
    (l_normal_form : K.lookup f_normal_form = some ⟨oc_normal_form, od_normal_form, .func (PySem.W.fnOf "normal_form" "normal_form" (defArgs s_normal_form) (defBody s_normal_form) (defScope s_normal_form) .none kV_normal_form dc_normal_form pm_normal_form an_normal_form cd_normal_form ct_normal_form), sl_normal_form⟩)
    (c_normal_form : PySem.W.codeIn K cd_normal_form "normal_form" = true)
    (k_normal_form : PySem.W.keepIn K (.ref f_normal_form) = true)
    (a_starts_of : PySem.W.nsIn K mainGlobals "starts_of" = some (some (.ref f_starts_of)))
    (l_starts_of : K.lookup f_starts_of = some ⟨oc_starts_of, od_starts_of, .func (PySem.W.fnOf "starts_of" "starts_of" (defArgs s_starts_of) (defBody s_starts_of) (defScope s_starts_of) .none kV_starts_of dc_starts_of pm_starts_of an_starts_of cd_starts_of ct_starts_of), sl_starts_of⟩)
    (c_starts_of : PySem.W.codeIn K cd_starts_of "starts_of" = true)
    (k_starts_of : PySem.W.keepIn K (.ref f_starts_of) = true)
    (a_Layout___init__ : PySem.W.findIn K (.ref A_Layout) "__init__" = some (some (.ref f_Layout___init__)))
    (i_Layout___init__ : PySem.W.isFn K (.ref f_Layout___init__) = true)
    (l_Layout___init__ : K.lookup f_Layout___init__ = some ⟨oc_Layout___init__, od_Layout___init__, .func (PySem.W.fnOf "__init__" "Layout.__init__" (defArgs s_Layout___init__) (defBody s_Layout___init__) (defScope s_Layout___init__) .none kV_Layout___init__ dc_Layout___init__ pm_Layout___init__ an_Layout___init__ cd_Layout___init__ ct_Layout___init__), sl_Layout___init__⟩)
    (c_Layout___init__ : PySem.W.codeIn K cd_Layout___init__ "Layout.__init__" = true)
    (k_Layout___init__ : PySem.W.keepIn K (.ref f_Layout___init__) = true)
    (a__law_like : PySem.W.nsIn K mainGlobals "_law_like" = some (some (.ref f__law_like)))
    (l__law_like : K.lookup f__law_like = some ⟨oc__law_like, od__law_like, .func (PySem.W.fnOf "_law_like" "_law_like" (defArgs s__law_like) (defBody s__law_like) (defScope s__law_like) .none kV__law_like dc__law_like pm__law_like an__law_like cd__law_like ct__law_like), sl__law_like⟩)
    (c__law_like : PySem.W.codeIn K cd__law_like "_law_like" = true)
    (k__law_like : PySem.W.keepIn K (.ref f__law_like) = true)
    (a_Layout___eq__ : PySem.W.findIn K (.ref A_Layout) "__eq__" = some (some (.ref f_Layout___eq__)))
    (i_Layout___eq__ : PySem.W.isFn K (.ref f_Layout___eq__) = true)
    (l_Layout___eq__ : K.lookup f_Layout___eq__ = some ⟨oc_Layout___eq__, od_Layout___eq__, .func (PySem.W.fnOf "__eq__" "Layout.__eq__" (defArgs s_Layout___eq__) (defBody s_Layout___eq__) (defScope s_Layout___eq__) .none kV_Layout___eq__ dc_Layout___eq__ pm_Layout___eq__ an_Layout___eq__ cd_Layout___eq__ ct_Layout___eq__), sl_Layout___eq__⟩)
    (c_Layout___eq__ : PySem.W.codeIn K cd_Layout___eq__ "Layout.__eq__" = true)
    (k_Layout___eq__ : PySem.W.keepIn K (.ref f_Layout___eq__) = true)
    (a_Layout_plain : PySem.W.findCls K (.ref A_Layout) (.type "type") "plain" = some (.get (.builtin "classmethod.__get__") (.ref Q_Layout_plain) .none (.ref A_Layout)))
    (r_Layout_plain : PySem.W.recIn K Q_Layout_plain "classmethod" = some (.ref f_Layout_plain :: R_Layout_plain))
    (g_Layout_plain : PySem.W.fnIn K f_Layout_plain = true)
    (l_Layout_plain : K.lookup f_Layout_plain = some ⟨oc_Layout_plain, od_Layout_plain, .func (PySem.W.fnOf "plain" "Layout.plain" (defArgs s_Layout_plain) (defBody s_Layout_plain) (defScope s_Layout_plain) .none kV_Layout_plain dc_Layout_plain pm_Layout_plain an_Layout_plain cd_Layout_plain ct_Layout_plain), sl_Layout_plain⟩)
    (c_Layout_plain : PySem.W.codeIn K cd_Layout_plain "Layout.plain" = true)
    (k_Layout_plain : PySem.W.keepIn K (.ref f_Layout_plain) = true)
    (a_Layout_pieces : PySem.W.findIn K (.ref A_Layout) "pieces" = some (some (.ref f_Layout_pieces)))
    (i_Layout_pieces : PySem.W.isFn K (.ref f_Layout_pieces) = true)
    (l_Layout_pieces : K.lookup f_Layout_pieces = some ⟨oc_Layout_pieces, od_Layout_pieces, .func (PySem.W.fnOf "pieces" "Layout.pieces" (defArgs s_Layout_pieces) (defBody s_Layout_pieces) (defScope s_Layout_pieces) .none kV_Layout_pieces dc_Layout_pieces pm_Layout_pieces an_Layout_pieces cd_Layout_pieces ct_Layout_pieces), sl_Layout_pieces⟩)
    (c_Layout_pieces : PySem.W.codeIn K cd_Layout_pieces "Layout.pieces" = true)
    (k_Layout_pieces : PySem.W.keepIn K (.ref f_Layout_pieces) = true)
    (a_law : PySem.W.nsIn K mainGlobals "law" = some (some (.ref f_law)))
    (l_law : K.lookup f_law = some ⟨oc_law, od_law, .func (PySem.W.fnOf "law" "law" (defArgs s_law) (defBody s_law) (defScope s_law) .none kV_law dc_law pm_law an_law (.ref C_law) ct_law), sl_law⟩)
    (c_law : PySem.W.codeIn K (.ref C_law) "law" = true)
    (k_law : PySem.W.keepIn K (.ref f_law) = true)
    (eh_Layout : PySem.W.findIn K (.ref A_Layout) "__class__" = some (some (.builtin "object.__class__")))
    (en_Layout : PySem.W.specialIn K (.builtin "object.__class__") "__get__" = some (some (.builtin "getset_descriptor.__get__")))
    (et_Layout : PySem.W.takesIn K (.builtin "object.__class__") = some true)
    (em_Layout : PySem.W.mroIn K A_Layout (.type "object") = some true)
    (ee_Layout : PySem.W.findIn K (.ref A_Layout) "__ne__" = some (some (.builtin "object.__ne__")))
    (ey_Layout : PySem.W.typeIn K (.ref A_Layout) = some (.type "type"))
    (aC_SpanError : PySem.W.nsIn K mainGlobals "SpanError" = some (some (.ref A_SpanError)))
    (rd_SpanError : PySem.W.readsIn K A_SpanError (.type "type") = true)
    (ga_SpanError : PySem.W.specialIn K (.ref A_SpanError) "__getattribute__" = some (some (.builtin "type.__getattribute__")))
    (sb_SpanError : PySem.W.subIn K (.ref A_SpanError) (.type "BaseException") = some true)
    (kl_SpanError : PySem.W.clsIn K A_SpanError = some kd_SpanError)
    (ty_SpanError : PySem.W.typeIn K (.ref A_SpanError) = some (.type "type"))
    (ci_SpanError : PySem.W.findCls K (.ref A_SpanError) (.type "type") "__init__" = some (.val (.ref I_SpanError)))
    (l_SpanError : K.lookup I_SpanError = some ⟨oc_SpanError, od_SpanError, .func (PySem.W.fnOf "__init__" "SpanError.__init__" (defArgs s_SpanError) (defBody s_SpanError) (defScope s_SpanError) .none kV_SpanError dc_SpanError pm_SpanError an_SpanError cd_SpanError ct_SpanError), sl_SpanError⟩)
    (c_SpanError : PySem.W.codeIn K cd_SpanError "SpanError.__init__" = true)
    (k_SpanError : PySem.W.keepIn K (.ref I_SpanError) = true)
    (zV : PySem.W.nsIn K mainGlobals "ValueError" = some none)
    (vV : PySem.W.findCls K (.type "ValueError") (.type "type") "__init__" = some (.val (.builtin "ValueError.__init__")))
    (aC_BadPieces : PySem.W.nsIn K mainGlobals "BadPieces" = some (some (.ref A_BadPieces)))
    (xo_BadPieces : K.lookup A_BadPieces = some (excClassObj nm_BadPieces q_BadPieces A_BadPieces N_BadPieces bs_BadPieces bm_BadPieces true sn_BadPieces su_BadPieces ab_BadPieces co_BadPieces dd_BadPieces k0_BadPieces k1_BadPieces k2_BadPieces k3_BadPieces k5_BadPieces "ValueError.__new__"))
    (rv_BadPieces : PySem.HandSPX.refsVE bm_BadPieces = true)
    (sa_BadPieces : PySem.W.findIn K (.ref A_BadPieces) "__setattr__" = some (some (.builtin "object.__setattr__")))
    (ex_BadPieces : PySem.W.subIn K (.ref A_BadPieces) (.type "BaseException") = some true)
    (tc_BadPieces : PySem.W.typeIn K (.ref A_BadPieces) = some (.type "type"))
    (kk_BadPieces : PySem.W.keepIn K (.ref A_BadPieces) = true)
    (xg_BadPieces : PySem.W.findIn K (.ref A_BadPieces) "__getattribute__" = some (some (.builtin "BaseException.__getattribute__")))
    (xh_BadPieces : PySem.W.findIn K (.ref A_BadPieces) "__getattr__" = some none)
    (xd_BadPieces : PySem.W.hasDictIn K A_BadPieces = true)
    (xn_word_BadPieces : PySem.W.findIn K (.ref A_BadPieces) "word" = some none)
    (xn_number_BadPieces : PySem.W.findIn K (.ref A_BadPieces) "number" = some none)
    (xn_at_BadPieces : PySem.W.findIn K (.ref A_BadPieces) "at" = some none)
    (xn_name_BadPieces : PySem.W.findIn K (.ref A_BadPieces) "name" = some none)
    (xn_cell_BadPieces : PySem.W.findIn K (.ref A_BadPieces) "cell" = some none)
    (xn_most_BadPieces : PySem.W.findIn K (.ref A_BadPieces) "most" = some none)
    (xn_label_BadPieces : PySem.W.findIn K (.ref A_BadPieces) "label" = some none)
    (xn_other_BadPieces : PySem.W.findIn K (.ref A_BadPieces) "other" = some none)
    (em_BadPieces : PySem.W.subIn K (.ref A_BadPieces) (.ref A_SpanError) = some true)
    (in_BadPieces : PySem.W.findIn K (.ref A_BadPieces) "__init__" = some (some (.ref I_BadPieces)))
    (ti_BadPieces : PySem.W.typeIn K (.ref I_BadPieces) = some (.type "function"))
    (l_BadPieces : K.lookup I_BadPieces = some ⟨oc_BadPieces, od_BadPieces, .func (PySem.W.fnOf "__init__" "BadPieces.__init__" (defArgs s_BadPieces) (defBody s_BadPieces) (defScope s_BadPieces) .none kV_BadPieces dc_BadPieces pm_BadPieces an_BadPieces cd_BadPieces ct_BadPieces), sl_BadPieces⟩)
    (c_BadPieces : PySem.W.codeIn K cd_BadPieces "BadPieces.__init__" = true)
    (k_BadPieces : PySem.W.keepIn K (.ref I_BadPieces) = true)
    (aC_TooManyPieces : PySem.W.nsIn K mainGlobals "TooManyPieces" = some (some (.ref A_TooManyPieces)))
    (xo_TooManyPieces : K.lookup A_TooManyPieces = some (excClassObj nm_TooManyPieces q_TooManyPieces A_TooManyPieces N_TooManyPieces bs_TooManyPieces bm_TooManyPieces true sn_TooManyPieces su_TooManyPieces ab_TooManyPieces co_TooManyPieces dd_TooManyPieces k0_TooManyPieces k1_TooManyPieces k2_TooManyPieces k3_TooManyPieces k5_TooManyPieces "ValueError.__new__"))
    (rv_TooManyPieces : PySem.HandSPX.refsVE bm_TooManyPieces = true)
    (sa_TooManyPieces : PySem.W.findIn K (.ref A_TooManyPieces) "__setattr__" = some (some (.builtin "object.__setattr__")))
    (ex_TooManyPieces : PySem.W.subIn K (.ref A_TooManyPieces) (.type "BaseException") = some true)
    (tc_TooManyPieces : PySem.W.typeIn K (.ref A_TooManyPieces) = some (.type "type"))
    (kk_TooManyPieces : PySem.W.keepIn K (.ref A_TooManyPieces) = true)
    (xg_TooManyPieces : PySem.W.findIn K (.ref A_TooManyPieces) "__getattribute__" = some (some (.builtin "BaseException.__getattribute__")))
    (xh_TooManyPieces : PySem.W.findIn K (.ref A_TooManyPieces) "__getattr__" = some none)
    (xd_TooManyPieces : PySem.W.hasDictIn K A_TooManyPieces = true)
    (xn_word_TooManyPieces : PySem.W.findIn K (.ref A_TooManyPieces) "word" = some none)
    (xn_number_TooManyPieces : PySem.W.findIn K (.ref A_TooManyPieces) "number" = some none)
    (xn_at_TooManyPieces : PySem.W.findIn K (.ref A_TooManyPieces) "at" = some none)
    (xn_name_TooManyPieces : PySem.W.findIn K (.ref A_TooManyPieces) "name" = some none)
    (xn_cell_TooManyPieces : PySem.W.findIn K (.ref A_TooManyPieces) "cell" = some none)
    (xn_most_TooManyPieces : PySem.W.findIn K (.ref A_TooManyPieces) "most" = some none)
    (xn_label_TooManyPieces : PySem.W.findIn K (.ref A_TooManyPieces) "label" = some none)
    (xn_other_TooManyPieces : PySem.W.findIn K (.ref A_TooManyPieces) "other" = some none)
    (em_TooManyPieces : PySem.W.subIn K (.ref A_TooManyPieces) (.ref A_SpanError) = some true)
    (in_TooManyPieces : PySem.W.findIn K (.ref A_TooManyPieces) "__init__" = some (some (.ref I_TooManyPieces)))
    (ti_TooManyPieces : PySem.W.typeIn K (.ref I_TooManyPieces) = some (.type "function"))
    (l_TooManyPieces : K.lookup I_TooManyPieces = some ⟨oc_TooManyPieces, od_TooManyPieces, .func (PySem.W.fnOf "__init__" "TooManyPieces.__init__" (defArgs s_TooManyPieces) (defBody s_TooManyPieces) (defScope s_TooManyPieces) .none kV_TooManyPieces dc_TooManyPieces pm_TooManyPieces an_TooManyPieces cd_TooManyPieces ct_TooManyPieces), sl_TooManyPieces⟩)
    (c_TooManyPieces : PySem.W.codeIn K cd_TooManyPieces "TooManyPieces.__init__" = true)
    (k_TooManyPieces : PySem.W.keepIn K (.ref I_TooManyPieces) = true)
    (a__law_field : PySem.W.nsIn K mainGlobals "_law_field" = some (some (.ref f__law_field)))
    (l__law_field : K.lookup f__law_field = some ⟨oc__law_field, od__law_field, .func (PySem.W.fnOf "_law_field" "_law_field" (defArgs s__law_field) (defBody s__law_field) (defScope s__law_field) .none kV__law_field dc__law_field pm__law_field an__law_field cd__law_field ct__law_field), sl__law_field⟩)
    (c__law_field : PySem.W.codeIn K cd__law_field "_law_field" = true)
    (k__law_field : PySem.W.keepIn K (.ref f__law_field) = true)
    (a__law_told : PySem.W.nsIn K mainGlobals "_law_told" = some (some (.ref f__law_told)))
    (l__law_told : K.lookup f__law_told = some ⟨oc__law_told, od__law_told, .func (PySem.W.fnOf "_law_told" "_law_told" (defArgs s__law_told) (defBody s__law_told) (defScope s__law_told) .none kV__law_told dc__law_told pm__law_told an__law_told cd__law_told ct__law_told), sl__law_told⟩)
    (c__law_told : PySem.W.codeIn K cd__law_told "_law_told" = true)
    (k__law_told : PySem.W.keepIn K (.ref f__law_told) = true)
    (kc_law : K.lookup C_law = some ⟨e_law, dd_law, .fields vs_law, sm_law⟩)
    (kv_law : vs_law[11]? = some (.ref P_law))
    (kn_law : K.lookup P_law = none)
    (kh_law : PySem.W.codeHdIn [(C_law, ⟨e_law, dd_law, .fields vs_law, sm_law⟩)] C_law P_law = true)
    : LamX.LawAtS l w K CX0 10 63 "_law_script" mg fa h := by
  have e := hfa.symm.trans (PySem.W.mg_of X G a_law)
  cases e
  let T : Txt K mg := {
    b_all := PySem.W.mg_none_of X G z_all,
    b_bool := PySem.W.mg_none_of X G z_bool,
    b_enumerate := PySem.W.mg_none_of X G z_enumerate,
    b_int := PySem.W.mg_none_of X G z_int,
    b_isinstance := PySem.W.mg_none_of X G z_isinstance,
    b_len := PySem.W.mg_none_of X G z_len,
    b_list := PySem.W.mg_none_of X G z_list,
    b_range := PySem.W.mg_none_of X G z_range,
    b_tuple := PySem.W.mg_none_of X G z_tuple,
    a_Layout := A_Layout,
    mc_Layout := (.type "type"),
    g_Layout := PySem.W.mg_of X G aC_Layout,
    k_Layout := ⟨pg_Layout, hd_Layout, po_Layout, sa_Layout⟩,
    r_Layout := ⟨rd_Layout, ga_Layout⟩,
    na_Layout_parts := na_Layout_parts,
    na_Layout_starts := na_Layout_starts,
    u_Layout_LIMIT := .int 60 t_Layout_LIMIT,
    v_Layout_LIMIT := ⟨cv_Layout_LIMIT, ⟨_, rfl⟩⟩,
    p_PLAIN := P_PLAIN,
    c_PLAIN := PySem.W.mg_of X G gp_PLAIN,
    w_PLAIN := fun cl H ρ => rv_plain lp_PLAIN lr_PLAIN H ρ,
    a__law_bag := f__law_bag,
    d__law_bag := _,
    g__law_bag := PySem.W.mg_of X G a__law_bag,
    p__law_bag := k__law_bag,
    f__law_bag := fun_mk (st := s__law_bag) l__law_bag c__law_bag k__law_bag,
    n__law_bag := (fun_mk (st := s__law_bag) l__law_bag c__law_bag k__law_bag).binds (ps := ["_law_script"]) fun _ _ _ _ _ _ us hl => match us, hl with | [_], _ => rfl,
    a__law_pull := f__law_pull,
    d__law_pull := _,
    g__law_pull := PySem.W.mg_of X G a__law_pull,
    p__law_pull := k__law_pull,
    f__law_pull := fun_mk (st := s__law_pull) l__law_pull c__law_pull k__law_pull,
    n__law_pull := (fun_mk (st := s__law_pull) l__law_pull c__law_pull k__law_pull).binds (ps := ["_law_bag_here", "_law_size"]) fun _ _ _ _ _ _ us hl => match us, hl with | [_, _], _ => rfl,
    a__law_long_pieces := f__law_long_pieces,
    d__law_long_pieces := _,
    g__law_long_pieces := PySem.W.mg_of X G a__law_long_pieces,
    p__law_long_pieces := k__law_long_pieces,
    f__law_long_pieces := fun_mk (st := s__law_long_pieces) l__law_long_pieces c__law_long_pieces k__law_long_pieces,
    n__law_long_pieces := (fun_mk (st := s__law_long_pieces) l__law_long_pieces c__law_long_pieces k__law_long_pieces).binds (ps := ["_law_many", "_law_wide"]) fun _ _ _ _ _ _ us hl => match us, hl with | [_, _], _ => rfl,
    a_Layout___len__ := f_Layout___len__,
    d_Layout___len__ := _,
    m_Layout___len__ := ⟨a_Layout___len__, i_Layout___len__, k_Layout___len__⟩,
    p_Layout___len__ := k_Layout___len__,
    f_Layout___len__ := fun_mk (st := s_Layout___len__) l_Layout___len__ c_Layout___len__ k_Layout___len__,
    n_Layout___len__ := (fun_mk (st := s_Layout___len__) l_Layout___len__ c_Layout___len__ k_Layout___len__).binds (ps := ["self"]) fun _ _ _ _ _ _ us hl => match us, hl with | [_], _ => rfl,
    a_is_number := f_is_number,
    d_is_number := _,
    g_is_number := PySem.W.mg_of X G a_is_number,
    p_is_number := k_is_number,
    f_is_number := fun_mk (st := s_is_number) l_is_number c_is_number k_is_number,
    n_is_number := (fun_mk (st := s_is_number) l_is_number c_is_number k_is_number).binds (ps := ["value"]) fun _ _ _ _ _ _ us hl => match us, hl with | [_], _ => rfl,
    a_are_numbers := f_are_numbers,
    d_are_numbers := _,
    g_are_numbers := PySem.W.mg_of X G a_are_numbers,
    p_are_numbers := k_are_numbers,
    f_are_numbers := fun_mk (st := s_are_numbers) l_are_numbers c_are_numbers k_are_numbers,
    n_are_numbers := (fun_mk (st := s_are_numbers) l_are_numbers c_are_numbers k_are_numbers).binds (ps := ["values", "many"]) fun _ _ _ _ _ _ us hl => match us, hl with | [_, _], _ => rfl,
    a_is_range := f_is_range,
    d_is_range := _,
    g_is_range := PySem.W.mg_of X G a_is_range,
    p_is_range := k_is_range,
    f_is_range := fun_mk (st := s_is_range) l_is_range c_is_range k_is_range,
    n_is_range := (fun_mk (st := s_is_range) l_is_range c_is_range k_is_range).binds (ps := ["pair"]) fun _ _ _ _ _ _ us hl => match us, hl with | [_], _ => rfl,
    a_is_piece := f_is_piece,
    d_is_piece := _,
    g_is_piece := PySem.W.mg_of X G a_is_piece,
    p_is_piece := k_is_piece,
    f_is_piece := fun_mk (st := s_is_piece) l_is_piece c_is_piece k_is_piece,
    n_is_piece := (fun_mk (st := s_is_piece) l_is_piece c_is_piece k_is_piece).binds (ps := ["piece"]) fun _ _ _ _ _ _ us hl => match us, hl with | [_], _ => rfl,
    a_is_open := f_is_open,
    d_is_open := _,
    g_is_open := PySem.W.mg_of X G a_is_open,
    p_is_open := k_is_open,
    f_is_open := fun_mk (st := s_is_open) l_is_open c_is_open k_is_open,
    n_is_open := (fun_mk (st := s_is_open) l_is_open c_is_open k_is_open).binds (ps := ["piece"]) fun _ _ _ _ _ _ us hl => match us, hl with | [_], _ => rfl,
    a_row_count := f_row_count,
    d_row_count := _,
    g_row_count := PySem.W.mg_of X G a_row_count,
    p_row_count := k_row_count,
    f_row_count := fun_mk (st := s_row_count) l_row_count c_row_count k_row_count,
    n_row_count := (fun_mk (st := s_row_count) l_row_count c_row_count k_row_count).binds (ps := ["piece"]) fun _ _ _ _ _ _ us hl => match us, hl with | [_], _ => rfl,
    a_label_in := f_label_in,
    d_label_in := _,
    g_label_in := PySem.W.mg_of X G a_label_in,
    p_label_in := k_label_in,
    f_label_in := fun_mk (st := s_label_in) l_label_in c_label_in k_label_in,
    n_label_in := (fun_mk (st := s_label_in) l_label_in c_label_in k_label_in).binds (ps := ["piece", "offset"]) fun _ _ _ _ _ _ us hl => match us, hl with | [_, _], _ => rfl,
    a_first_label := f_first_label,
    d_first_label := _,
    g_first_label := PySem.W.mg_of X G a_first_label,
    p_first_label := k_first_label,
    f_first_label := fun_mk (st := s_first_label) l_first_label c_first_label k_first_label,
    n_first_label := (fun_mk (st := s_first_label) l_first_label c_first_label k_first_label).binds (ps := ["piece"]) fun _ _ _ _ _ _ us hl => match us, hl with | [_], _ => rfl,
    a_may_follow := f_may_follow,
    d_may_follow := _,
    g_may_follow := PySem.W.mg_of X G a_may_follow,
    p_may_follow := k_may_follow,
    f_may_follow := fun_mk (st := s_may_follow) l_may_follow c_may_follow k_may_follow,
    n_may_follow := (fun_mk (st := s_may_follow) l_may_follow c_may_follow k_may_follow).binds (ps := ["before", "piece"]) fun _ _ _ _ _ _ us hl => match us, hl with | [_, _], _ => rfl,
    a_first_wrong := f_first_wrong,
    d_first_wrong := _,
    g_first_wrong := PySem.W.mg_of X G a_first_wrong,
    p_first_wrong := k_first_wrong,
    f_first_wrong := fun_mk (st := s_first_wrong) l_first_wrong c_first_wrong k_first_wrong,
    n_first_wrong := (fun_mk (st := s_first_wrong) l_first_wrong c_first_wrong k_first_wrong).binds (ps := ["pieces"]) fun _ _ _ _ _ _ us hl => match us, hl with | [_], _ => rfl,
    a_joined := f_joined,
    d_joined := _,
    g_joined := PySem.W.mg_of X G a_joined,
    p_joined := k_joined,
    f_joined := fun_mk (st := s_joined) l_joined c_joined k_joined,
    n_joined := (fun_mk (st := s_joined) l_joined c_joined k_joined).binds (ps := ["one", "other"]) fun _ _ _ _ _ _ us hl => match us, hl with | [_, _], _ => rfl,
    a_normal_form := f_normal_form,
    d_normal_form := _,
    g_normal_form := PySem.W.mg_of X G a_normal_form,
    p_normal_form := k_normal_form,
    f_normal_form := fun_mk (st := s_normal_form) l_normal_form c_normal_form k_normal_form,
    n_normal_form := (fun_mk (st := s_normal_form) l_normal_form c_normal_form k_normal_form).binds (ps := ["pieces"]) fun _ _ _ _ _ _ us hl => match us, hl with | [_], _ => rfl,
    a_starts_of := f_starts_of,
    d_starts_of := _,
    g_starts_of := PySem.W.mg_of X G a_starts_of,
    p_starts_of := k_starts_of,
    f_starts_of := fun_mk (st := s_starts_of) l_starts_of c_starts_of k_starts_of,
    n_starts_of := (fun_mk (st := s_starts_of) l_starts_of c_starts_of k_starts_of).binds (ps := ["pieces"]) fun _ _ _ _ _ _ us hl => match us, hl with | [_], _ => rfl,
    a_Layout___init__ := f_Layout___init__,
    d_Layout___init__ := _,
    mk_Layout := ⟨mk_Layout, a_Layout___init__, i_Layout___init__, kc_Layout⟩,
    p_Layout___init__ := k_Layout___init__,
    f_Layout___init__ := fun_mk (st := s_Layout___init__) l_Layout___init__ c_Layout___init__ k_Layout___init__,
    n_Layout___init__ := (fun_mk (st := s_Layout___init__) l_Layout___init__ c_Layout___init__ k_Layout___init__).binds (ps := ["self", "pieces"]) fun _ _ _ _ _ _ us hl => match us, hl with | [_, _], _ => rfl,
    a__law_like := f__law_like,
    d__law_like := _,
    g__law_like := PySem.W.mg_of X G a__law_like,
    p__law_like := k__law_like,
    f__law_like := fun_mk (st := s__law_like) l__law_like c__law_like k__law_like,
    n__law_like := (fun_mk (st := s__law_like) l__law_like c__law_like k__law_like).binds (ps := ["_law_found", "_law_due"]) fun _ _ _ _ _ _ us hl => match us, hl with | [_, _], _ => rfl,
    a_Layout___eq__ := f_Layout___eq__,
    d_Layout___eq__ := _,
    m_Layout___eq__ := ⟨a_Layout___eq__, i_Layout___eq__, k_Layout___eq__⟩,
    p_Layout___eq__ := k_Layout___eq__,
    f_Layout___eq__ := fun_mk (st := s_Layout___eq__) l_Layout___eq__ c_Layout___eq__ k_Layout___eq__,
    n_Layout___eq__ := (fun_mk (st := s_Layout___eq__) l_Layout___eq__ c_Layout___eq__ k_Layout___eq__).binds (ps := ["self", "other"]) fun _ _ _ _ _ _ us hl => match us, hl with | [_, _], _ => rfl,
    a_Layout_plain := f_Layout_plain,
    d_Layout_plain := _,
    q_Layout_plain := Q_Layout_plain,
    cm_Layout_plain := ⟨a_Layout_plain, ⟨_, r_Layout_plain⟩, g_Layout_plain⟩,
    p_Layout_plain := k_Layout_plain,
    f_Layout_plain := fun_mk (st := s_Layout_plain) l_Layout_plain c_Layout_plain k_Layout_plain,
    n_Layout_plain := (fun_mk (st := s_Layout_plain) l_Layout_plain c_Layout_plain k_Layout_plain).binds (ps := ["cls"]) fun _ _ _ _ _ _ us hl => match us, hl with | [_], _ => rfl,
    a_Layout_pieces := f_Layout_pieces,
    d_Layout_pieces := _,
    m_Layout_pieces := ⟨a_Layout_pieces, i_Layout_pieces, k_Layout_pieces⟩,
    p_Layout_pieces := k_Layout_pieces,
    f_Layout_pieces := fun_mk (st := s_Layout_pieces) l_Layout_pieces c_Layout_pieces k_Layout_pieces,
    n_Layout_pieces := (fun_mk (st := s_Layout_pieces) l_Layout_pieces c_Layout_pieces k_Layout_pieces).binds (ps := ["self"]) fun _ _ _ _ _ _ us hl => match us, hl with | [_], _ => rfl,
    a_law := fa,
    d_law := _,
    g_law := PySem.W.mg_of X G a_law,
    p_law := k_law,
    f_law := fun_mk (st := s_law) l_law c_law k_law,
    n_law := (fun_mk (st := s_law) l_law c_law k_law).binds (ps := ["_law_script"]) fun _ _ _ _ _ _ us hl => match us, hl with | [_], _ => rfl,
    eo_Layout := ⟨⟨⟨pg_Layout, hd_Layout, po_Layout, sa_Layout⟩, eh_Layout, en_Layout, et_Layout, em_Layout⟩, a_Layout___eq__, i_Layout___eq__, ee_Layout⟩,
    ty_Layout := ey_Layout,
    a_SpanError := A_SpanError,
    mc_SpanError := .type "type",
    g_SpanError := PySem.W.mg_of X G aC_SpanError,
    fi_SpanError := I_SpanError,
    di_SpanError := _,
    rd_SpanError := ⟨rd_SpanError, ga_SpanError⟩,
    ci_SpanError := ci_SpanError,
    ki_SpanError := k_SpanError,
    fn_SpanError := (fun_mk (st := s_SpanError) l_SpanError c_SpanError k_SpanError),
    nb_SpanError := (fun_mk (st := s_SpanError) l_SpanError c_SpanError k_SpanError).binds (ps := ["self", "word", "message"]) fun _ _ _ _ _ _ us hl => match us, hl with | [_, _, _], _ => rfl,
    mV := PySem.W.mg_none_of X G zV,
    vV := vV,
    a_BadPieces := A_BadPieces,
    fi_BadPieces := I_BadPieces,
    di_BadPieces := _,
    g_BadPieces := PySem.W.mg_of X G aC_BadPieces,
    oc_BadPieces := ⟨⟨_, _, _, _, _, _, _, _, _, _, _, _, _, _, _, xo_BadPieces, rv_BadPieces⟩, sa_BadPieces, ex_BadPieces, tc_BadPieces, kk_BadPieces⟩,
    xc_BadPieces := xcC_mk xg_BadPieces xh_BadPieces ex_BadPieces xd_BadPieces xn_word_BadPieces xn_number_BadPieces xn_at_BadPieces xn_name_BadPieces xn_cell_BadPieces xn_most_BadPieces xn_label_BadPieces xn_other_BadPieces,
    em_BadPieces := exm_mk sb_SpanError kl_SpanError ty_SpanError em_BadPieces,
    in_BadPieces := in_BadPieces,
    ti_BadPieces := ti_BadPieces,
    fn_BadPieces := (fun_mk (st := s_BadPieces) l_BadPieces c_BadPieces k_BadPieces),
    nb_BadPieces := (fun_mk (st := s_BadPieces) l_BadPieces c_BadPieces k_BadPieces).binds (ps := ["self", "at"]) fun _ _ _ _ _ _ us hl => match us, hl with | [_, _], _ => rfl,
    a_TooManyPieces := A_TooManyPieces,
    fi_TooManyPieces := I_TooManyPieces,
    di_TooManyPieces := _,
    g_TooManyPieces := PySem.W.mg_of X G aC_TooManyPieces,
    oc_TooManyPieces := ⟨⟨_, _, _, _, _, _, _, _, _, _, _, _, _, _, _, xo_TooManyPieces, rv_TooManyPieces⟩, sa_TooManyPieces, ex_TooManyPieces, tc_TooManyPieces, kk_TooManyPieces⟩,
    xc_TooManyPieces := xcC_mk xg_TooManyPieces xh_TooManyPieces ex_TooManyPieces xd_TooManyPieces xn_word_TooManyPieces xn_number_TooManyPieces xn_at_TooManyPieces xn_name_TooManyPieces xn_cell_TooManyPieces xn_most_TooManyPieces xn_label_TooManyPieces xn_other_TooManyPieces,
    em_TooManyPieces := exm_mk sb_SpanError kl_SpanError ty_SpanError em_TooManyPieces,
    in_TooManyPieces := in_TooManyPieces,
    ti_TooManyPieces := ti_TooManyPieces,
    fn_TooManyPieces := (fun_mk (st := s_TooManyPieces) l_TooManyPieces c_TooManyPieces k_TooManyPieces),
    nb_TooManyPieces := (fun_mk (st := s_TooManyPieces) l_TooManyPieces c_TooManyPieces k_TooManyPieces).binds (ps := ["self", "most"]) fun _ _ _ _ _ _ us hl => match us, hl with | [_, _], _ => rfl,
    a__law_field := f__law_field,
    d__law_field := _,
    g__law_field := PySem.W.mg_of X G a__law_field,
    p__law_field := k__law_field,
    n__law_field := (fun_mk (st := s__law_field) l__law_field c__law_field k__law_field).binds (ps := ["_law_e"]) fun _ _ _ _ _ _ us hl => match us, hl with | [_], _ => rfl,
    f__law_field := (fun_mk (st := s__law_field) l__law_field c__law_field k__law_field),
    a__law_told := f__law_told,
    d__law_told := _,
    g__law_told := PySem.W.mg_of X G a__law_told,
    p__law_told := k__law_told,
    n__law_told := (fun_mk (st := s__law_told) l__law_told c__law_told k__law_told).binds (ps := ["_law_ask"]) fun _ _ _ _ _ _ us hl => match us, hl with | [_], _ => rfl,
    cd__law_told := cd__law_told,
    fc__law_told := ⟨⟨_, _, _, _, _, _, _, _, rfl, l__law_told, c__law_told⟩⟩,
    c_law := C_law,
    t_law := P_law,
    fc_law := ⟨⟨_, _, _, _, _, _, _, _, rfl, l_law, c_law⟩⟩ }
  refine ⟨_, [(C_law, P_law)], spD ⟨K, T.cl⟩ F_law, fun p hp => ?_, fun p hp => ?_, fun p hp => ?_, fun s v => .of_eq rfl, fun H a ns hl _ hH hS => ?_, fun base _ _ tb => ok_law (P := l.prog) (w := w) (base := base) T (tb _ (List.mem_singleton.mpr rfl))⟩
  · cases List.mem_singleton.mp hp
    exact own _ _ _ _ _ _ _ _ l_law rfl rfl kc_law kv_law
  · cases List.mem_singleton.mp hp
    exact kn_law
  · cases List.mem_singleton.mp hp
    exact codeHd_mk X kc_law kh_law
  · exact spLaw_of hM (T.tab (hH _ (List.mem_singleton.mpr rfl))) ⟨a, ns, rfl, hS, hl, fun _ => rfl⟩
theorem walk {l : PySem.W.OpenLaw} {q : Program} {loose : List Str} {XP : (Str → Option Value) → Heap → Prop} {YP : World → Heap → Prop} {d : DefRec} {K : Params → PySem.W.Frag} (hn : l.most = some 63) (hdf : d.params.defaults = []) (hrec : ((recsOf q).any fun e => e.name == d.name) = true)
    (hY : ∀ (w : World) (h : Heap), YP w h → (K w.params).In h)
    (F : ∀ (w : World) (mg : Str → Option Value) (fa : Addr) (h : Heap), (K w.params).In h → h.Ns mainGlobals mg → mg d.name = some (.ref fa) → LamX.OwnTab (K w.params) fa h → LamX.LawAtS l w (K w.params) CX0 10 63 "_law_script" mg fa h) :
    PySem.W.WalkO q loose XP YP l.row.toRowW d [] (fun f vs => PySem.call f vs) :=
  LamX.walk_ofOwn (n := 63) (k := 10) (x := "_law_script") (CX := fun _ => CX0) hn (by decide) hdf ⟨rfl, by decide, by decide⟩ hrec hY (fun w mg fa h _ => F w mg fa h) fun _ _ _ _ _ z => z
end T
end
section
set_option Elab.async false
set_option linter.all false
set_option maxRecDepth 100000
set_option maxHeartbeats 4000000
namespace T
open PySem L2 Ip
theorem app_set (M : Sto) (c c' : Cell) : (M ++ [c]).set M.length c' = M ++ [c'] := by simp
theorem app_at (M : Sto) (c : Cell) : (M ++ [c])[M.length]? = some c := by simp
theorem atn2 (a b : D) : atI [a, b] (-1) = some b := rfl
theorem atn3 (a b c : D) : atI [a, b, c] (-1) = some c := rfl
theorem atn4 (a b c d : D) : atI [a, b, c, d] (-1) = some d := rfl
theorem ar1 (a b : Int) : a + (b - a + 1 - 1) = b := by omega
theorem ar2 (a : Int) : a + 0 = a := by omega
theorem nc0 : ((0 : Nat) : Int) = 0 := rfl
theorem nc1 : ((1 : Nat) : Int) = 1 := rfl
theorem nc2 : ((2 : Nat) : Int) = 2 := rfl
theorem nc3 : ((3 : Nat) : Int) = 3 := rfl
theorem nc4 : ((4 : Nat) : Int) = 4 := rfl
theorem nc5 : ((5 : Nat) : Int) = 5 := rfl
theorem w_tt : decide (Str.ofString "top" = Str.ofString "top") = true := by decide
theorem w_to : decide (Str.ofString "top" = Str.ofString "old") = false := by decide
theorem w_tn : decide (Str.ofString "top" = Str.ofString "new") = false := by decide
theorem w_ot : decide (Str.ofString "old" = Str.ofString "top") = false := by decide
theorem w_oo : decide (Str.ofString "old" = Str.ofString "old") = true := by decide
theorem w_on : decide (Str.ofString "old" = Str.ofString "new") = false := by decide
theorem w_nt : decide (Str.ofString "new" = Str.ofString "top") = false := by decide
theorem w_no : decide (Str.ofString "new" = Str.ofString "old") = false := by decide
theorem w_nn : decide (Str.ofString "new" = Str.ofString "new") = true := by decide
theorem w_et : decide (Str.ofString "" = Str.ofString "top") = false := by decide
theorem w_eo : decide (Str.ofString "" = Str.ofString "old") = false := by decide
theorem sl_13 (a b c d : D) : Ip.cutD [a, b, c, d] (some 1) (some 3) = [b, c] := rfl
theorem sl_03 (a b c d : D) : Ip.cutD [a, b, c, d] none (some 3) = [a, b, c] := rfl
theorem sl_1_2 (a b : D) : Ip.cutD [a, b] (some 1) none = [b] := rfl
theorem sl_1_3 (a b c : D) : Ip.cutD [a, b, c] (some 1) none = [b, c] := rfl
theorem sl_1_4 (a b c d : D) : Ip.cutD [a, b, c, d] (some 1) none = [b, c, d] := rfl
theorem sl_03b (a b c : D) : Ip.cutD [a, b, c] none (some 3) = [a, b, c] := rfl
theorem sl_03c (a b : D) : Ip.cutD [a, b] none (some 3) = [a, b] := rfl
def jn : Pc → Pc → Option Pc
  | .top n, .top m => some (.top (n + m))
  | .old a b, .old c d => if b + 1 = c then some (.old a d) else none
  | .old a b, .opn c => if b + 1 = c then some (.opn a) else none
  | .new a b n, .new c d m => if a = c ∧ b = d then some (.new a b (n + m)) else none
  | _, _ => none
def optD : Option Pc → D
  | some p => p.d
  | none => .non
def isOpn : Pc → Bool
  | .opn _ => true
  | _ => false
theorem appL_ok (y : D) (l : List D) (h : l.length < 16777216) : appL y l = some (l ++ [y]) := if_pos h
local macro_rules | `(tactic| walk_at "ev") => `(tactic| simp only [ev_runF, ev_kRun_rt, ev_kRun_nx, ev_seq, ev_kSeq_nx, ev_kSeq_rt, ev_kSeq_bk, ev_kSeq_ct, ev_skip, ev_set, ev_kSet, ev_drop, ev_kDrop, ev_ret, ev_kRet, ev_retN, ev_if, ev_kIf_t, ev_kIf_f, ev_bad, ev_asg, ev_kAsg, ev_asgO, ev_par, ev_kPar, ev_for, ev_kFor, ev_go_nil, ev_go_cons, ev_goO, ev_kGo_nx, ev_kGo_ct, ev_kGo_rt, ev_iter, ev_kIter_l, ev_kIter_t, ev_kIter_s, ev_rng1, ev_rng2, ev_enum, ev_kEnum_l, ev_kEnum_t,
  ev_var, ev_varO, celL_l, asL_ref, asL_lst, ev_c, ev_bin, ev_kBin, ev_kBin2, ev_un, ev_kUn, ev_nilA, ev_consA, ev_kCons, ev_kCons2, ev_tup, ev_lst, ev_lstC, ev_kTup, ev_kLst, ev_kLstC, ev_callB, ev_kCallB, ev_call, ev_kCall, ev_ifE, ev_kIfE_t, ev_kIfE_f, ev_andV, ev_orV, ev_notV, ev_kAndV_t, ev_kAndV_f, ev_kOrV_t, ev_kOrV_f, ev_kNotV, ev_and, ev_or, ev_not, ev_kAnd_t, ev_kAnd_f, ev_kOr_t, ev_kOr_f, ev_kNot, ev_tru, ev_b, ev_kTru_bl, ev_kTru_lst, ev_kTru_tup, ev_kTru_ref, ev_truO, ev_kB, ev_yes,
  ev_chain, ev_kCh0, ev_kCh1, ev_kCh2_t, ev_kCh2_f, ev_kCh3, ev_sl, ev_kSl1, ev_kSl2, ev_kSl3, ev_part, ev_kPart, ev_noPart, ev_fld, ev_kFld, ev_fldO, ev_lm, ev_kLm, ev_lmO, ev_kLm2, g_app, g_clear, ev_setIx, ev_kSetIx3, ev_setO, ev_kSetIx1, ev_kSetIx2,
  bind_ok, bind_bad, liftM_some, liftM_none, noex_ok, noex_bad, g_ixT, g_ixL, g_ixR, g_add_i, g_sub, g_lt, g_le, g_gt, g_ge, g_is_n, g_isnot_n, g_is_i, g_isnot_i, g_is_t, g_isnot_t, g_eq, g_ne, eq_int, eq_str, eq_bl, eq_nn, eq_ni, eq_in, eq_t2, g_lenT, g_lenL, g_lenR, g_slT, g_slL, g_slS, at0, at1, at2, at3, at4, atm1,
  ev_setFld, ev_kSetFld1, ev_make, ev_kMake, ev_kMake2, ev_meth, ev_kMeth2, ev_lenO, ev_kLenO, ev_reprO, ev_kReprO, ev_kReprO2, ev_fmt, ev_js_nil, ev_js_cons, g_listC, g_tupleR, ev_forS, ev_kForS, ev_iter2, ev_enum2, ev_kIter2_l, ev_kIter2_t, ev_kIter2_s, ev_kEnum2_l, ev_kEnum2_t, ev_lc, ev_kLc, ev_kLcEnd, ev_lc_nil, ev_lc_cons, ev_lcO, ev_kLcT_t, ev_kLcT_f, ev_kLcE, wipeE, g_isi_n, g_isi_b, g_isi_i, g_isi_s, g_isi_t, g_isi_l, isA_ii, isA_ib, isA_it, isA_il, isA_bi, isA_bb, isA_bt, isA_bll, isA_ni, isA_nb, isA_nt, isA_nl, isA_si, isA_sb, isA_st, isA_sl, isA_tt, isA_tl, isA_ti, isA_tb, isA_lt, isA_ll, isA_li, isA_lb, g_neg, g_all, bls_nil, bls_cons, List.all_cons, List.all_nil, id_eq, Bool.and_true, Bool.true_and, Nat.reduceLT,
  app_at, app_set, atn2, atn3, atn4, ar1, ar2, nc0, nc1, nc2, nc3, nc4, nc5, Int.reduceEq, Int.reduceNeg, Int.reduceLT, Int.reduceLE, w_tt, w_to, w_tn, w_ot, w_oo, w_on, w_nt, w_no, w_nn, w_et, w_eo, sl_13, sl_03, sl_1_2, sl_1_3, sl_1_4, sl_03b, sl_03c, tgName, tgTup, tgAll,
  List.length_cons, List.length_nil, List.map_cons, List.map_nil, List.cons_append, List.nil_append, List.getElem?_cons_zero, List.getElem?_cons_succ, List.set_cons_zero, List.set_cons_succ, List.replicate, Option.map_some, Option.map_none, Option.bind_some, Option.bind_none, Bool.not_true, Bool.not_false, and_self, true_and, and_true, Bool.false_eq_true, decide_true, decide_false, reduceIte, Nat.reduceAdd, Nat.reduceSub, Nat.reduceLeDiff, Nat.zero_add, List.isEmpty_cons, List.isEmpty_nil])
theorem joined_eq (p q : Pc) (h : isOpn p = false) (M : Sto) : F_joined [p.d, q.d] M = .ok (optD (jn p q)) M := by
  unfold F_joined B_joined
  cases p <;> cases q <;> simp only [Pc.d, isOpn] at h ⊢
  all_goals (try (cases h; done))
  all_goals walk_at "ev"
  all_goals (try (simp only [jn, optD, Pc.d]; done))
  all_goals (simp only [jn]; split)
  all_goals (rename_i hc; simp only [hc, optD, Pc.d]; try walk_at "ev")
theorem is_open_eq (p : Pc) (M : Sto) : F_is_open [p.d] M = .ok (.bl (isOpn p)) M := by
  unfold F_is_open B_is_open
  cases p <;> simp only [Pc.d, isOpn] <;> walk_at "ev"
def pok : Pc → Prop
  | .top n => 1 ≤ n
  | .old a b => 0 ≤ a ∧ a ≤ b
  | .opn a => 0 ≤ a
  | .new a b n => 0 ≤ a ∧ a < b ∧ 1 ≤ n
theorem is_piece_ok (p : Pc) (h : pok p) (M : Sto) : F_is_piece [p.d] M = .ok (.bl true) M := by
  unfold F_is_piece B_is_piece
  cases p with
  | top n =>
    simp only [pok] at h
    simp only [Pc.d, F_are_numbers, B_are_numbers, F_is_number, B_is_number]
    walk_at "ev"
    simp only [h, decide_true]
  | old a b =>
    simp only [pok] at h
    have h1 : ¬ a < 0 := by omega
    simp only [Pc.d, F_is_range, B_is_range, F_is_number, B_is_number]
    walk_at "ev"
    simp only [h1, h.2, decide_false, decide_true]
    walk_at "ev"
    simp only [h1, h.2, decide_false, decide_true]
  | opn a =>
    simp only [pok] at h
    have h1 : ¬ a < 0 := by omega
    simp only [Pc.d, F_is_range, B_is_range, F_is_number, B_is_number]
    walk_at "ev"
    simp only [h1, decide_false]
    walk_at "ev"
  | new a b n =>
    simp only [pok] at h
    simp only [Pc.d, F_are_numbers, B_are_numbers, F_is_number, B_is_number]
    walk_at "ev"
    simp only [h.1, h.2.1, h.2.2, decide_true]
    walk_at "ev"
    simp only [h.1, h.2.1, h.2.2, decide_true]
    walk_at "ev"
    simp only [h.2.2, decide_true]
def mf : Pc → Pc → Bool
  | .opn _, _ => false
  | .top _, _ => true
  | _, .top _ => false
  | .old _ b, .old c _ => decide (b < c)
  | .old _ b, .opn c => decide (b < c)
  | .old _ b, .new c d _ => decide (b ≤ c) && decide (b ≤ d)
  | .new a b _, .old c _ => decide (a ≤ c) && decide (b ≤ c)
  | .new a b _, .opn c => decide (a ≤ c) && decide (b ≤ c)
  | .new a b _, .new c d _ => decide (a ≤ c) && decide (b ≤ d)
theorem may_follow_eq (p q : Pc) (M : Sto) : F_may_follow [p.d, q.d] M = .ok (.bl (mf p q)) M := by
  unfold F_may_follow B_may_follow
  cases p <;> cases q <;> simp only [Pc.d, mf, F_is_open, B_is_open, F_label_in, B_label_in, F_row_count, B_row_count, F_first_label, B_first_label] <;> walk_at "ev"
  · rename_i a b c d n
    by_cases h : b ≤ c
    · simp only [h, decide_true]; walk_at "ev"
    · simp only [h, decide_false]; walk_at "ev"; simp only [Bool.false_and]
  · rename_i a b n c d
    by_cases h : a ≤ c
    · simp only [h, decide_true]; walk_at "ev"
    · simp only [h, decide_false]; walk_at "ev"; simp only [Bool.false_and]
  · rename_i a b n c
    by_cases h : a ≤ c
    · simp only [h, decide_true]; walk_at "ev"
    · simp only [h, decide_false]; walk_at "ev"; simp only [Bool.false_and]
  · rename_i a b n c d m
    by_cases h : a ≤ c
    · simp only [h, decide_true]; walk_at "ev"
    · simp only [h, decide_false]; walk_at "ev"; simp only [Bool.false_and]
/-! ### first_wrong -/
def chain : Pc → List Pc → Prop
  | _, [] => True
  | p, q :: r => pok q ∧ mf p q = true ∧ chain q r
def lastOf : Pc → List Pc → Pc
  | p, [] => p
  | _, q :: r => lastOf q r
def fwBody : DS := (dSeq (dIf (dNot (dTru (dCall F_is_piece (dConsA (dVar 3) dNilA)))) (dRet (dVar 2)) dSkip)
      (dSeq (dIf (dAnd (dB (dBin (gIs true) (dVar 1) (dC .non))) (dNot (dTru (dCall F_may_follow (dConsA (dVar 1) (dConsA (dVar 3) dNilA)))))) (dRet (dVar 2)) dSkip)
      (dSet 1 (dVar 3))))
theorem is_tup (p : Pc) : ∃ l, p.d = .tup l := by cases p <;> exact ⟨_, rfl⟩
theorem fw_step (X : D) (p q : Pc) (a b : Option D) (k : Nat) (M : Sto) (hq : pok q) (hm : mf p q = true) : fwBody [some X, some p.d, some (.int (k : Nat)), some q.d] M = .ok (.nx [some X, some q.d, some (.int (k : Nat)), some q.d]) M := by
  obtain ⟨l, hl⟩ := is_tup p
  have e := may_follow_eq p q M
  unfold fwBody
  walk_at "ev"
  rw [is_piece_ok q hq]
  walk_at "ev"
  rw [hl]
  walk_at "ev"
  rw [hl] at e
  rw [e, hm]
  walk_at "ev"
/-- pieces that a layout is made of -/
def valid : List Pc → Prop
  | [] => False
  | p :: r => pok p ∧ chain p r ∧ isOpn (lastOf p r) = true
def lined : List Pc → Prop
  | [] => False
  | p :: r => pok p ∧ chain p r
theorem valid.lined {ps : List Pc} (h : valid ps) : lined ps := by
  cases ps with
  | nil => exact h.elim
  | cons p r => exact ⟨h.1, h.2.1⟩
/-- a sequence of pieces: a list, a tuple, or the list in a cell -/
def isSeq (x : D) (ps : List Pc) (M : Sto) : Prop := x = .lst (ps.map Pc.d) ∨ x = .tup (ps.map Pc.d) ∨ ∃ n, x = .ref n ∧ n < M.length ∧ M[n]? = some (.lst (ps.map Pc.d))
def prevD (ps : List Pc) : Nat → D
  | 0 => .non
  | i + 1 => optD ps[i]?
theorem chain_ix : ∀ (r : List Pc) (p : Pc), chain p r → ∀ (i : Nat) (q : Pc), r[i]? = some q → pok q ∧ ∀ b, (p :: r)[i]? = some b → mf b q = true
  | [], p, _, i, q, h => by simp at h
  | s :: r, p, h, 0, q, hq => by
    have e : s = q := by simpa using hq
    subst e
    exact ⟨h.1, fun b hb => by have e : p = b := by simpa using hb
                               subst e; exact h.2.1⟩
  | s :: r, p, h, i + 1, q, hq => by
    obtain ⟨a, b⟩ := chain_ix r s h.2.2 i q (by simpa using hq)
    exact ⟨a, fun c hc => b c (by simpa using hc)⟩
theorem lastOf_ix : ∀ (r : List Pc) (p : Pc), (p :: r)[r.length]? = some (lastOf p r)
  | [], p => rfl
  | s :: r, p => by
    have := lastOf_ix r s
    simpa [lastOf] using this
theorem enum_at (ps : List Pc) (i : Nat) (M : Sto) : (Src.items (enumD 0 (ps.map Pc.d))).at_ i M = some ((ps[i]?).map fun p => .tup [.int (i : Nat), p.d]) := by
  show some _ = _
  rw [enumD_get]
  simp only [List.getElem?_map, Option.map_map, Nat.zero_add]
  rfl
theorem ecell_at (ps : List Pc) (i n : Nat) (M : Sto) (h : M[n]? = some (.lst (ps.map Pc.d))) : (Src.ecell n).at_ i M = some ((ps[i]?).map fun p => .tup [.int (i : Nat), p.d]) := by
  show (celL M[n]?).map _ = _
  rw [h, celL_l]
  simp only [List.getElem?_map, Option.map_map, Option.map_some]
  rfl
theorem fw_run (x : D) (ps : List Pc) (src : Src) (h : lined ps) (hs : ps.length < 10000000) (M : Sto) (hat : ∀ i, src.at_ i M = some ((ps[i]?).map fun p => .tup [.int (i : Nat), p.d])) :
    ∃ a b, forS (tgTup [2, 3]) fwBody src 20000000 0 [some x, some .non, none, none] M = .ok (.nx [some x, some (prevD ps ps.length), a, b]) M := by
  cases ps with
  | nil => exact h.elim
  | cons p r =>
    obtain ⟨hp, hc⟩ := h
    obtain ⟨e, M', h1, h2, a, b, h3⟩ := forS_inv (t := tgTup [2, 3]) (fb := fwBody) (src := src) (p :: r).length (fun i env M' => M' = M ∧ ∃ a b, env = [some x, some (prevD (p :: r) i), a, b])
      (fun env M' ⟨e, _⟩ => by rw [e, hat]; simp) (fun i env M' hi ⟨e, a, b, ev⟩ => by
        subst e ev
        have hq : (p :: r)[i]? = some (p :: r)[i] := List.getElem?_eq_getElem hi
        refine ⟨_, _, [some x, some (prevD (p :: r) (i + 1)), some (.int (i : Nat)), some ((p :: r)[i]).d], M', by rw [hat, hq]; rfl, rfl, ?_, rfl, _, _, rfl⟩
        show fwBody [some x, some (prevD (p :: r) i), some (.int (i : Nat)), some ((p :: r)[i]).d] M' = _
        cases i with
        | zero =>
          have st : fwBody [some x, some .non, some (.int ((0 : Nat) : Int)), some p.d] M' = .ok (.nx [some x, some p.d, some (.int ((0 : Nat) : Int)), some p.d]) M' := by
            unfold fwBody
            walk_at "ev"
            rw [is_piece_ok p hp]
            walk_at "ev"
          exact st
        | succ i =>
          have hr : r[i]? = some (p :: r)[i + 1] := by simpa using hq
          obtain ⟨k1, k2⟩ := chain_ix r p hc i _ hr
          have hb : (p :: r)[i]? = some ((p :: r)[i]'(by omega)) := List.getElem?_eq_getElem _
          have st := fw_step x ((p :: r)[i]'(by omega)) (p :: r)[i + 1] none none (i + 1) M' k1 (k2 _ hb)
          have e1 : prevD (p :: r) (i + 1) = ((p :: r)[i]'(by omega)).d := by
            show optD (p :: r)[i]? = _
            rw [hb]; rfl
          have e2 : prevD (p :: r) (i + 1 + 1) = ((p :: r)[i + 1]).d := by
            show optD (p :: r)[i + 1]? = _
            rw [hq]; rfl
          rw [e1, e2]
          exact st) (p :: r).length 0 20000000 [some x, some .non, none, none] M (by simp) (by omega) ⟨rfl, none, none, rfl⟩
    subst h2 h3
    exact ⟨a, b, h1⟩
theorem first_wrong_ok (x : D) (ps : List Pc) (M : Sto) (hx : isSeq x ps M) (h : valid ps) (hs : ps.length < 10000000) : F_first_wrong [x] M = .ok .non M := by
  have hl : ∃ q, prevD ps ps.length = q.d ∧ isOpn q = true := by
    cases ps with
    | nil => exact h.elim
    | cons p r => exact ⟨lastOf p r, by show optD (p :: r)[r.length]? = _; rw [lastOf_ix]; rfl, h.2.2⟩
  obtain ⟨q, e1, ho⟩ := hl
  obtain ⟨l, hl⟩ := is_tup q
  have eo := is_open_eq q M
  rw [ho, hl] at eo
  have fin : ∀ a b src, forS (tgTup [2, 3]) fwBody src 20000000 0 [some x, some .non, none, none] M = .ok (.nx [some x, some (prevD ps ps.length), a, b]) M → kEnum2 x M = .ok src M → F_first_wrong [x] M = .ok .non M := by
    intro a b src e2 e3
    unfold F_first_wrong B_first_wrong
    walk_at "ev"
    rw [e3]
    walk_at "ev"
    rw [show (dSeq _ _ : DS) = fwBody from rfl, e2, e1, hl]
    walk_at "ev"
    rw [eo]
    walk_at "ev"
  rcases hx with rfl | rfl | ⟨n, rfl, hn, hm⟩
  · obtain ⟨a, b, e2⟩ := fw_run _ ps (.items (enumD 0 (ps.map Pc.d))) h.lined hs M (fun i => enum_at ps i M)
    exact fin a b _ e2 rfl
  · obtain ⟨a, b, e2⟩ := fw_run _ ps (.items (enumD 0 (ps.map Pc.d))) h.lined hs M (fun i => enum_at ps i M)
    exact fin a b _ e2 rfl
  · obtain ⟨a, b, e2⟩ := fw_run _ ps (.ecell n) h.lined hs M (fun i => ecell_at ps i n M hm)
    exact fin a b _ e2 (ev_kEnum2_r M n _ hm)
theorem gLen_seq {x : D} {ps : List Pc} {M : Sto} (hx : isSeq x ps M) : gLen [x] M = some (.int (ps.length : Nat), M) := by
  rcases hx with rfl | rfl | ⟨n, rfl, hn, hm⟩
  · simp [gLen, asL]
  · simp [gLen]
  · simp [gLen, asL, hm]
theorem first_wrong_end (x : D) (ps : List Pc) (M : Sto) (hx : isSeq x ps M) (h : lined ps) (hz : ∀ q, ps.getLast? = some q → isOpn q = false) (hs : ps.length < 10000000) : F_first_wrong [x] M = .ok (.int (ps.length : Nat)) M := by
  have hl : ∃ q, prevD ps ps.length = q.d ∧ isOpn q = false := by
    cases ps with
    | nil => exact h.elim
    | cons p r => exact ⟨lastOf p r, by show optD (p :: r)[r.length]? = _; rw [lastOf_ix]; rfl, hz _ (by rw [List.getLast?_eq_getElem?]; exact lastOf_ix r p)⟩
  obtain ⟨q, e1, ho⟩ := hl
  obtain ⟨l, hl⟩ := is_tup q
  have eo := is_open_eq q M
  rw [ho, hl] at eo
  have fin : ∀ a b src, forS (tgTup [2, 3]) fwBody src 20000000 0 [some x, some .non, none, none] M = .ok (.nx [some x, some (prevD ps ps.length), a, b]) M → kEnum2 x M = .ok src M → F_first_wrong [x] M = .ok (.int (ps.length : Nat)) M := by
    intro a b src e2 e3
    unfold F_first_wrong B_first_wrong
    walk_at "ev"
    rw [e3]
    walk_at "ev"
    rw [show (dSeq _ _ : DS) = fwBody from rfl, e2, e1, hl]
    walk_at "ev"
    rw [eo]
    walk_at "ev"
    rw [gLen_seq hx]
    rfl
  rcases hx with rfl | rfl | ⟨n, rfl, hn, hm⟩
  · obtain ⟨a, b, e2⟩ := fw_run _ ps (.items (enumD 0 (ps.map Pc.d))) h hs M (fun i => enum_at ps i M)
    exact fin a b _ e2 rfl
  · obtain ⟨a, b, e2⟩ := fw_run _ ps (.items (enumD 0 (ps.map Pc.d))) h hs M (fun i => enum_at ps i M)
    exact fin a b _ e2 rfl
  · obtain ⟨a, b, e2⟩ := fw_run _ ps (.ecell n) h hs M (fun i => ecell_at ps i n M hm)
    exact fin a b _ e2 (ev_kEnum2_r M n _ hm)
/-! ### normal_form -/
def nfS (acc : List Pc) (p : Pc) : List Pc := match acc.getLast? with
  | none => acc ++ [p]
  | some l => match jn l p with
    | none => acc ++ [p]
    | some r => acc.dropLast ++ [r]
def nf (ps : List Pc) : List Pc := ps.foldl nfS []
def nfBody : DS := (dSeq (dSet 3 (dIfE (dTru (dVar 1)) (dCall F_joined (dConsA (dBin gIx (dVar 1) (dUn gNeg (dC (.int 1)))) (dConsA (dVar 2) dNilA))) (dC .non)))
      (dIf (dB (dBin (gIs false) (dVar 3) (dC .non))) (dDrop (dLm gApp (dVar 1) (dConsA (dVar 2) dNilA))) (dSetIx (dVar 1) (dUn gNeg (dC (.int 1))) (dVar 3))))
theorem ix_last {α : Type} (l : List α) (x : α) : ixN (l ++ [x]).length (-1) = some l.length := by
  simp [ixN]
  omega
theorem set_last {α : Type} (l : List α) (x y : α) : (l ++ [x]).set l.length y = l ++ [y] := by simp
theorem nf_step (X : D) (b : Option D) (M : Sto) (acc : List Pc) (q : Pc) (ha : ∀ l, acc.getLast? = some l → isOpn l = false) (hl : acc.length < 16777216) :
    ∃ b', nfBody [some X, some (.ref M.length), some q.d, b] (M ++ [.lst (acc.map Pc.d)]) = .ok (.nx [some X, some (.ref M.length), some q.d, b']) (M ++ [.lst ((nfS acc q).map Pc.d)]) := by
  unfold nfBody
  cases hacc : acc.getLast? with
  | none =>
    have e : acc = [] := List.getLast?_eq_none_iff.mp hacc
    subst e
    refine ⟨some .non, ?_⟩
    walk_at "ev"
    rw [appL_ok _ _ (by simp)]
    walk_at "ev"
    simp [nfS]
  | some l =>
    obtain ⟨t, rfl⟩ : ∃ t, acc = t ++ [l] := ⟨acc.dropLast, by
      have hne : acc ≠ [] := fun z => by subst z; cases hacc
      rw [List.getLast?_eq_some_getLast hne] at hacc
      have := List.dropLast_concat_getLast hne
      rw [Option.some.inj hacc] at this
      exact this.symm⟩
    have hj := joined_eq l q (ha l hacc) (M ++ [.lst ((t ++ [l]).map Pc.d)])
    have em : (t ++ [l]).map Pc.d = t.map Pc.d ++ [l.d] := by simp
    have ne : (t.map Pc.d ++ [l.d]).isEmpty = false := by simp
    cases hjn : jn l q with
    | none =>
      rw [hjn] at hj
      refine ⟨some .non, ?_⟩
      rw [em] at hj ⊢
      walk_at "ev"
      simp only [ne]
      walk_at "ev"
      rw [hj]
      simp only [optD]
      walk_at "ev"
      rw [appL_ok _ _ (by simpa using hl)]
      walk_at "ev"
      simp [nfS, hacc, hjn]
    | some r =>
      rw [hjn] at hj
      obtain ⟨lr, hr⟩ := is_tup r
      refine ⟨some r.d, ?_⟩
      rw [em] at hj ⊢
      walk_at "ev"
      simp only [ne]
      walk_at "ev"
      rw [hj]
      simp only [optD, hr]
      walk_at "ev"
      simp only [putL, ix_last]
      walk_at "ev"
      simp [nfS, hacc, hjn, hr]
end T
end
section
set_option Elab.async false
set_option linter.all false
set_option maxRecDepth 100000
set_option maxHeartbeats 4000000
namespace T
open PySem L2 Ip
local macro_rules | `(tactic| walk_at "ev") => `(tactic| simp only [ev_runF, ev_kRun_rt, ev_kRun_nx, ev_seq, ev_kSeq_nx, ev_kSeq_rt, ev_kSeq_bk, ev_kSeq_ct, ev_skip, ev_set, ev_kSet, ev_drop, ev_kDrop, ev_ret, ev_kRet, ev_retN, ev_if, ev_kIf_t, ev_kIf_f, ev_bad, ev_asg, ev_kAsg, ev_asgO, ev_par, ev_kPar, ev_for, ev_kFor, ev_go_nil, ev_go_cons, ev_goO, ev_kGo_nx, ev_kGo_ct, ev_kGo_rt, ev_iter, ev_kIter_l, ev_kIter_t, ev_kIter_s, ev_rng1, ev_rng2, ev_enum, ev_kEnum_l, ev_kEnum_t,
  ev_var, ev_varO, celL_l, asL_ref, asL_lst, ev_c, ev_bin, ev_kBin, ev_kBin2, ev_un, ev_kUn, ev_nilA, ev_consA, ev_kCons, ev_kCons2, ev_tup, ev_lst, ev_lstC, ev_kTup, ev_kLst, ev_kLstC, ev_callB, ev_kCallB, ev_call, ev_kCall, ev_ifE, ev_kIfE_t, ev_kIfE_f, ev_andV, ev_orV, ev_notV, ev_kAndV_t, ev_kAndV_f, ev_kOrV_t, ev_kOrV_f, ev_kNotV, ev_and, ev_or, ev_not, ev_kAnd_t, ev_kAnd_f, ev_kOr_t, ev_kOr_f, ev_kNot, ev_tru, ev_b, ev_kTru_bl, ev_kTru_lst, ev_kTru_tup, ev_kTru_ref, ev_truO, ev_kB, ev_yes,
  ev_chain, ev_kCh0, ev_kCh1, ev_kCh2_t, ev_kCh2_f, ev_kCh3, ev_sl, ev_kSl1, ev_kSl2, ev_kSl3, ev_part, ev_kPart, ev_noPart, ev_fld, ev_kFld, ev_fldO, ev_lm, ev_kLm, ev_lmO, ev_kLm2, g_app, g_clear, ev_setIx, ev_kSetIx3, ev_setO, ev_kSetIx1, ev_kSetIx2,
  bind_ok, bind_bad, liftM_some, liftM_none, noex_ok, noex_bad, g_ixT, g_ixL, g_ixR, g_add_i, g_sub, g_lt, g_le, g_gt, g_ge, g_is_n, g_isnot_n, g_is_i, g_isnot_i, g_is_t, g_isnot_t, g_eq, g_ne, eq_int, eq_str, eq_bl, eq_nn, eq_ni, eq_in, eq_t2, g_lenT, g_lenL, g_lenR, g_slT, g_slL, g_slS, at0, at1, at2, at3, at4, atm1,
  ev_setFld, ev_kSetFld1, ev_make, ev_kMake, ev_kMake2, ev_meth, ev_kMeth2, ev_lenO, ev_kLenO, ev_reprO, ev_kReprO, ev_kReprO2, ev_fmt, ev_js_nil, ev_js_cons, g_listC, g_tupleR, ev_forS, ev_kForS, ev_iter2, ev_enum2, ev_kIter2_l, ev_kIter2_t, ev_kIter2_s, ev_kEnum2_l, ev_kEnum2_t, ev_lc, ev_kLc, ev_kLcEnd, ev_lc_nil, ev_lc_cons, ev_lcO, ev_kLcT_t, ev_kLcT_f, ev_kLcE, wipeE, g_isi_n, g_isi_b, g_isi_i, g_isi_s, g_isi_t, g_isi_l, isA_ii, isA_ib, isA_it, isA_il, isA_bi, isA_bb, isA_bt, isA_bll, isA_ni, isA_nb, isA_nt, isA_nl, isA_si, isA_sb, isA_st, isA_sl, isA_tt, isA_tl, isA_ti, isA_tb, isA_lt, isA_ll, isA_li, isA_lb, g_neg, g_all, bls_nil, bls_cons, List.all_cons, List.all_nil, id_eq, Bool.and_true, Bool.true_and, Nat.reduceLT,
  app_at, app_set, atn2, atn3, atn4, ar1, ar2, nc0, nc1, nc2, nc3, nc4, nc5, Int.reduceEq, Int.reduceNeg, Int.reduceLT, Int.reduceLE, w_tt, w_to, w_tn, w_ot, w_oo, w_on, w_nt, w_no, w_nn, w_et, w_eo, sl_13, sl_03, sl_1_2, sl_1_3, sl_1_4, sl_03b, sl_03c, tgName, tgTup, tgAll,
  List.length_cons, List.length_nil, List.map_cons, List.map_nil, List.cons_append, List.nil_append, List.getElem?_cons_zero, List.getElem?_cons_succ, List.set_cons_zero, List.set_cons_succ, List.replicate, Option.map_some, Option.map_none, Option.bind_some, Option.bind_none, Bool.not_true, Bool.not_false, and_self, true_and, and_true, Bool.false_eq_true, decide_true, decide_false, reduceIte, Nat.reduceAdd, Nat.reduceSub, Nat.reduceLeDiff, Nat.zero_add, List.isEmpty_cons, List.isEmpty_nil])
theorem jn_opn {l q r : Pc} (h : jn l q = some r) : isOpn r = isOpn q := by
  cases l <;> cases q <;> simp only [jn] at h <;> first | (cases h; done) | skip
  · cases h; rfl
  all_goals (split at h; all_goals first | (cases h; rfl) | (cases h; done))
theorem nfS_last (acc : List Pc) (q : Pc) : ∃ r, (nfS acc q).getLast? = some r ∧ isOpn r = isOpn q := by
  unfold nfS
  cases h : acc.getLast? with
  | none => exact ⟨q, by simp, rfl⟩
  | some l =>
    cases hj : jn l q with
    | none => exact ⟨q, by simp [hj], rfl⟩
    | some r => exact ⟨r, by simp [hj], jn_opn hj⟩
theorem nfS_len (acc : List Pc) (q : Pc) : (nfS acc q).length ≤ acc.length + 1 := by
  unfold nfS
  split
  · simp
  · split
    · simp
    · simp
theorem nf_take_last (ps : List Pc) (i : Nat) (l : Pc) (h : (nf (ps.take i)).getLast? = some l) (hi : i ≤ ps.length) : ∃ q, (ps.take i).getLast? = some q ∧ isOpn l = isOpn q := by
  cases e : (ps.take i).getLast? with
  | none =>
    rw [List.getLast?_eq_none_iff] at e
    rw [e] at h
    cases h
  | some q =>
    obtain ⟨t, ht⟩ : ∃ t, ps.take i = t ++ [q] := ⟨(ps.take i).dropLast, by
      have hne : ps.take i ≠ [] := fun z => by rw [z] at e; cases e
      rw [List.getLast?_eq_some_getLast hne] at e
      have := List.dropLast_concat_getLast hne
      rw [Option.some.inj e] at this
      exact this.symm⟩
    refine ⟨q, rfl, ?_⟩
    rw [ht] at h
    unfold nf at h
    rw [List.foldl_append] at h
    obtain ⟨r, hr, ho⟩ := nfS_last (t.foldl nfS []) q
    have h' : (nfS (t.foldl nfS []) q).getLast? = some l := h
    rw [hr] at h'; cases h'
    exact ho
theorem nf_len : ∀ (ps acc : List Pc), (ps.foldl nfS acc).length ≤ acc.length + ps.length
  | [], acc => by simp
  | q :: r, acc => by
    have h1 := nf_len r (nfS acc q)
    have h2 := nfS_len acc q
    simp only [List.foldl_cons, List.length_cons]
    omega
theorem nf_run (x : D) (ps : List Pc) (src : Src) (M : Sto) (h : ∀ p ∈ ps.dropLast, isOpn p = false) (hl : ps.length < 10000000) (hat : ∀ i c, src.at_ i (M ++ [c]) = some ((ps[i]?).map Pc.d)) :
    ∃ a b, forS (tgName 2) nfBody src 20000000 0 [some x, some (.ref M.length), none, none] (M ++ [.lst []]) = .ok (.nx [some x, some (.ref M.length), a, b]) (M ++ [.lst ((nf ps).map Pc.d)]) := by
  obtain ⟨e, M', h1, ⟨a, b, h2⟩, h3⟩ := forS_inv (t := tgName 2) (fb := nfBody) (src := src) ps.length (fun i env M' => (∃ a b, env = [some x, some (.ref M.length), a, b]) ∧ M' = M ++ [.lst ((nf (ps.take i)).map Pc.d)])
    (fun env M' ⟨_, e⟩ => by rw [e, hat]; simp) (fun i env M' hi ⟨⟨a, b, e1⟩, e2⟩ => by
      subst e1 e2
      have hq : ps[i]? = some ps[i] := List.getElem?_eq_getElem hi
      have hlen : (nf (ps.take i)).length < 16777216 := by
        have := nf_len (ps.take i) []
        unfold nf
        simp at this
        omega
      obtain ⟨b', st⟩ := nf_step x b M (nf (ps.take i)) ps[i] (fun l hl => by
        obtain ⟨q, hq1, hq2⟩ := nf_take_last ps i l hl (by omega)
        rw [hq2]
        refine h q ?_
        have hm : q ∈ ps.take i := List.mem_of_getLast? hq1
        rw [List.dropLast_eq_take]
        exact (List.take_subset_take_left ps (by omega)) hm) hlen
      refine ⟨_, _, _, _, by rw [hat, hq]; rfl, rfl, st, ⟨_, _, rfl⟩, ?_⟩
      have et : ps.take (i + 1) = ps.take i ++ [ps[i]] := by rw [List.take_succ, hq]; rfl
      rw [et]
      unfold nf
      rw [List.foldl_append]
      rfl) ps.length 0 20000000 [some x, some (.ref M.length), none, none] (M ++ [.lst []]) (by simp) (by omega) ⟨⟨none, none, rfl⟩, rfl⟩
  subst h2 h3
  rw [List.take_length] at h1
  exact ⟨a, b, h1⟩
theorem closed_pc (k : Nat) (p : Pc) : closed k p.d = true := by cases p <;> simp [Pc.d, closed, closedAll]
theorem closed_pcs (k : Nat) : ∀ ps : List Pc, closedAll k (ps.map Pc.d) = true
  | [] => rfl
  | p :: r => by simp [closedAll, closed_pc, closed_pcs k r]
theorem closed_ints (k : Nat) : ∀ ns : List Int, closedAll k (ns.map D.int) = true
  | [] => rfl
  | n :: r => by simp [closedAll, closed, closed_ints k r]
theorem frz_new {M : Sto} (hM : PureS M) {L : List D} (hL : closedAll M.length L = true) : frzO M.length (.ref M.length) (M ++ [.lst L]) = .ok (.lst L) M := by
  unfold frzO thaw
  simp only [Nat.lt_irrefl, if_false, app_at, hL, if_true, List.take_left, hM M.length]
theorem normal_form_eq (x : D) (ps : List Pc) (M : Sto) (hx : isSeq x ps M) (h : ∀ p ∈ ps.dropLast, isOpn p = false) (hl : ps.length < 10000000) (hM : PureS M) :
    F_normal_form [x] M = .ok (.lst ((nf ps).map Pc.d)) M := by
  have fz : frzO M.length (.ref M.length) (M ++ [.lst ((nf ps).map Pc.d)]) = .ok (.lst ((nf ps).map Pc.d)) M := frz_new hM (closed_pcs _ _)
  have fin : ∀ a b src, forS (tgName 2) nfBody src 20000000 0 [some x, some (.ref M.length), none, none] (M ++ [.lst []]) = .ok (.nx [some x, some (.ref M.length), a, b]) (M ++ [.lst ((nf ps).map Pc.d)]) → kIter2 x (M ++ [.lst []]) = .ok src (M ++ [.lst []]) → F_normal_form [x] M = .ok (.lst ((nf ps).map Pc.d)) M := by
    intro a b src e e2
    unfold F_normal_form frz B_normal_form
    walk_at "ev"
    rw [e2]
    walk_at "ev"
    rw [show (dSeq _ _ : DS) = nfBody from rfl, e]
    walk_at "ev"
    exact fz
  rcases hx with rfl | rfl | ⟨n, rfl, hn, hm⟩
  · obtain ⟨a, b, e⟩ := nf_run (.lst (ps.map Pc.d)) ps (.items (ps.map Pc.d)) M h hl (fun i c => by show some _ = _; rw [List.getElem?_map])
    exact fin a b _ e rfl
  · obtain ⟨a, b, e⟩ := nf_run (.tup (ps.map Pc.d)) ps (.items (ps.map Pc.d)) M h hl (fun i c => by show some _ = _; rw [List.getElem?_map])
    exact fin a b _ e rfl
  · have hm' : ∀ c : Cell, (M ++ [c])[n]? = some (.lst (ps.map Pc.d)) := fun c => by rw [List.getElem?_append_left hn]; exact hm
    obtain ⟨a, b, e⟩ := nf_run (.ref n) ps (.cell n) M h hl (fun i c => by
      show (celL (M ++ [c])[n]?).map _ = _
      rw [hm' c, celL_l]
      simp only [List.getElem?_map, Option.map_some])
    exact fin a b _ e (ev_kIter2_r _ n _ (hm' _))
theorem forS_items (t : DG) (fb : DS) (l : List D) : ∀ (f i : Nat) (env : En) (M : Sto), l.length < f + i → i ≤ l.length → forS t fb (.items l) f i env M = forGo t fb (l.drop i) env M
  | 0, i, env, M, h1, h2 => absurd h1 (by omega)
  | f + 1, i, env, M, h1, h2 => by
    unfold forS
    rw [show (Src.items l).at_ i M = some l[i]? from rfl]
    by_cases hi : i < l.length
    · have hq : l[i]? = some l[i] := List.getElem?_eq_getElem hi
      have hd : l.drop i = l[i] :: l.drop (i + 1) := List.drop_eq_getElem_cons hi
      rw [hq, hd]
      unfold forGo
      simp only
      cases t l[i] env with
      | none => rfl
      | some env1 =>
        show (fb env1 M).bind _ = (fb env1 M).bind _
        cases fb env1 M with
        | bad => rfl
        | exc _ _ _ => rfl
        | ok fl M1 =>
          cases fl with
          | nx e => exact forS_items t fb l f (i + 1) e M1 (by omega) hi
          | ct e => exact forS_items t fb l f (i + 1) e M1 (by omega) hi
          | bk e => rfl
          | rt d => rfl
    · have hq : l[i]? = none := List.getElem?_eq_none_iff.mpr (by omega)
      have hd : l.drop i = [] := List.drop_eq_nil_of_le (by omega)
      rw [hq, hd]
      rfl
/-! ### starts_of -/
def rc : Pc → Int
  | .top n => n
  | .old a b => b - a + 1
  | .opn _ => 0
  | .new _ _ n => n
theorem row_count_eq (p : Pc) (h : isOpn p = false) (M : Sto) : F_row_count [p.d] M = .ok (.int (rc p)) M := by
  unfold F_row_count B_row_count
  cases p <;> simp only [Pc.d, rc, isOpn] at h ⊢
  all_goals (try (cases h; done))
  all_goals walk_at "ev"
def soBody : DS := (dDrop (dLm gApp (dVar 1) (dConsA (dBin gAdd (dBin gIx (dVar 1) (dUn gNeg (dC (.int 1)))) (dCall F_row_count (dConsA (dVar 2) dNilA))) dNilA)))
/-- where the pieces begin, the first at s -/
def stsF : Int → List Pc → List Int
  | s, [] => [s]
  | s, p :: r => s :: stsF (s + rc p) r
theorem stsF_len : ∀ (s : Int) (ps : List Pc), (stsF s ps).length = ps.length + 1
  | _, [] => rfl
  | s, p :: r => by simp [stsF, stsF_len]
theorem so_loop (X : D) (M : Sto) : ∀ (ps : List Pc) (acc : List Int) (s : Int) (a : Option D), (∀ p ∈ ps, isOpn p = false) → acc.length + ps.length < 16777215 →
    ∃ (a' : Option D), forGo (tgName 2) soBody (ps.map Pc.d) [some X, some (.ref M.length), a] (M ++ [.lst ((acc ++ [s]).map D.int)]) = .ok (.nx [some X, some (.ref M.length), a']) (M ++ [.lst ((acc ++ stsF s ps).map D.int)])
  | [], acc, s, a, _, _ => ⟨a, rfl⟩
  | q :: r, acc, s, a, h, hl => by
    simp only [List.length_cons] at hl
    obtain ⟨a', e⟩ := so_loop X M r (acc ++ [s]) (s + rc q) (some q.d) (fun p hp => h p (List.mem_cons_of_mem _ hp)) (by simp; omega)
    refine ⟨a', ?_⟩
    have em : (acc ++ [s]).map D.int = acc.map D.int ++ [.int s] := by simp
    have st : soBody [some X, some (.ref M.length), some q.d] (M ++ [.lst ((acc ++ [s]).map D.int)]) = .ok (.nx [some X, some (.ref M.length), some q.d]) (M ++ [.lst ((acc ++ [s] ++ [s + rc q]).map D.int)]) := by
      unfold soBody
      rw [em]
      walk_at "ev"
      rw [row_count_eq q (h q List.mem_cons_self)]
      walk_at "ev"
      rw [appL_ok _ _ (by simp; omega)]
      walk_at "ev"
      simp
    simp only [List.map_cons, ev_go_cons, tgName, List.set_cons_zero, List.set_cons_succ, ev_goO]
    rw [st]
    simp only [bind_ok, ev_kGo_nx]
    rw [e]
    simp [stsF]
theorem cut_m1 (l : List D) : Ip.cutD l none (some (-1)) = l.dropLast := by
  unfold Ip.cutD HT.sIx
  simp only [List.drop_zero, Nat.sub_zero]
  rw [List.dropLast_eq_take]
  congr 1
  rw [if_pos (by decide)]
  omega
theorem starts_of_eq' (ps : List Pc) (h : ∀ p ∈ ps.dropLast, isOpn p = false) (hl : ps.length < 10000000) (M : Sto) (hM : PureS M) : F_starts_of [.lst (ps.map Pc.d)] M = .ok (.lst ((stsF 0 ps.dropLast).map D.int)) M := by
  obtain ⟨a', e⟩ := so_loop (.lst (ps.map Pc.d)) M ps.dropLast [] 0 none h (by simp; omega)
  have fz : frzO M.length (.ref M.length) (M ++ [.lst ((stsF 0 ps.dropLast).map D.int)]) = .ok (.lst ((stsF 0 ps.dropLast).map D.int)) M := frz_new hM (closed_ints _ _)
  unfold F_starts_of frz B_starts_of
  have ed : (ps.map Pc.d).dropLast = ps.dropLast.map Pc.d := by simp [List.map_dropLast]
  simp only [List.nil_append, List.map_cons, List.map_nil] at e
  walk_at "ev"
  rw [cut_m1, ed]
  rw [show (dDrop _ : DS) = soBody from rfl, forS_items _ _ _ _ _ _ _ (by simp; omega) (Nat.zero_le _), List.drop_zero, e]
  walk_at "ev"
  exact fz
end T
end
section
set_option Elab.async false
set_option linter.all false
set_option maxRecDepth 100000
set_option maxHeartbeats 4000000
namespace T
open PySem L2 Ip
local macro_rules | `(tactic| walk_at "ev") => `(tactic| simp only [ev_runF, ev_kRun_rt, ev_kRun_nx, ev_seq, ev_kSeq_nx, ev_kSeq_rt, ev_kSeq_bk, ev_kSeq_ct, ev_skip, ev_set, ev_kSet, ev_drop, ev_kDrop, ev_ret, ev_kRet, ev_retN, ev_if, ev_kIf_t, ev_kIf_f, ev_bad, ev_asg, ev_kAsg, ev_asgO, ev_par, ev_kPar, ev_for, ev_kFor, ev_go_nil, ev_go_cons, ev_goO, ev_kGo_nx, ev_kGo_ct, ev_kGo_rt, ev_iter, ev_kIter_l, ev_kIter_t, ev_kIter_s, ev_rng1, ev_rng2, ev_enum, ev_kEnum_l, ev_kEnum_t,
  ev_var, ev_varO, celL_l, asL_ref, asL_lst, ev_c, ev_bin, ev_kBin, ev_kBin2, ev_un, ev_kUn, ev_nilA, ev_consA, ev_kCons, ev_kCons2, ev_tup, ev_lst, ev_lstC, ev_kTup, ev_kLst, ev_kLstC, ev_callB, ev_kCallB, ev_call, ev_kCall, ev_ifE, ev_kIfE_t, ev_kIfE_f, ev_andV, ev_orV, ev_notV, ev_kAndV_t, ev_kAndV_f, ev_kOrV_t, ev_kOrV_f, ev_kNotV, ev_and, ev_or, ev_not, ev_kAnd_t, ev_kAnd_f, ev_kOr_t, ev_kOr_f, ev_kNot, ev_tru, ev_b, ev_kTru_bl, ev_kTru_lst, ev_kTru_tup, ev_kTru_ref, ev_truO, ev_kB, ev_yes,
  ev_chain, ev_kCh0, ev_kCh1, ev_kCh2_t, ev_kCh2_f, ev_kCh3, ev_sl, ev_kSl1, ev_kSl2, ev_kSl3, ev_part, ev_kPart, ev_noPart, ev_fld, ev_kFld, ev_fldO, ev_lm, ev_kLm, ev_lmO, ev_kLm2, g_app, g_clear, ev_setIx, ev_kSetIx3, ev_setO, ev_kSetIx1, ev_kSetIx2,
  bind_ok, bind_bad, liftM_some, liftM_none, noex_ok, noex_bad, g_ixT, g_ixL, g_ixR, g_add_i, g_sub, g_lt, g_le, g_gt, g_ge, g_is_n, g_isnot_n, g_is_i, g_isnot_i, g_is_t, g_isnot_t, g_eq, g_ne, eq_int, eq_str, eq_bl, eq_nn, eq_ni, eq_in, eq_t2, g_lenT, g_lenL, g_lenR, g_slT, g_slL, g_slS, at0, at1, at2, at3, at4, atm1,
  ev_setFld, ev_kSetFld1, ev_make, ev_kMake, ev_kMake2, ev_meth, ev_kMeth2, ev_lenO, ev_kLenO, ev_reprO, ev_kReprO, ev_kReprO2, ev_fmt, ev_js_nil, ev_js_cons, g_listC, g_tupleR, ev_forS, ev_kForS, ev_iter2, ev_enum2, ev_kIter2_l, ev_kIter2_t, ev_kIter2_s, ev_kEnum2_l, ev_kEnum2_t, ev_lc, ev_kLc, ev_kLcEnd, ev_lc_nil, ev_lc_cons, ev_lcO, ev_kLcT_t, ev_kLcT_f, ev_kLcE, wipeE, g_isi_n, g_isi_b, g_isi_i, g_isi_s, g_isi_t, g_isi_l, isA_ii, isA_ib, isA_it, isA_il, isA_bi, isA_bb, isA_bt, isA_bll, isA_ni, isA_nb, isA_nt, isA_nl, isA_si, isA_sb, isA_st, isA_sl, isA_tt, isA_tl, isA_ti, isA_tb, isA_lt, isA_ll, isA_li, isA_lb, g_neg, g_all, bls_nil, bls_cons, List.all_cons, List.all_nil, id_eq, Bool.and_true, Bool.true_and, Nat.reduceLT,
  app_at, app_set, atn2, atn3, atn4, ar1, ar2, nc0, nc1, nc2, nc3, nc4, nc5, Int.reduceEq, Int.reduceNeg, Int.reduceLT, Int.reduceLE, w_tt, w_to, w_tn, w_ot, w_oo, w_on, w_nt, w_no, w_nn, w_et, w_eo, sl_13, sl_03, sl_1_2, sl_1_3, sl_1_4, sl_03b, sl_03c, tgName, tgTup, tgAll,
  List.length_cons, List.length_nil, List.map_cons, List.map_nil, List.cons_append, List.nil_append, List.getElem?_cons_zero, List.getElem?_cons_succ, List.set_cons_zero, List.set_cons_succ, List.replicate, Option.map_some, Option.map_none, Option.bind_some, Option.bind_none, Bool.not_true, Bool.not_false, and_self, true_and, and_true, Bool.false_eq_true, decide_true, decide_false, reduceIte, Nat.reduceAdd, Nat.reduceSub, Nat.reduceLeDiff, Nat.zero_add, List.isEmpty_cons, List.isEmpty_nil])
theorem mf_opn {p q : Pc} (h : mf p q = true) : isOpn p = false := by cases p <;> first | rfl | (cases h; done)
theorem chain_drop : ∀ (ps : List Pc) (p : Pc), chain p ps → ∀ q ∈ (p :: ps).dropLast, isOpn q = false
  | [], p, _, q, hq => by simp at hq
  | r :: ps, p, h, q, hq => by
    simp only [List.dropLast_cons₂, List.mem_cons] at hq
    rcases hq with rfl | hq
    · exact mf_opn h.2.1
    · exact chain_drop ps r h.2.2 q hq
theorem valid_drop {ps : List Pc} (h : valid ps) : ∀ q ∈ ps.dropLast, isOpn q = false := by
  cases ps with
  | nil => exact h.elim
  | cons p r => exact chain_drop r p h.2.1
abbrev lks : List Str := ["parts", "starts"]
theorem lk_p (a b : D) : (lks.zip [a, b]).lookup (Str.ofString "parts") = some a := by
  show List.lookup (Str.ofString "parts") [(Str.ofString "parts", a), (Str.ofString "starts", b)] = some a
  simp [List.lookup]
theorem lk_n (a b : D) (m : Str) (h1 : (m == Str.ofString "parts") = false) (h2 : (m == Str.ofString "starts") = false) : (lks.zip [a, b]).lookup m = none := by
  show List.lookup m [(Str.ofString "parts", a), (Str.ofString "starts", b)] = none
  simp only [List.lookup, h1, h2]
def lay (qs : List Pc) (ss : List Int) : D := .obj "Layout" lks [.lst (qs.map Pc.d), .lst (ss.map D.int)]
theorem pureS_ins {M : Sto} (h : PureS M) {c : Str} {ks : List Str} {ds : List D} (hd : ∀ k, closedAll k ds = true) : PureS (M ++ [.ins c ks ds]) := fun k => by
  rw [List.all_append, h k]; simp [cellClosed, hd k]
theorem pureS_lst {M : Sto} (h : PureS M) {ds : List D} (hd : ∀ k, closedAll k ds = true) : PureS (M ++ [.lst ds]) := fun k => by
  rw [List.all_append, h k]; simp [cellClosed, hd k]
theorem init_eq' (x : D) (ps qs : List Pc) (M : Sto) (hx : isSeq x ps M) (hv : valid ps) (hq : nf ps = qs) (hqd : ∀ q ∈ qs.dropLast, isOpn q = false) (hl : ps.length ≤ 1000000) (hn : qs.length ≤ 60) (hM : PureS M) :
    F_Layout___init__ [.ref M.length, x] (M ++ [.ins "Layout" [] []]) = .ok .non (M ++ [.ins "Layout" lks [.lst (qs.map Pc.d), .lst ((stsF 0 qs.dropLast).map D.int)]]) := by
  have h1 : PureS (M ++ [.ins "Layout" [] []]) := pureS_ins hM fun _ => rfl
  have h2 : PureS (M ++ [.ins "Layout" ["parts"] [.lst (qs.map Pc.d)]]) := pureS_ins hM fun k => by simp [closedAll, closed, closed_pcs]
  have es := starts_of_eq' qs hqd (by omega) _ h2
  unfold F_Layout___init__ B_Layout___init__
  have hx1 : isSeq x ps (M ++ [.ins "Layout" [] []]) := by
    rcases hx with h | h | ⟨n, h, hn, hm⟩
    · exact .inl h
    · exact .inr (.inl h)
    · exact .inr (.inr ⟨n, h, by simp; omega, by rw [List.getElem?_append_left hn]; exact hm⟩)
  have hgt : ¬ (60 : Int) < ((qs.map Pc.d).length : Nat) := by rw [List.length_map]; omega
  walk_at "ev"
  rw [first_wrong_ok x ps _ hx1 hv (by omega)]
  walk_at "ev"
  rw [normal_form_eq x ps _ hx1 (valid_drop hv) (by omega) h1, hq]
  walk_at "ev"
  simp only [hgt, decide_false]
  walk_at "ev"
  rw [ev_kSetFld2 (h := app_at _ _) (hk := by decide)]
  walk_at "ev"
  simp only [putKs, putVs]
  rw [es]
  walk_at "ev"
  rw [ev_kSetFld2 (h := app_at _ _) (hk := by decide)]
  walk_at "ev"
  rfl
theorem make_eq' (x : D) (ps qs : List Pc) (M : Sto) (hx : isSeq x ps M) (hv : valid ps) (hq : nf ps = qs) (hqd : ∀ q ∈ qs.dropLast, isOpn q = false) (hl : ps.length ≤ 1000000) (hn : qs.length ≤ 60) (hM : PureS M) :
    kMake "Layout" F_Layout___init__ [x] M = .ok (lay qs (stsF 0 qs.dropLast)) M := by
  have e := init_eq' x ps qs M hx hv hq hqd hl hn hM
  rw [ev_kMake, e, noex_ok, bind_ok, ev_kMake2]
  unfold frzO thaw
  have hc : closedAll M.length [D.lst (qs.map Pc.d), .lst ((stsF 0 qs.dropLast).map D.int)] = true := by simp [closedAll, closed, closed_pcs, closed_ints]
  simp only [Nat.lt_irrefl, if_false, app_at, hc, if_true, List.take_left, hM M.length]
  rfl
theorem init_eq (x : D) (ps qs : List Pc) (M : Sto) (hx : isSeq x ps M) (hv : valid ps) (hq : nf ps = qs) (hqd : ∀ q ∈ qs.dropLast, isOpn q = false) (hl : ps.length ≤ 1000000) (hn : qs.length ≤ 60) (hM : PureS M) :
    ∃ ss : List Int, F_Layout___init__ [.ref M.length, x] (M ++ [.ins "Layout" [] []]) = .ok .non (M ++ [.ins "Layout" lks [.lst (qs.map Pc.d), .lst (ss.map D.int)]]) := ⟨_, init_eq' x ps qs M hx hv hq hqd hl hn hM⟩
theorem make_eq (x : D) (ps qs : List Pc) (M : Sto) (hx : isSeq x ps M) (hv : valid ps) (hq : nf ps = qs) (hqd : ∀ q ∈ qs.dropLast, isOpn q = false) (hl : ps.length ≤ 1000000) (hn : qs.length ≤ 60) (hM : PureS M) :
    ∃ ss : List Int, kMake "Layout" F_Layout___init__ [x] M = .ok (lay qs ss) M := ⟨_, make_eq' x ps qs M hx hv hq hqd hl hn hM⟩
end T
end
section
set_option Elab.async false
set_option linter.all false
set_option maxRecDepth 100000
set_option maxHeartbeats 4000000
namespace T
open PySem L2 Ip
theorem p1 (a b c d e y : D) : putL 1 y [a, b, c, d, e] = some [a, y, c, d, e] := rfl
theorem p2 (a b c d e y : D) : putL 2 y [a, b, c, d, e] = some [a, b, y, d, e] := rfl
theorem p3 (a b c d e y : D) : putL 3 y [a, b, c, d, e] = some [a, b, c, y, e] := rfl
theorem p4 (a b c d e y : D) : putL 4 y [a, b, c, d, e] = some [a, b, c, d, y] := rfl
theorem gp (M : Sto) : gPow (.int 10) (.int 18) M = some (.int 1000000000000000000, M) := by
  simp [gPow, gIntC]
theorem gm1 (i : Int) (M : Sto) : gMul (.int i) (.int 48271) M = some (.int (i * 48271), M) := g_mul M i 48271 (Or.inr (by decide))
theorem gm2 (i : Int) (M : Sto) : gMul (.int i) (.int 69621) M = some (.int (i * 69621), M) := g_mul M i 69621 (Or.inr (by decide))
theorem gm3 (i : Int) (M : Sto) : gMul (.int i) (.int 5) M = some (.int (i * 5), M) := g_mul M i 5 (Or.inr (by decide))
theorem gm4 (i : Int) (M : Sto) : gMul (.int i) (.int 39373) M = some (.int (i * 39373), M) := g_mul M i 39373 (Or.inr (by decide))
theorem gm5 (i : Int) (M : Sto) : gMul (.int 1013904223) (.int i) M = some (.int (1013904223 * i), M) := g_mul M 1013904223 i (Or.inl (by decide))
theorem gmd (i : Int) (M : Sto) : gMod (.int i) (.int 2147483563) M = some (.int (i % 2147483563), M) := g_mod M i 2147483563 (by decide)
theorem gdv (i : Int) (M : Sto) : gDiv (.int i) (.int 37) M = some (.int (i / 37), M) := g_div M i 37 (by decide) (by decide)
local macro_rules | `(tactic| walk_at "ev") => `(tactic| simp only [ev_runF, ev_kRun_rt, ev_kRun_nx, ev_seq, ev_kSeq_nx, ev_kSeq_rt, ev_kSeq_bk, ev_kSeq_ct, ev_skip, ev_set, ev_kSet, ev_drop, ev_kDrop, ev_ret, ev_kRet, ev_retN, ev_if, ev_kIf_t, ev_kIf_f, ev_bad, ev_asg, ev_kAsg, ev_asgO, ev_par, ev_kPar, ev_for, ev_kFor, ev_go_nil, ev_go_cons, ev_goO, ev_kGo_nx, ev_kGo_ct, ev_kGo_rt, ev_iter, ev_kIter_l, ev_kIter_t, ev_kIter_s, ev_rng1, ev_rng2, ev_enum, ev_kEnum_l, ev_kEnum_t,
  ev_var, ev_varO, celL_l, asL_ref, asL_lst, ev_c, ev_bin, ev_kBin, ev_kBin2, ev_un, ev_kUn, ev_nilA, ev_consA, ev_kCons, ev_kCons2, ev_tup, ev_lst, ev_lstC, ev_kTup, ev_kLst, ev_kLstC, ev_callB, ev_kCallB, ev_call, ev_kCall, ev_ifE, ev_kIfE_t, ev_kIfE_f, ev_andV, ev_orV, ev_notV, ev_kAndV_t, ev_kAndV_f, ev_kOrV_t, ev_kOrV_f, ev_kNotV, ev_and, ev_or, ev_not, ev_kAnd_t, ev_kAnd_f, ev_kOr_t, ev_kOr_f, ev_kNot, ev_tru, ev_b, ev_kTru_bl, ev_kTru_lst, ev_kTru_tup, ev_kTru_ref, ev_truO, ev_kB, ev_yes,
  ev_chain, ev_kCh0, ev_kCh1, ev_kCh2_t, ev_kCh2_f, ev_kCh3, ev_sl, ev_kSl1, ev_kSl2, ev_kSl3, ev_part, ev_kPart, ev_noPart, ev_fld, ev_kFld, ev_fldO, ev_lm, ev_kLm, ev_lmO, ev_kLm2, g_app, g_clear, ev_setIx, ev_kSetIx3, ev_setO, ev_kSetIx1, ev_kSetIx2,
  bind_ok, bind_bad, liftM_some, liftM_none, noex_ok, noex_bad, g_ixT, g_ixL, g_ixR, g_add_i, g_sub, g_lt, g_le, g_gt, g_ge, g_is_n, g_isnot_n, g_is_i, g_isnot_i, g_is_t, g_isnot_t, g_eq, g_ne, eq_int, eq_str, eq_bl, eq_nn, eq_ni, eq_in, eq_t2, g_lenT, g_lenL, g_lenR, g_slT, g_slL, g_slS, at0, at1, at2, at3, at4, atm1,
  ev_setFld, ev_kSetFld1, ev_make, ev_kMake, ev_kMake2, ev_meth, ev_kMeth2, ev_lenO, ev_kLenO, ev_reprO, ev_kReprO, ev_kReprO2, ev_fmt, ev_js_nil, ev_js_cons, g_listC, g_tupleR, ev_forS, ev_kForS, ev_iter2, ev_enum2, ev_kIter2_l, ev_kIter2_t, ev_kIter2_s, ev_kEnum2_l, ev_kEnum2_t, ev_lc, ev_kLc, ev_kLcEnd, ev_lc_nil, ev_lc_cons, ev_lcO, ev_kLcT_t, ev_kLcT_f, ev_kLcE, wipeE, g_isi_n, g_isi_b, g_isi_i, g_isi_s, g_isi_t, g_isi_l, isA_ii, isA_ib, isA_it, isA_il, isA_bi, isA_bb, isA_bt, isA_bll, isA_ni, isA_nb, isA_nt, isA_nl, isA_si, isA_sb, isA_st, isA_sl, isA_tt, isA_tl, isA_ti, isA_tb, isA_lt, isA_ll, isA_li, isA_lb, g_neg, g_all, bls_nil, bls_cons, List.all_cons, List.all_nil, id_eq, Bool.and_true, Bool.true_and, Nat.reduceLT,
  app_at, app_set, atn2, atn3, atn4, ar1, ar2, nc0, nc1, nc2, nc3, nc4, nc5, Int.reduceEq, Int.reduceNeg, Int.reduceLT, Int.reduceLE, w_tt, w_to, w_tn, w_ot, w_oo, w_on, w_nt, w_no, w_nn, w_et, w_eo, sl_13, sl_03, sl_1_2, sl_1_3, sl_1_4, sl_03b, sl_03c, tgName, tgTup, tgAll,
  List.length_cons, List.length_nil, List.map_cons, List.map_nil, List.cons_append, List.nil_append, List.getElem?_cons_zero, List.getElem?_cons_succ, List.set_cons_zero, List.set_cons_succ, List.replicate, Option.map_some, Option.map_none, Option.bind_some, Option.bind_none, Bool.not_true, Bool.not_false, and_self, true_and, and_true, Bool.false_eq_true, decide_true, decide_false, reduceIte, Nat.reduceAdd, Nat.reduceSub, Nat.reduceLeDiff, Nat.zero_add, List.isEmpty_cons, List.isEmpty_nil, p1, p2, p3, p4, gp, gm1, gm2, gm3, gm4, gm5, gmd, gdv, List.length_map])
theorem in64_small {m : Int} (h : 0 ≤ m) (h' : m < 2147483563) : in64 m = true := by
  unfold in64
  simp only [Bool.and_eq_true, decide_eq_true_eq]
  constructor <;> omega
def plA : DS := (dSetIx (dVar 0) (dC (.int 4)) (dBin gAdd (dBin gIx (dVar 0) (dC (.int 4))) (dC (.int 1))))
def plB : DS := (dIf (dAnd (dB (dBin (gEq false) (dBin gIx (dVar 0) (dC (.int 2))) (dC (.int 0)))) (dB (dBin gLt (dBin gIx (dVar 0) (dC (.int 1))) (dCallB gLen (dConsA (dBin gIx (dVar 0) (dC (.int 0))) dNilA))))) (dSeq (dSet 3 (dBin gIx (dBin gIx (dVar 0) (dC (.int 0))) (dBin gIx (dVar 0) (dC (.int 1)))))
      (dSeq (dSetIx (dVar 0) (dC (.int 1)) (dBin gAdd (dBin gIx (dVar 0) (dC (.int 1))) (dC (.int 1))))
      (dIf (dB (dBin gGe (dVar 3) (dBin gPow (dC (.int 10)) (dC (.int 18))))) (dSetIx (dVar 0) (dC (.int 2)) (dVar 3)) (dSeq (dSet 2 (dBin gAdd (dBin gMul (dBin gIx (dVar 0) (dC (.int 3))) (dC (.int 48271))) (dBin gMul (dBin gMod (dVar 3) (dC (.int 2147483563))) (dC (.int 69621)))))
      (dSetIx (dVar 0) (dC (.int 3)) (dBin gMod (dBin gAdd (dVar 2) (dC (.int 11))) (dC (.int 2147483563)))))))) dSkip)
/-- the draw itself, once the number to draw from is there -/
def plTail : DS := (dSeq (dIf (dB (dBin gGt (dBin gIx (dVar 0) (dC (.int 2))) (dC (.int 0)))) (dSeq (dSet 4 (dBin gMod (dBin gIx (dVar 0) (dC (.int 2))) (dVar 1)))
      (dSeq (dSetIx (dVar 0) (dC (.int 2)) (dBin gDiv (dBin gIx (dVar 0) (dC (.int 2))) (dVar 1)))
      (dRet (dVar 4)))) dSkip)
      (dSeq (dSet 2 (dBin gAdd (dBin gMul (dBin gMul (dBin gIx (dVar 0) (dC (.int 3))) (dBin gIx (dVar 0) (dC (.int 3)))) (dC (.int 5))) (dBin gMul (dBin gIx (dVar 0) (dC (.int 3))) (dC (.int 39373)))))
      (dSeq (dSetIx (dVar 0) (dC (.int 3)) (dBin gMod (dBin gAdd (dVar 2) (dBin gMul (dC (.int 1013904223)) (dBin gIx (dVar 0) (dC (.int 4))))) (dC (.int 2147483563))))
      (dRet (dBin gMod (dBin gDiv (dBin gIx (dVar 0) (dC (.int 3))) (dC (.int 37))) (dVar 1))))))
theorem tail_ok (ns : List Int) (i j m c n : Int) (a b d : Option D) (G : Sto) (hi : 0 ≤ i) (hj : 0 ≤ j) (hm : 0 ≤ m) (hm' : m < 2147483563) (hc : 0 ≤ c) (hn : 0 < n) (hn' : n < 1073741824) :
    ∃ r l', plTail [some (.ref 0), some (.int n), a, b, d] (.lst (bagD ns i j m c) :: G) = .ok (.rt (.int r)) (.lst l' :: G) ∧ 0 ≤ r ∧ r < n ∧ BagOk l' := by
  unfold plTail bagD
  by_cases h : 0 < j
  · refine ⟨j % n, bagD ns i (j / n) m c, ?_, Int.emod_nonneg _ (by omega), Int.emod_lt_of_pos _ hn, ns, i, j / n, m, c, rfl, hi, Int.ediv_nonneg hj (by omega), hm, hm', hc⟩
    walk_at "ev"
    simp only [h, decide_true]
    walk_at "ev"
    rw [g_mod _ _ _ hn]
    walk_at "ev"
    rw [g_div _ _ _ hn hn']
    walk_at "ev"
    simp only [bagD]
  · refine ⟨(m * m * 5 + m * 39373 + 1013904223 * c) % 2147483563 / 37 % n, bagD ns i j ((m * m * 5 + m * 39373 + 1013904223 * c) % 2147483563) c, ?_, Int.emod_nonneg _ (by omega), Int.emod_lt_of_pos _ hn, ns, i, j, _, c, rfl, hi, hj, Int.emod_nonneg _ (by decide), Int.emod_lt_of_pos _ (by decide), hc⟩
    walk_at "ev"
    simp only [h, decide_false]
    walk_at "ev"
    rw [g_mul _ m m (Or.inl (in64_small hm hm'))]
    walk_at "ev"
    rw [g_mod _ _ _ hn]
    walk_at "ev"
    rfl
theorem at_ints {ns : List Int} {i : Int} (h : 0 ≤ i) (h' : i < ns.length) : ∃ f, atI (ns.map D.int) i = some (.int f) := by
  obtain ⟨k, rfl⟩ : ∃ k : Nat, i = k := ⟨i.toNat, by omega⟩
  have hk : k < ns.length := by omega
  exact ⟨ns[k], atI_nat (by simp [hk])⟩
theorem pull_ok (l : List D) (G : Sto) (n : Int) (hl : BagOk l) (hn : 0 < n) (hn' : n < 1073741824) :
    ∃ r l', F__law_pull [.ref 0, .int n] (.lst l :: G) = .ok (.int r) (.lst l' :: G) ∧ 0 ≤ r ∧ r < n ∧ BagOk l' := by
  obtain ⟨ns, i, j, m, c, rfl, hi, hj, hm, hm', hc⟩ := hl
  -- the counter goes up
  have body : ∀ (a b d : Option D) (i j m : Int), 0 ≤ i → 0 ≤ j → 0 ≤ m → m < 2147483563 → ∃ r l', (plTail [some (.ref 0), some (.int n), a, b, d] (.lst (bagD ns i j m (c + 1)) :: G)).bind kRun = .ok (.int r) (.lst l' :: G) ∧ 0 ≤ r ∧ r < n ∧ BagOk l' := by
    intro a b d i j m h1 h2 h3 h4
    obtain ⟨r, l', e, q⟩ := tail_ok ns i j m (c + 1) n a b d G h1 h2 h3 h4 (by omega) hn hn'
    exact ⟨r, l', by rw [e]; rfl, q⟩
  unfold F__law_pull
  rw [show B__law_pull = dSeq plA (dSeq plB plTail) from rfl]
  unfold plA plB
  by_cases h : j = 0 ∧ i < ns.length
  · obtain ⟨h1, h2⟩ := h
    obtain ⟨f, hf⟩ := at_ints hi h2
    by_cases hb : 1000000000000000000 ≤ f
    · obtain ⟨r, l', e, q⟩ := body none (some (.int f)) none (i + 1) f m (by omega) (by omega) hm hm'
      refine ⟨r, l', ?_, q⟩
      rw [← e]
      unfold bagD
      walk_at "ev"
      simp only [h1, decide_true]
      walk_at "ev"
      simp only [decide_true, List.length_map, h2]
      walk_at "ev"
      rw [hf]
      walk_at "ev"
      simp only [hb, decide_true]
      walk_at "ev"
    · obtain ⟨r, l', e, q⟩ := body (some (.int (m * 48271 + f % 2147483563 * 69621))) (some (.int f)) none (i + 1) j ((m * 48271 + f % 2147483563 * 69621 + 11) % 2147483563) (by omega) hj (Int.emod_nonneg _ (by decide)) (Int.emod_lt_of_pos _ (by decide))
      refine ⟨r, l', ?_, q⟩
      rw [← e]
      unfold bagD
      walk_at "ev"
      simp only [h1, decide_true]
      walk_at "ev"
      simp only [decide_true, List.length_map, h2]
      walk_at "ev"
      rw [hf]
      walk_at "ev"
      simp only [hb, decide_false]
      walk_at "ev"
  · obtain ⟨r, l', e, q⟩ := body none none none i j m hi hj hm hm'
    refine ⟨r, l', ?_, q⟩
    rw [← e]
    unfold bagD
    by_cases hj0 : j = 0
    · have h2 : ¬ i < ns.length := fun z => h ⟨hj0, z⟩
      walk_at "ev"
      simp only [hj0, decide_true]
      walk_at "ev"
      simp only [decide_false, List.length_map, h2]
      walk_at "ev"
    · walk_at "ev"
      simp only [hj0, decide_false]
      walk_at "ev"
end T
end
section
set_option Elab.async false
set_option linter.all false
set_option maxRecDepth 100000
set_option maxHeartbeats 4000000
namespace T
open PySem L2 Ip
local macro_rules | `(tactic| walk_at "ev") => `(tactic| simp only [ev_runF, ev_kRun_rt, ev_kRun_nx, ev_seq, ev_kSeq_nx, ev_kSeq_rt, ev_kSeq_bk, ev_kSeq_ct, ev_skip, ev_set, ev_kSet, ev_drop, ev_kDrop, ev_ret, ev_kRet, ev_retN, ev_if, ev_kIf_t, ev_kIf_f, ev_bad, ev_asg, ev_kAsg, ev_asgO, ev_par, ev_kPar, ev_for, ev_kFor, ev_go_nil, ev_go_cons, ev_goO, ev_kGo_nx, ev_kGo_ct, ev_kGo_rt, ev_iter, ev_kIter_l, ev_kIter_t, ev_kIter_s, ev_rng1, ev_rng2, ev_enum, ev_kEnum_l, ev_kEnum_t,
  ev_var, ev_varO, celL_l, asL_ref, asL_lst, ev_c, ev_bin, ev_kBin, ev_kBin2, ev_un, ev_kUn, ev_nilA, ev_consA, ev_kCons, ev_kCons2, ev_tup, ev_lst, ev_lstC, ev_kTup, ev_kLst, ev_kLstC, ev_callB, ev_kCallB, ev_call, ev_kCall, ev_ifE, ev_kIfE_t, ev_kIfE_f, ev_andV, ev_orV, ev_notV, ev_kAndV_t, ev_kAndV_f, ev_kOrV_t, ev_kOrV_f, ev_kNotV, ev_and, ev_or, ev_not, ev_kAnd_t, ev_kAnd_f, ev_kOr_t, ev_kOr_f, ev_kNot, ev_tru, ev_b, ev_kTru_bl, ev_kTru_lst, ev_kTru_tup, ev_kTru_ref, ev_truO, ev_kB, ev_yes,
  ev_chain, ev_kCh0, ev_kCh1, ev_kCh2_t, ev_kCh2_f, ev_kCh3, ev_sl, ev_kSl1, ev_kSl2, ev_kSl3, ev_part, ev_kPart, ev_noPart, ev_fld, ev_kFld, ev_fldO, ev_lm, ev_kLm, ev_lmO, ev_kLm2, g_app, g_clear, ev_setIx, ev_kSetIx3, ev_setO, ev_kSetIx1, ev_kSetIx2,
  bind_ok, bind_bad, liftM_some, liftM_none, noex_ok, noex_bad, g_ixT, g_ixL, g_ixR, g_add_i, g_sub, g_lt, g_le, g_gt, g_ge, g_is_n, g_isnot_n, g_is_i, g_isnot_i, g_is_t, g_isnot_t, g_eq, g_ne, eq_int, eq_str, eq_bl, eq_nn, eq_ni, eq_in, eq_t2, g_lenT, g_lenL, g_lenR, g_slT, g_slL, g_slS, at0, at1, at2, at3, at4, atm1,
  ev_setFld, ev_kSetFld1, ev_make, ev_kMake, ev_kMake2, ev_meth, ev_kMeth2, ev_lenO, ev_kLenO, ev_reprO, ev_kReprO, ev_kReprO2, ev_fmt, ev_js_nil, ev_js_cons, g_listC, g_tupleR, ev_forS, ev_kForS, ev_iter2, ev_enum2, ev_kIter2_l, ev_kIter2_t, ev_kIter2_s, ev_kEnum2_l, ev_kEnum2_t, ev_lc, ev_kLc, ev_kLcEnd, ev_lc_nil, ev_lc_cons, ev_lcO, ev_kLcT_t, ev_kLcT_f, ev_kLcE, wipeE, g_isi_n, g_isi_b, g_isi_i, g_isi_s, g_isi_t, g_isi_l, isA_ii, isA_ib, isA_it, isA_il, isA_bi, isA_bb, isA_bt, isA_bll, isA_ni, isA_nb, isA_nt, isA_nl, isA_si, isA_sb, isA_st, isA_sl, isA_tt, isA_tl, isA_ti, isA_tb, isA_lt, isA_ll, isA_li, isA_lb, g_neg, g_all, bls_nil, bls_cons, List.all_cons, List.all_nil, id_eq, Bool.and_true, Bool.true_and, Nat.reduceLT,
  app_at, app_set, atn2, atn3, atn4, ar1, ar2, nc0, nc1, nc2, nc3, nc4, nc5, Int.reduceEq, Int.reduceNeg, Int.reduceLT, Int.reduceLE, w_tt, w_to, w_tn, w_ot, w_oo, w_on, w_nt, w_no, w_nn, w_et, w_eo, sl_13, sl_03, sl_1_2, sl_1_3, sl_1_4, sl_03b, sl_03c, tgName, tgTup, tgAll,
  List.length_cons, List.length_nil, List.map_cons, List.map_nil, List.cons_append, List.nil_append, List.getElem?_cons_zero, List.getElem?_cons_succ, List.set_cons_zero, List.set_cons_succ, List.replicate, Option.map_some, Option.map_none, Option.bind_some, Option.bind_none, Bool.not_true, Bool.not_false, and_self, true_and, and_true, Bool.false_eq_true, decide_true, decide_false, reduceIte, Nat.reduceAdd, Nat.reduceSub, Nat.reduceLeDiff, Nat.zero_add, List.isEmpty_cons, List.isEmpty_nil, p1, p2, p3, p4, gp, gm1, gm2, gm3, gm4, gm5, gmd, gdv])
/-! ### the bag -/
def bgBody : DS := (dSet 1 (dBin gMod (dBin gAdd (dBin gAdd (dBin gMul (dVar 1) (dC (.int 39373))) (dBin gMod (dVar 2) (dC (.int 2147483563)))) (dC (.int 29))) (dC (.int 2147483563))))
theorem cut_ints (ns : List Int) (lo hi : Option Int) : Ip.cutD (ns.map D.int) lo hi = (Ip.cutD ns lo hi).map D.int := by
  unfold Ip.cutD
  simp only [List.length_map, List.map_drop, List.map_take]
theorem cut_le {α : Type} (ns : List α) (lo hi : Option Int) : (Ip.cutD ns lo hi).length ≤ ns.length := by
  unfold Ip.cutD
  simp only [List.length_take, List.length_drop]
  omega
theorem g_listL (l : List D) (M : Sto) : gList [.lst l] M = some (.lst l, M) := rfl
theorem bag_ok (ns : List Int) (h : ns.length ≤ 63) : ∃ l, F__law_bag [.scr ns] [] = .ok (.ref 0) [.lst l] ∧ BagOk l := by
  have hl := cut_le ns none (some 63)
  generalize hk : Ip.cutD ns none (some 63) = ks at hl
  obtain ⟨e, M', h1, h2, m, a, h3, hm, hm'⟩ := forS_inv (t := tgName 2) (fb := bgBody) (src := .items (ks.map D.int)) ks.length (fun i env M' => M' = [] ∧ ∃ m a, env = [some (.scr ns), some (.int m), a] ∧ 0 ≤ m ∧ m < 2147483563)
    (fun env M' _ => by show some _ = _; simp) (fun i env M' hi ⟨e, m, a, e2, hm, hm'⟩ => by
      subst e e2
      refine ⟨.int ks[i], _, _, _, by show some _ = _; simp [hi], rfl, ?_, rfl, (m * 39373 + ks[i] % 2147483563 + 29) % 2147483563, some (.int ks[i]), rfl, Int.emod_nonneg _ (by decide), Int.emod_lt_of_pos _ (by decide)⟩
      show bgBody [some (.scr ns), some (.int m), some (.int ks[i])] [] = _
      unfold bgBody
      walk_at "ev") ks.length 0 20000000 [some (.scr ns), some (.int 3804), none] [] (by simp) (by omega) ⟨rfl, 3804, none, rfl, by decide, by decide⟩
  subst h2 h3
  refine ⟨bagD ks 0 0 m 0, ?_, ks, 0, 0, m, 0, rfl, by decide, by decide, hm, hm', by decide⟩
  unfold F__law_bag B__law_bag
  walk_at "ev"
  rw [cut_ints, hk]
  rw [show (dSet 1 _ : DS) = bgBody from rfl, h1]
  walk_at "ev"
  rw [cut_ints, hk, g_listL]
  walk_at "ev"
  rfl
end T
end
section
set_option Elab.async false
set_option linter.all false
set_option maxRecDepth 100000
set_option maxHeartbeats 4000000
namespace T
open PySem L2 Ip
local macro_rules | `(tactic| walk_at "ev") => `(tactic| simp only [ev_runF, ev_kRun_rt, ev_kRun_nx, ev_seq, ev_kSeq_nx, ev_kSeq_rt, ev_kSeq_bk, ev_kSeq_ct, ev_skip, ev_set, ev_kSet, ev_drop, ev_kDrop, ev_ret, ev_kRet, ev_retN, ev_if, ev_kIf_t, ev_kIf_f, ev_bad, ev_asg, ev_kAsg, ev_asgO, ev_par, ev_kPar, ev_for, ev_kFor, ev_go_nil, ev_go_cons, ev_goO, ev_kGo_nx, ev_kGo_ct, ev_kGo_rt, ev_iter, ev_kIter_l, ev_kIter_t, ev_kIter_s, ev_rng1, ev_rng2, ev_enum, ev_kEnum_l, ev_kEnum_t,
  ev_var, ev_varO, celL_l, asL_ref, asL_lst, ev_c, ev_bin, ev_kBin, ev_kBin2, ev_un, ev_kUn, ev_nilA, ev_consA, ev_kCons, ev_kCons2, ev_tup, ev_lst, ev_lstC, ev_kTup, ev_kLst, ev_kLstC, ev_callB, ev_kCallB, ev_call, ev_kCall, ev_ifE, ev_kIfE_t, ev_kIfE_f, ev_andV, ev_orV, ev_notV, ev_kAndV_t, ev_kAndV_f, ev_kOrV_t, ev_kOrV_f, ev_kNotV, ev_and, ev_or, ev_not, ev_kAnd_t, ev_kAnd_f, ev_kOr_t, ev_kOr_f, ev_kNot, ev_tru, ev_b, ev_kTru_bl, ev_kTru_lst, ev_kTru_tup, ev_kTru_ref, ev_truO, ev_kB, ev_yes,
  ev_chain, ev_kCh0, ev_kCh1, ev_kCh2_t, ev_kCh2_f, ev_kCh3, ev_sl, ev_kSl1, ev_kSl2, ev_kSl3, ev_part, ev_kPart, ev_noPart, ev_fld, ev_kFld, ev_fldO, ev_lm, ev_kLm, ev_lmO, ev_kLm2, g_app, g_clear, ev_setIx, ev_kSetIx3, ev_setO, ev_kSetIx1, ev_kSetIx2,
  bind_ok, bind_bad, liftM_some, liftM_none, noex_ok, noex_bad, g_ixT, g_ixL, g_ixR, g_add_i, g_sub, g_lt, g_le, g_gt, g_ge, g_is_n, g_isnot_n, g_is_i, g_isnot_i, g_is_t, g_isnot_t, g_eq, g_ne, eq_int, eq_str, eq_bl, eq_nn, eq_ni, eq_in, eq_t2, g_lenT, g_lenL, g_lenR, g_slT, g_slL, g_slS, at0, at1, at2, at3, at4, atm1,
  ev_setFld, ev_kSetFld1, ev_make, ev_kMake, ev_kMake2, ev_meth, ev_kMeth2, ev_lenO, ev_kLenO, ev_reprO, ev_kReprO, ev_kReprO2, ev_fmt, ev_js_nil, ev_js_cons, g_listC, g_tupleR, ev_forS, ev_kForS, ev_iter2, ev_enum2, ev_kIter2_l, ev_kIter2_t, ev_kIter2_s, ev_kEnum2_l, ev_kEnum2_t, ev_lc, ev_kLc, ev_kLcEnd, ev_lc_nil, ev_lc_cons, ev_lcO, ev_kLcT_t, ev_kLcT_f, ev_kLcE, wipeE, g_isi_n, g_isi_b, g_isi_i, g_isi_s, g_isi_t, g_isi_l, isA_ii, isA_ib, isA_it, isA_il, isA_bi, isA_bb, isA_bt, isA_bll, isA_ni, isA_nb, isA_nt, isA_nl, isA_si, isA_sb, isA_st, isA_sl, isA_tt, isA_tl, isA_ti, isA_tb, isA_lt, isA_ll, isA_li, isA_lb, g_neg, g_all, bls_nil, bls_cons, List.all_cons, List.all_nil, id_eq, Bool.and_true, Bool.true_and, Nat.reduceLT,
  app_at, app_set, atn2, atn3, atn4, ar1, ar2, nc0, nc1, nc2, nc3, nc4, nc5, Int.reduceEq, Int.reduceNeg, Int.reduceLT, Int.reduceLE, w_tt, w_to, w_tn, w_ot, w_oo, w_on, w_nt, w_no, w_nn, w_et, w_eo, sl_13, sl_03, sl_1_2, sl_1_3, sl_1_4, sl_03b, sl_03c, tgName, tgTup, tgAll,
  List.length_cons, List.length_nil, List.map_cons, List.map_nil, List.cons_append, List.nil_append, List.getElem?_cons_zero, List.getElem?_cons_succ, List.set_cons_zero, List.set_cons_succ, List.replicate, Option.map_some, Option.map_none, Option.bind_some, Option.bind_none, Bool.not_true, Bool.not_false, and_self, true_and, and_true, Bool.false_eq_true, decide_true, decide_false, reduceIte, Nat.reduceAdd, Nat.reduceSub, Nat.reduceLeDiff, Nat.zero_add, List.isEmpty_cons, List.isEmpty_nil, p1, p2, p3, p4, gp, gm1, gm2, gm3, gm4, gm5, gmd, gdv])
/-! ### like -/
structure SeqV (x : D) (l : List D) (M : Sto) (ty : String) : Prop where
  ty_ : tyD x M = some ty
  len : gLen [x] M = some (.int (l.length : Nat), M)
  ix : ∀ (i : Nat) (d : D), l[i]? = some d → gIx x (.int (i : Nat)) M = some (d, M)
theorem seq_tup (l : List D) (M : Sto) : SeqV (.tup l) l M "tuple" := ⟨rfl, rfl, fun i d h => by rw [g_ixT, atI_nat h]; rfl⟩
theorem seq_lst (l : List D) (M : Sto) : SeqV (.lst l) l M "list" := ⟨rfl, rfl, fun i d h => by rw [g_ixL, atI_nat h]; rfl⟩
theorem seq_ref (n : Nat) (l : List D) (M : Sto) (hm : M[n]? = some (.lst l)) : SeqV (.ref n) l M "list" := ⟨by
    show (match M[n]? with
      | some (.lst _) => some "list"
      | _ => none) = _
    rw [hm], by rw [g_lenR, hm]; rfl, fun i d h => by rw [g_ixR, hm, celL_l]; simp only [Option.bind_some]; rw [atI_nat h]; rfl⟩
theorem isi_of {x : D} {l : List D} {M : Sto} {ty : String} (h : SeqV x l M ty) (T : String) : gIsi T x M = (isA ty T).map fun b => (.bl b, M) := by
  unfold gIsi
  rw [h.ty_]
theorem isi2_of {x : D} {l : List D} {M : Sto} {ty : String} (h : SeqV x l M ty) (T U : String) (b c : Bool) (hb : isA ty T = some b) (hc : isA ty U = some c) : gIsi2 T U x M = some (.bl (b || c), M) := by
  unfold gIsi2
  rw [h.ty_]
  simp only [hb, hc]
def lkE (k : Nat) : DE := dCall (F__law_like k) (dConsA (dBin gIx (dVar 0) (dVar 2)) (dConsA (dBin gIx (dVar 1) (dVar 2)) dNilA))
theorem like_lc (k : Nat) (x y : D) (as bs : List D) (M : Sto) (ty : String) (hx : SeqV x as M ty) (hy : SeqV y bs M ty) (hl : as.length = bs.length) (hs : bs.length ≤ 1000)
    (h : ∀ (i : Nat) (a b : D), as[i]? = some a → bs[i]? = some b → F__law_like k [a, b] M = .ok (.bl true) M) :
    lcGo (tgName 2) dYes (lkE k) (rngD 0 bs.length) [] [some x, some y, none] M = .ok ((rngD 0 bs.length).map fun _ => D.bl true) M := by
  have := lc_map [some x, some y, none] M (tgName 2) (lkE k) (fun _ => .bl true) (rngD 0 bs.length) [] (fun d hd => by
      unfold rngD at hd
      rw [List.mem_map] at hd
      obtain ⟨i, hi, rfl⟩ := hd
      have hi' : i < bs.length := List.mem_range.mp hi
      have e0 : (0 : Int) + (i : Nat) = (i : Nat) := by omega
      rw [e0]
      refine ⟨_, rfl, ?_⟩
      have h1 := hx.ix i as[i] (List.getElem?_eq_getElem (by omega))
      have h2 := hy.ix i bs[i] (List.getElem?_eq_getElem hi')
      have h3 := h i as[i] bs[i] (List.getElem?_eq_getElem (by omega)) (List.getElem?_eq_getElem hi')
      show lkE k [some x, some y, some (.int (i : Nat))] M = _
      unfold lkE
      walk_at "ev"
      rw [h1]
      walk_at "ev"
      rw [h2]
      walk_at "ev"
      rw [h3]
      walk_at "ev") (by rw [rngD, List.length_map, List.length_range, List.length_nil]; omega)
  rw [this, List.nil_append]
theorem bls_rep (n : Nat) : bls ((rngD 0 n).map fun _ => D.bl true) = some (List.replicate n true) := by
  have g : ∀ n : Nat, bls (List.replicate n (D.bl true)) = some (List.replicate n true) := fun n => by
    induction n with
    | zero => rfl
    | succ n ih => rw [List.replicate_succ, bls_cons, ih]; rfl
  rw [← g]
  congr 1
  rw [List.eq_replicate_iff]
  constructor
  · rw [List.length_map, rngD, List.length_map, List.length_range]
  · intro b hb
    rw [List.mem_map] at hb
    obtain ⟨_, _, e⟩ := hb
    exact e.symm
theorem in62_len {n : Nat} (h : n ≤ 1000000) : in62 ((n : Nat) : Int) = true := by
  unfold in62
  simp only [Bool.and_eq_true, decide_eq_true_eq]
  constructor <;> omega
theorem all_rep (n : Nat) : (List.replicate n true).all id = true := by
  rw [List.all_eq_true]
  intro b hb
  rw [List.mem_replicate] at hb
  rw [hb.2]; rfl
theorem rng1_of (fe : DE) (n : Nat) (env : En) (M : Sto) (h : fe env M = .ok (.int (n : Nat)) M) (hn : n ≤ 1000000) : dRng1 (dConsA fe dNilA) env M = .ok (rngD 0 n) M := by
  rw [ev_rng1, ev_consA, h, bind_ok, ev_kCons, ev_nilA, bind_ok, ev_kCons2, bind_ok, ev_kRng1 _ _ (in62_len hn), Int.toNat_natCast]
theorem len_of {x : D} {l : List D} {M : Sto} {ty : String} (h : SeqV x l M ty) (env : En) {v : Nat} (hv : env[v]? = some (some x)) : dCallB gLen (dConsA (dVar v) dNilA) env M = .ok (.int (l.length : Nat)) M := by
  rw [ev_callB, ev_consA, ev_var, hv, ev_varO, bind_ok, ev_kCons, ev_nilA, bind_ok, ev_kCons2, bind_ok, ev_kCallB, h.len, liftM_some]
theorem like_main (k : Nat) (x y : D) (as bs : List D) (M : Sto) (ty : String) (hx : SeqV x as M ty) (hy : SeqV y bs M ty) (hl : as.length = bs.length) (hs : bs.length ≤ 1000)
    (hlc : lcGo (tgName 2) dYes (lkE k) (rngD 0 bs.length) [] [some x, some y, none] M = .ok ((rngD 0 bs.length).map fun _ => D.bl true) M) (b c : Bool) (h1 : isA ty "tuple" = some b) (h2 : isA ty "list" = some c) (h3 : (b || c) = true) : F__law_like (k + 1) [x, y] M = .ok (.bl true) M := by
  have hin := in62_len (show bs.length ≤ 1000000 by omega)
  have ht : ((bs.length : Nat) : Int).toNat = bs.length := Int.toNat_natCast _
  have hq := all_rep bs.length
  show runF 3 2 (B__law_like (F__law_like k)) [x, y] M = _
  unfold B__law_like
  walk_at "ev"
  rw [isi2_of hy "tuple" "list" b c h1 h2, h3]
  walk_at "ev"
  rw [isi_of hx, h1]
  walk_at "ev"
  rw [isi_of hy, h1]
  walk_at "ev"
  rw [isi_of hx, h2]
  walk_at "ev"
  rw [isi_of hy, h2]
  walk_at "ev"
  rw [hx.len]
  walk_at "ev"
  rw [hy.len]
  walk_at "ev"
  rw [hl, decide_eq_true rfl, ev_kAndV_t, ev_callB, ev_consA, ev_lc, rng1_of _ bs.length _ M (len_of hy _ rfl) (by omega), bind_ok, ev_kLc]
  rw [show wipeE [some x, some y, none] [2] = [some x, some y, none] from rfl, show (dCall (F__law_like k) _ : DE) = lkE k from rfl, hlc]
  walk_at "ev"
  rw [bls_rep]
  walk_at "ev"
  rw [hq]
theorem like_seq (k : Nat) (x y : D) (as bs : List D) (M : Sto) (ty : String) (ht : ty = "tuple" ∨ ty = "list") (hx : SeqV x as M ty) (hy : SeqV y bs M ty) (hl : as.length = bs.length) (hs : bs.length ≤ 1000)
    (h : ∀ (i : Nat) (a b : D), as[i]? = some a → bs[i]? = some b → F__law_like k [a, b] M = .ok (.bl true) M) : F__law_like (k + 1) [x, y] M = .ok (.bl true) M := by
  have hlc := like_lc k x y as bs M ty hx hy hl hs h
  rcases ht with rfl | rfl
  · exact like_main k x y as bs M _ hx hy hl hs hlc true false isA_tt isA_tl rfl
  · exact like_main k x y as bs M _ hx hy hl hs hlc false true isA_lt isA_ll rfl
theorem g_isi2_i (T U : String) (i : Int) (M : Sto) : gIsi2 T U (.int i) M = (match isA "int" T, isA "int" U with
  | some b, some c => some (.bl (b || c), M)
  | _, _ => none) := rfl
theorem like_int (k : Nat) (i : Int) (M : Sto) : F__law_like (k + 1) [.int i, .int i] M = .ok (.bl true) M := by
  show runF 3 2 (B__law_like (F__law_like k)) _ M = _
  unfold B__law_like
  walk_at "ev"
  rw [show gIsi2 "tuple" "list" (.int i) M = some (.bl false, M) by unfold gIsi2 tyD; simp only [isA_it, isA_il]; rfl]
  walk_at "ev"
theorem like_str (k : Nat) (s : Str) (M : Sto) : F__law_like (k + 1) [.str s, .str s] M = .ok (.bl true) M := by
  show runF 3 2 (B__law_like (F__law_like k)) _ M = _
  unfold B__law_like
  walk_at "ev"
  rw [show gIsi2 "tuple" "list" (.str s) M = some (.bl false, M) by unfold gIsi2 tyD; simp only [isA_st, isA_sl]; rfl]
  walk_at "ev"
  rw [show gIs false (.str s) .non M = some (.bl false, M) from rfl]
  walk_at "ev"
  rw [show gIs false (.str s) .non M = some (.bl false, M) from rfl]
  walk_at "ev"
theorem like_non (k : Nat) (M : Sto) : F__law_like (k + 1) [.non, .non] M = .ok (.bl true) M := by
  show runF 3 2 (B__law_like (F__law_like k)) _ M = _
  unfold B__law_like
  walk_at "ev"
  rw [show gIsi2 "tuple" "list" .non M = some (.bl false, M) by unfold gIsi2 tyD; simp only [isA_nt, isA_nl]; rfl]
  walk_at "ev"
theorem like_pc (k : Nat) (p : Pc) (M : Sto) : F__law_like (k + 2) [p.d, p.d] M = .ok (.bl true) M := by
  obtain ⟨l, hl⟩ := is_tup p
  rw [hl]
  have hlen : l.length ≤ 1000 := by cases p <;> (simp only [Pc.d] at hl; cases hl; simp)
  refine like_seq (k + 1) _ _ l l M "tuple" (.inl rfl) (seq_tup l M) (seq_tup l M) rfl hlen fun i a b ha hb => ?_
  rw [ha] at hb; cases hb
  have hsc : ∀ d ∈ l, (∃ i, d = .int i) ∨ (∃ s, d = .str s) ∨ d = .non := by
    cases p <;> (simp only [Pc.d] at hl; cases hl; intro d hd; simp only [List.mem_cons, List.not_mem_nil, or_false] at hd)
    · rcases hd with rfl | rfl
      · exact .inr (.inl ⟨_, rfl⟩)
      · exact .inl ⟨_, rfl⟩
    · rcases hd with rfl | rfl | rfl
      · exact .inr (.inl ⟨_, rfl⟩)
      · exact .inl ⟨_, rfl⟩
      · exact .inl ⟨_, rfl⟩
    · rcases hd with rfl | rfl | rfl
      · exact .inr (.inl ⟨_, rfl⟩)
      · exact .inl ⟨_, rfl⟩
      · exact .inr (.inr rfl)
    · rcases hd with rfl | rfl | rfl | rfl
      · exact .inr (.inl ⟨_, rfl⟩)
      · exact .inl ⟨_, rfl⟩
      · exact .inl ⟨_, rfl⟩
      · exact .inl ⟨_, rfl⟩
  rcases hsc a (List.mem_of_getElem? ha) with ⟨i, rfl⟩ | ⟨s, rfl⟩ | rfl
  · exact like_int _ _ _
  · exact like_str _ _ _
  · exact like_non _ _
end T
end
section
set_option Elab.async false
set_option linter.all false
set_option maxRecDepth 100000
set_option maxHeartbeats 4000000
namespace T
open PySem L2 Ip
local macro_rules | `(tactic| walk_at "ev") => `(tactic| simp only [ev_runF, ev_kRun_rt, ev_kRun_nx, ev_seq, ev_kSeq_nx, ev_kSeq_rt, ev_kSeq_bk, ev_kSeq_ct, ev_skip, ev_set, ev_kSet, ev_drop, ev_kDrop, ev_ret, ev_kRet, ev_retN, ev_if, ev_kIf_t, ev_kIf_f, ev_bad, ev_asg, ev_kAsg, ev_asgO, ev_par, ev_kPar, ev_for, ev_kFor, ev_go_nil, ev_go_cons, ev_goO, ev_kGo_nx, ev_kGo_ct, ev_kGo_rt, ev_iter, ev_kIter_l, ev_kIter_t, ev_kIter_s, ev_rng1, ev_rng2, ev_enum, ev_kEnum_l, ev_kEnum_t,
  ev_var, ev_varO, celL_l, asL_ref, asL_lst, ev_c, ev_bin, ev_kBin, ev_kBin2, ev_un, ev_kUn, ev_nilA, ev_consA, ev_kCons, ev_kCons2, ev_tup, ev_lst, ev_lstC, ev_kTup, ev_kLst, ev_kLstC, ev_callB, ev_kCallB, ev_call, ev_kCall, ev_ifE, ev_kIfE_t, ev_kIfE_f, ev_andV, ev_orV, ev_notV, ev_kAndV_t, ev_kAndV_f, ev_kOrV_t, ev_kOrV_f, ev_kNotV, ev_and, ev_or, ev_not, ev_kAnd_t, ev_kAnd_f, ev_kOr_t, ev_kOr_f, ev_kNot, ev_tru, ev_b, ev_kTru_bl, ev_kTru_lst, ev_kTru_tup, ev_kTru_ref, ev_truO, ev_kB, ev_yes,
  ev_chain, ev_kCh0, ev_kCh1, ev_kCh2_t, ev_kCh2_f, ev_kCh3, ev_sl, ev_kSl1, ev_kSl2, ev_kSl3, ev_part, ev_kPart, ev_noPart, ev_fld, ev_kFld, ev_fldO, ev_lm, ev_kLm, ev_lmO, ev_kLm2, g_app, g_clear, ev_setIx, ev_kSetIx3, ev_setO, ev_kSetIx1, ev_kSetIx2,
  bind_ok, bind_bad, liftM_some, liftM_none, noex_ok, noex_bad, g_ixT, g_ixL, g_ixR, g_add_i, g_sub, g_lt, g_le, g_gt, g_ge, g_is_n, g_isnot_n, g_is_i, g_isnot_i, g_is_t, g_isnot_t, g_eq, g_ne, eq_int, eq_str, eq_bl, eq_nn, eq_ni, eq_in, eq_t2, g_lenT, g_lenL, g_lenR, g_slT, g_slL, g_slS, at0, at1, at2, at3, at4, atm1,
  ev_setFld, ev_kSetFld1, ev_make, ev_kMake, ev_kMake2, ev_meth, ev_kMeth2, ev_lenO, ev_kLenO, ev_reprO, ev_kReprO, ev_kReprO2, ev_fmt, ev_js_nil, ev_js_cons, g_listC, g_tupleR, ev_forS, ev_kForS, ev_iter2, ev_enum2, ev_kIter2_l, ev_kIter2_t, ev_kIter2_s, ev_kEnum2_l, ev_kEnum2_t, ev_lc, ev_kLc, ev_kLcEnd, ev_lc_nil, ev_lc_cons, ev_lcO, ev_kLcT_t, ev_kLcT_f, ev_kLcE, wipeE, g_isi_n, g_isi_b, g_isi_i, g_isi_s, g_isi_t, g_isi_l, isA_ii, isA_ib, isA_it, isA_il, isA_bi, isA_bb, isA_bt, isA_bll, isA_ni, isA_nb, isA_nt, isA_nl, isA_si, isA_sb, isA_st, isA_sl, isA_tt, isA_tl, isA_ti, isA_tb, isA_lt, isA_ll, isA_li, isA_lb, g_neg, g_all, bls_nil, bls_cons, List.all_cons, List.all_nil, id_eq, Bool.and_true, Bool.true_and, Nat.reduceLT,
  app_at, app_set, atn2, atn3, atn4, ar1, ar2, nc0, nc1, nc2, nc3, nc4, nc5, Int.reduceEq, Int.reduceNeg, Int.reduceLT, Int.reduceLE, w_tt, w_to, w_tn, w_ot, w_oo, w_on, w_nt, w_no, w_nn, w_et, w_eo, sl_13, sl_03, sl_1_2, sl_1_3, sl_1_4, sl_03b, sl_03c, tgName, tgTup, tgAll,
  List.length_cons, List.length_nil, List.map_cons, List.map_nil, List.cons_append, List.nil_append, List.getElem?_cons_zero, List.getElem?_cons_succ, List.set_cons_zero, List.set_cons_succ, List.replicate, Option.map_some, Option.map_none, Option.bind_some, Option.bind_none, Bool.not_true, Bool.not_false, and_self, true_and, and_true, Bool.false_eq_true, decide_true, decide_false, reduceIte, Nat.reduceAdd, Nat.reduceSub, Nat.reduceLeDiff, Nat.zero_add, List.isEmpty_cons, List.isEmpty_nil, p1, p2, p3, p4, gp, gm1, gm2, gm3, gm4, gm5, gmd, gdv])
/-! ### pieces that follow each other -/
def adj (R : Pc → Pc → Prop) : List Pc → Prop
  | [] => True
  | p :: r => (∀ q, r.head? = some q → R p q) ∧ adj R r
theorem adj_app {R : Pc → Pc → Prop} : ∀ (l m : List Pc), adj R l → adj R m → (∀ x y, l.getLast? = some x → m.head? = some y → R x y) → adj R (l ++ m)
  | [], m, _, hm, _ => by simpa using hm
  | p :: r, m, hl, hm, h => by
    refine ⟨fun q hq => ?_, adj_app r m hl.2 hm fun x y hx hy => ?_⟩
    · cases r with
      | nil => exact h p q rfl (by simpa using hq)
      | cons s r => exact hl.1 q (by simpa using hq)
    · cases r with
      | nil => cases hx
      | cons s r => exact h x y (by simpa using hx) hy
theorem adj_left {R : Pc → Pc → Prop} : ∀ (l m : List Pc), adj R (l ++ m) → adj R l
  | [], m, _ => trivial
  | p :: r, m, h => ⟨fun q hq => h.1 q (by cases r with
      | nil => cases hq
      | cons s r => simpa using hq), adj_left r m h.2⟩
theorem adj_mid {R : Pc → Pc → Prop} : ∀ (l : List Pc) (y : Pc) (m : List Pc) (x : Pc), adj R (l ++ y :: m) → l.getLast? = some x → R x y
  | [], y, m, x, _, hx => by cases hx
  | p :: r, y, m, x, h, hx => by
    cases r with
    | nil => cases hx; exact h.1 y rfl
    | cons s r => exact adj_mid (s :: r) y m x h.2 (by simpa using hx)
abbrev mfT (p q : Pc) : Prop := mf p q = true
abbrev jnN (p q : Pc) : Prop := jn p q = none
def okp (l : List Pc) : Prop := (∀ p ∈ l, pok p) ∧ adj mfT l
theorem okp_nil : okp [] := ⟨fun _ h => (by cases h), trivial⟩
theorem okp_app {l m : List Pc} (hl : okp l) (hm : okp m) (h : ∀ x y, l.getLast? = some x → m.head? = some y → mf x y = true) : okp (l ++ m) :=
  ⟨fun p hp => (List.mem_append.mp hp).elim (hl.1 p) (hm.1 p), adj_app l m hl.2 hm.2 h⟩
theorem okp_one {p : Pc} (h : pok p) : okp [p] := ⟨fun q hq => by rw [List.mem_singleton.mp hq]; exact h, fun q hq => (by cases hq), trivial⟩
theorem okp_two {p q : Pc} (h : pok p) (h' : pok q) (hm : mf p q = true) : okp [p, q] :=
  okp_app (l := [p]) (m := [q]) (okp_one h) (okp_one h') fun x y hx hy => by cases hx; cases hy; exact hm
theorem okp_snoc {l : List Pc} {q : Pc} (hl : okp l) (hq : pok q) (h : ∀ x, l.getLast? = some x → mf x q = true) : okp (l ++ [q]) :=
  okp_app hl (okp_one hq) fun x y hx hy => by cases hy; exact h x hx
theorem okp_left {l m : List Pc} (h : okp (l ++ m)) : okp l := ⟨fun p hp => h.1 p (List.mem_append.mpr (.inl hp)), adj_left l m h.2⟩
theorem chain_of : ∀ (r : List Pc) (p : Pc), (∀ q ∈ r, pok q) → adj mfT (p :: r) → chain p r
  | [], _, _, _ => trivial
  | s :: r, p, h, ha => ⟨h s List.mem_cons_self, ha.1 s rfl, chain_of r s (fun q hq => h q (List.mem_cons_of_mem _ hq)) ha.2⟩
theorem lastOf_eq : ∀ (r : List Pc) (p : Pc), (p :: r).getLast? = some (lastOf p r)
  | [], p => rfl
  | s :: r, p => by
    have := lastOf_eq r s
    simpa [lastOf] using this
theorem valid_of {l : List Pc} {a : Int} (h : okp l) (hl : l.getLast? = some (.opn a)) : valid l := by
  cases l with
  | nil => cases hl
  | cons p r =>
    refine ⟨h.1 p List.mem_cons_self, chain_of r p (fun q hq => h.1 q (List.mem_cons_of_mem _ hq)) h.2, ?_⟩
    rw [lastOf_eq] at hl
    cases hl' : lastOf p r <;> rw [hl'] at hl <;> first | rfl | (cases hl; done)
/-! ### the normal form -/
theorem jn_pok {l q r : Pc} (h : jn l q = some r) (hl : pok l) (hq : pok q) : pok r := by
  cases l <;> cases q <;> simp only [jn] at h <;> first | (cases h; done) | skip
  · cases h; simp only [pok] at *; omega
  · split at h <;> cases h; simp only [pok] at *; omega
  · split at h <;> cases h; simp only [pok] at *; omega
  · split at h <;> cases h; simp only [pok] at *; omega
theorem jn_pre {l q r : Pc} (h : jn l q = some r) (x : Pc) : mf x r = mf x l := by
  cases l <;> cases q <;> simp only [jn] at h <;> first | (cases h; done) | skip
  · cases h; cases x <;> rfl
  · split at h <;> cases h; cases x <;> rfl
  · split at h <;> cases h; cases x <;> rfl
  · split at h <;> cases h; cases x <;> rfl
theorem jn_post {l q r : Pc} (h : jn l q = some r) (x : Pc) : mf r x = mf q x := by
  cases l <;> cases q <;> simp only [jn] at h <;> first | (cases h; done) | skip
  · cases h; cases x <;> rfl
  · split at h <;> cases h; cases x <;> rfl
  · split at h <;> cases h; cases x <;> rfl
  · split at h <;> cases h; rename_i hc; rw [hc.1, hc.2]; cases x <;> rfl
theorem jn_pre_n {l q r : Pc} (h : jn l q = some r) (x : Pc) (hx : jn x l = none) : jn x r = none := by
  cases l <;> cases q <;> simp only [jn] at h <;> first | (cases h; done) | skip
  · cases h; cases x <;> first | rfl | (cases hx; done)
  · split at h <;> cases h; cases x <;> first | rfl | (simp only [jn] at hx ⊢; split at hx <;> simp_all)
  · split at h <;> cases h; cases x <;> first | rfl | (simp only [jn] at hx ⊢; split at hx <;> simp_all)
  · split at h <;> cases h; cases x <;> first | rfl | (simp only [jn] at hx ⊢; split at hx <;> simp_all)
theorem nfS_none {acc : List Pc} {q : Pc} (h : ∀ l, acc.getLast? = some l → jn l q = none) : nfS acc q = acc ++ [q] := by
  unfold nfS
  cases hl : acc.getLast? with
  | none => rfl
  | some l => simp only [h l hl]
theorem nfS_some {acc : List Pc} {l q r : Pc} (h : jn l q = some r) : nfS (acc ++ [l]) q = acc ++ [r] := by
  unfold nfS
  simp only [List.getLast?_append, List.getLast?_singleton, Option.some_or, h, List.dropLast_concat]
theorem snoc_of {l : List Pc} {x : Pc} (h : l.getLast? = some x) : ∃ m, l = m ++ [x] := by
  have hne : l ≠ [] := fun e => by rw [e] at h; cases h
  refine ⟨l.dropLast, ?_⟩
  have := List.dropLast_concat_getLast hne
  rw [List.getLast?_eq_some_getLast hne] at h
  cases h
  exact this.symm
/-- what the rows so far and their normal form have in common -/
structure NF (ps acc : List Pc) : Prop where
  ok : okp acc
  nrm : adj jnN acc
  post : ∀ x y, ps.getLast? = some x → acc.getLast? = some y → ∀ q, mf y q = mf x q
  emp : ps = [] ↔ acc = []
theorem NF.nil : NF [] [] := ⟨okp_nil, trivial, fun _ _ h => (by cases h), Iff.rfl⟩
theorem NF.step {ps acc : List Pc} {q : Pc} (h : NF ps acc) (hq : pok q) (hm : ∀ x, ps.getLast? = some x → mf x q = true) : NF (ps ++ [q]) (nfS acc q) := by
  have hy : ∀ y, acc.getLast? = some y → mf y q = true := fun y hy => by
    cases hp : ps.getLast? with
    | none =>
      rw [List.getLast?_eq_none_iff] at hp
      rw [h.emp.mp hp] at hy; cases hy
    | some x => rw [h.post x y hp hy]; exact hm x hp
  by_cases hj : ∀ l, acc.getLast? = some l → jn l q = none
  · rw [nfS_none hj]
    refine ⟨okp_snoc h.ok hq hy, adj_app _ _ h.nrm ⟨fun _ z => (by cases z), trivial⟩ fun x y hx hy => (by cases hy; exact hj x hx), fun x y hx hy => ?_, by simp⟩
    simp at hx hy
    subst hx hy
    exact fun _ => rfl
  · obtain ⟨l, hl, r, hr⟩ : ∃ l, acc.getLast? = some l ∧ ∃ r, jn l q = some r := by
      cases hl : acc.getLast? with
      | none => exact absurd (fun l z => by rw [hl] at z; cases z) hj
      | some l => cases hr : jn l q with
        | none => exact absurd (fun l' z => by rw [hl] at z; cases z; exact hr) hj
        | some r => exact ⟨l, rfl, r, hr⟩
    obtain ⟨m, rfl⟩ := snoc_of hl
    rw [nfS_some hr]
    have okm := okp_left h.ok
    refine ⟨okp_snoc okm (jn_pok hr (h.ok.1 l (by simp)) hq) fun x hx => ?_, adj_app _ _ (adj_left _ _ h.nrm) ⟨fun _ z => (by cases z), trivial⟩ fun x y hx hy => ?_, fun x y hx hy => ?_, by simp⟩
    · rw [jn_pre hr]; exact adj_mid m l [] x h.ok.2 hx
    · cases hy; exact jn_pre_n hr x (adj_mid m l [] x h.nrm hx)
    · simp at hx hy
      subst hx hy
      exact jn_post hr
theorem NF.run : ∀ (qs ps acc : List Pc), NF ps acc → okp (ps ++ qs) → NF (ps ++ qs) (qs.foldl nfS acc)
  | [], ps, acc, h, _ => by simpa using h
  | q :: qs, ps, acc, h, ho => by
    have e : ps ++ q :: qs = (ps ++ [q]) ++ qs := by simp
    rw [e] at ho ⊢
    refine NF.run qs (ps ++ [q]) (nfS acc q) (h.step (ho.1 q (by simp)) fun x hx => ?_) ho
    exact adj_mid ps q [] x (okp_left ho).2 hx
theorem nf_NF {ps : List Pc} (h : okp ps) : NF ps (nf ps) := NF.run ps [] [] NF.nil (by simpa using h)
/-- the last old rows are opened -/
def opnL : List Pc → List Pc := fun l => match l.getLast? with
  | some (.old a _) => l.dropLast ++ [.opn a]
  | _ => l
theorem mf_opnr (x : Pc) (a b : Int) : mf x (.opn a) = mf x (.old a b) := by cases x <;> rfl
theorem jn_opnr (x : Pc) (a b : Int) (h : jn x (.old a b) = none) : jn x (.opn a) = none := by
  cases x <;> first | rfl | (simp only [jn] at h ⊢; split at h <;> simp_all)
theorem opnL_ok {m : List Pc} {a b : Int} (h : okp (m ++ [.old a b])) (hn : adj jnN (m ++ [.old a b])) : okp (m ++ [.opn a]) ∧ adj jnN (m ++ [.opn a]) := by
  refine ⟨okp_snoc (okp_left h) ?_ fun x hx => ?_, adj_app _ _ (adj_left _ _ hn) ⟨fun _ z => (by cases z), trivial⟩ fun x y hx hy => ?_⟩
  · have := h.1 (.old a b) (by simp)
    exact this.1
  · rw [mf_opnr x a b]; exact adj_mid m _ [] x h.2 hx
  · cases hy; exact jn_opnr x a b (adj_mid m _ [] x hn hx)
theorem nfS_old (acc : List Pc) (c d : Int) : ∃ m a b, nfS acc (.old c d) = m ++ [.old a b] := by
  by_cases hj : ∀ l, acc.getLast? = some l → jn l (.old c d) = none
  · exact ⟨acc, c, d, nfS_none hj⟩
  · obtain ⟨l, hl, r, hr⟩ : ∃ l, acc.getLast? = some l ∧ ∃ r, jn l (.old c d) = some r := by
      cases hl : acc.getLast? with
      | none => exact absurd (fun l z => by rw [hl] at z; cases z) hj
      | some l => cases hr : jn l (.old c d) with
        | none => exact absurd (fun l' z => by rw [hl] at z; cases z; exact hr) hj
        | some r => exact ⟨l, rfl, r, hr⟩
    obtain ⟨m, rfl⟩ := snoc_of hl
    rw [nfS_some hr]
    cases l <;> simp only [jn] at hr <;> first | (cases hr; done) | skip
    split at hr <;> cases hr
    exact ⟨m, _, _, rfl⟩
theorem nf_old {ps : List Pc} {c d : Int} (h : ps.getLast? = some (.old c d)) : ∃ m a b, nf ps = m ++ [.old a b] := by
  obtain ⟨m, rfl⟩ := snoc_of h
  unfold nf
  rw [List.foldl_append]
  exact nfS_old _ c d
/-! ### the same rows in more pieces -/
/-- one piece, or two that make it -/
def splits (p : Pc) (gs : List Pc) : Prop := gs = [p] ∨ ∃ a b, gs = [a, b] ∧ jn a b = some p ∧ pok a ∧ pok b ∧ mf a b = true
structure SC (P gs : List Pc) : Prop where
  ok : okp gs
  nf_ : nf gs = P
  post : ∀ x y, P.getLast? = some x → gs.getLast? = some y → ∀ q, mf y q = mf x q
  emp : P = [] ↔ gs = []
  opn : ∀ a, P.getLast? = some (.opn a) → ∃ b, gs.getLast? = some (.opn b)
theorem SC.nil : SC [] [] := ⟨okp_nil, rfl, fun _ _ h => (by cases h), Iff.rfl, fun _ h => (by cases h)⟩
theorem mf_jn_pre {a b p : Pc} (h : jn a b = some p) (x : Pc) (hx : mf x p = true) : mf x a = true := by rw [← jn_pre h]; exact hx
theorem jn_jn_pre {a b p : Pc} (h : jn a b = some p) (x : Pc) (hx : jn x p = none) : jn x a = none := by
  cases a <;> cases b <;> simp only [jn] at h <;> first | (cases h; done) | skip
  · cases h; cases x <;> first | rfl | (cases hx; done)
  · split at h <;> cases h; cases x <;> first | rfl | (simp only [jn] at hx ⊢; split at hx <;> simp_all)
  · split at h <;> cases h; cases x <;> first | rfl | (simp only [jn] at hx ⊢; split at hx <;> simp_all)
  · split at h <;> cases h; cases x <;> first | rfl | (simp only [jn] at hx ⊢; split at hx <;> simp_all)
theorem SC.step {P gs hs : List Pc} {p : Pc} (h : SC P gs) (hP : okp (P ++ [p])) (hN : adj jnN (P ++ [p])) (hs_ : splits p hs) : SC (P ++ [p]) (gs ++ hs) := by
  have hmf : ∀ y, gs.getLast? = some y → mf y p = true := fun y hy => by
    cases hp : P.getLast? with
    | none =>
      rw [List.getLast?_eq_none_iff] at hp
      rw [h.emp.mp hp] at hy; cases hy
    | some x => rw [h.post x y hp hy]; exact adj_mid P p [] x hP.2 hp
  have hjn : ∀ x, P.getLast? = some x → jn x p = none := fun x hx => adj_mid P p [] x hN hx
  have hnf : nf (gs ++ hs) = hs.foldl nfS P := by
    have := h.nf_
    unfold nf at this ⊢
    rw [List.foldl_append, this]
  rcases hs_ with rfl | ⟨a, b, rfl, hj, pa, pb, mab⟩
  · refine ⟨okp_snoc h.ok (hP.1 p (by simp)) hmf, ?_, fun x y hx hy => ?_, by simp, fun a ha => ?_⟩
    · rw [hnf]; exact nfS_none hjn
    · simp at hx hy; subst hx hy; exact fun _ => rfl
    · simp at ha; exact ⟨a, by simp [ha]⟩
  · refine ⟨okp_app h.ok (okp_two pa pb mab) fun x y hx hy => ?_, ?_, fun x y hx hy => ?_, by simp, fun c hc => ?_⟩
    · cases hy; exact mf_jn_pre hj x (hmf x hx)
    · rw [hnf]
      show nfS (nfS P a) b = _
      rw [nfS_none fun x hx => jn_jn_pre hj x (hjn x hx), nfS_some hj]
    · simp at hx hy
      subst hx hy
      exact fun q => (jn_post hj q).symm
    · simp at hc
      subst hc
      cases a <;> cases b <;> simp only [jn] at hj <;> first | (cases hj; done) | skip
      · split at hj <;> cases hj
      · exact ⟨_, by simp; rfl⟩
      · split at hj <;> cases hj
theorem splits_len {p : Pc} {hs : List Pc} (h : splits p hs) : hs.length ≤ 2 := by
  rcases h with rfl | ⟨a, b, rfl, _⟩ <;> simp
end T
end
section
set_option Elab.async false
set_option linter.all false
set_option maxRecDepth 100000
set_option maxHeartbeats 1000000
namespace T
open PySem L2 Ip
local macro_rules | `(tactic| walk_at "ev") => `(tactic| simp only [ev_runF, ev_kRun_rt, ev_kRun_nx, ev_seq, ev_kSeq_nx, ev_kSeq_rt, ev_kSeq_bk, ev_kSeq_ct, ev_skip, ev_set, ev_kSet, ev_drop, ev_kDrop, ev_ret, ev_kRet, ev_retN, ev_if, ev_kIf_t, ev_kIf_f, ev_bad, ev_asg, ev_kAsg, ev_asgO, ev_par, ev_kPar, ev_for, ev_kFor, ev_go_nil, ev_go_cons, ev_goO, ev_kGo_nx, ev_kGo_ct, ev_kGo_rt, ev_iter, ev_kIter_l, ev_kIter_t, ev_kIter_s, ev_rng1, ev_rng2, ev_enum, ev_kEnum_l, ev_kEnum_t,
  ev_var, ev_varO, celL_l, asL_ref, asL_lst, ev_c, ev_bin, ev_kBin, ev_kBin2, ev_un, ev_kUn, ev_nilA, ev_consA, ev_kCons, ev_kCons2, ev_tup, ev_lst, ev_lstC, ev_kTup, ev_kLst, ev_kLstC, ev_callB, ev_kCallB, ev_call, ev_kCall, ev_ifE, ev_kIfE_t, ev_kIfE_f, ev_andV, ev_orV, ev_notV, ev_kAndV_t, ev_kAndV_f, ev_kOrV_t, ev_kOrV_f, ev_kNotV, ev_and, ev_or, ev_not, ev_kAnd_t, ev_kAnd_f, ev_kOr_t, ev_kOr_f, ev_kNot, ev_tru, ev_b, ev_kTru_bl, ev_kTru_lst, ev_kTru_tup, ev_kTru_ref, ev_truO, ev_kB, ev_yes,
  ev_chain, ev_kCh0, ev_kCh1, ev_kCh2_t, ev_kCh2_f, ev_kCh3, ev_sl, ev_kSl1, ev_kSl2, ev_kSl3, ev_part, ev_kPart, ev_noPart, ev_fld, ev_kFld, ev_fldO, ev_lm, ev_kLm, ev_lmO, ev_kLm2, g_app, g_clear, ev_setIx, ev_kSetIx3, ev_setO, ev_kSetIx1, ev_kSetIx2,
  bind_ok, bind_bad, liftM_some, liftM_none, noex_ok, noex_bad, g_ixT, g_ixL, g_ixR, g_add_i, g_sub, g_lt, g_le, g_gt, g_ge, g_is_n, g_isnot_n, g_is_i, g_isnot_i, g_is_t, g_isnot_t, g_eq, g_ne, eq_int, eq_str, eq_bl, eq_nn, eq_ni, eq_in, eq_t2, g_lenT, g_lenL, g_lenR, g_slT, g_slL, g_slS, at0, at1, at2, at3, at4, atm1,
  ev_setFld, ev_kSetFld1, ev_make, ev_kMake, ev_kMake2, ev_meth, ev_kMeth2, ev_lenO, ev_kLenO, ev_reprO, ev_kReprO, ev_kReprO2, ev_fmt, ev_js_nil, ev_js_cons, g_listC, g_tupleR, ev_forS, ev_kForS, ev_iter2, ev_enum2, ev_kIter2_l, ev_kIter2_t, ev_kIter2_s, ev_kEnum2_l, ev_kEnum2_t, ev_lc, ev_kLc, ev_kLcEnd, ev_lc_nil, ev_lc_cons, ev_lcO, ev_kLcT_t, ev_kLcT_f, ev_kLcE, wipeE, g_isi_n, g_isi_b, g_isi_i, g_isi_s, g_isi_t, g_isi_l, isA_ii, isA_ib, isA_it, isA_il, isA_bi, isA_bb, isA_bt, isA_bll, isA_ni, isA_nb, isA_nt, isA_nl, isA_si, isA_sb, isA_st, isA_sl, isA_tt, isA_tl, isA_ti, isA_tb, isA_lt, isA_ll, isA_li, isA_lb, g_neg, g_all, bls_nil, bls_cons, List.all_cons, List.all_nil, id_eq, Bool.and_true, Bool.true_and, Nat.reduceLT,
  app_at, app_set, atn2, atn3, atn4, ar1, ar2, nc0, nc1, nc2, nc3, nc4, nc5, Int.reduceEq, Int.reduceNeg, Int.reduceLT, Int.reduceLE, w_tt, w_to, w_tn, w_ot, w_oo, w_on, w_nt, w_no, w_nn, w_et, w_eo, sl_13, sl_03, sl_1_2, sl_1_3, sl_1_4, sl_03b, sl_03c, tgName, tgTup, tgAll,
  List.length_cons, List.length_nil, List.map_cons, List.map_nil, List.cons_append, List.nil_append, List.getElem?_cons_zero, List.getElem?_cons_succ, List.set_cons_zero, List.set_cons_succ, List.replicate, Option.map_some, Option.map_none, Option.bind_some, Option.bind_none, Bool.not_true, Bool.not_false, and_self, true_and, and_true, Bool.false_eq_true, decide_true, decide_false, reduceIte, Nat.reduceAdd, Nat.reduceSub, Nat.reduceLeDiff, Nat.zero_add, List.isEmpty_cons, List.isEmpty_nil, p1, p2, p3, p4, gp, gm1, gm2, gm3, gm4, gm5, gmd, gdv])
/-! ### what the old readings say, as promises -/
theorem ft__law_pull (n : Int) : FB F__law_pull [en n] (Pr.pull n) := fun b G hb hG => ⟨fun Q E ⟨h0, h1, q⟩ => by
  obtain ⟨r, l', e, r0, r1, hb'⟩ := pull_ok b G n hb h0 h1
  rw [show F__law_pull (.ref 0 :: [en n]) (.lst b :: G) = .ok (.int r) (.lst l' :: G) from e]
  exact ⟨r, q r r0 r1, rfl, l', hb', rfl⟩⟩
/-! layouts -/
def mkLay (qs : List Pc) : Lay := ⟨qs, stsF 0 qs.dropLast⟩
def t_Layout (q : Sq Pc) : Pr Lay := fun Q _ => valid q.l ∧ (∀ p ∈ (nf q.l).dropLast, isOpn p = false) ∧ q.l.length ≤ 1000000 ∧ (nf q.l).length ≤ 60 ∧ Q (mkLay (nf q.l))
theorem ft_Layout (q : Sq Pc) : FM "Layout" F_Layout___init__ [en q] (t_Layout q) := fun M hM => ⟨fun Q E ⟨h1, h2, h3, h4, z⟩ => by
  have hx : isSeq (en q) q.l M := by
    obtain ⟨t, l⟩ := q
    cases t
    · exact .inl rfl
    · exact .inr (.inl rfl)
  rw [make_eq' (en q) q.l (nf q.l) M hx h1 rfl h2 h3 h4 hM]
  exact ⟨mkLay (nf q.l), z, rfl, rfl⟩⟩
end T
end
section
set_option Elab.async false
set_option linter.all false
set_option maxRecDepth 100000
set_option maxHeartbeats 1000000
namespace T
open PySem L2 Ip
local macro_rules | `(tactic| walk_at "ev") => `(tactic| simp only [ev_runF, ev_kRun_rt, ev_kRun_nx, ev_seq, ev_kSeq_nx, ev_kSeq_rt, ev_kSeq_bk, ev_kSeq_ct, ev_skip, ev_set, ev_kSet, ev_drop, ev_kDrop, ev_ret, ev_kRet, ev_retN, ev_if, ev_kIf_t, ev_kIf_f, ev_bad, ev_asg, ev_kAsg, ev_asgO, ev_par, ev_kPar, ev_for, ev_kFor, ev_go_nil, ev_go_cons, ev_goO, ev_kGo_nx, ev_kGo_ct, ev_kGo_rt, ev_iter, ev_kIter_l, ev_kIter_t, ev_kIter_s, ev_rng1, ev_rng2, ev_enum, ev_kEnum_l, ev_kEnum_t,
  ev_var, ev_varO, celL_l, asL_ref, asL_lst, ev_c, ev_bin, ev_kBin, ev_kBin2, ev_un, ev_kUn, ev_nilA, ev_consA, ev_kCons, ev_kCons2, ev_tup, ev_lst, ev_lstC, ev_kTup, ev_kLst, ev_kLstC, ev_callB, ev_kCallB, ev_call, ev_kCall, ev_ifE, ev_kIfE_t, ev_kIfE_f, ev_andV, ev_orV, ev_notV, ev_kAndV_t, ev_kAndV_f, ev_kOrV_t, ev_kOrV_f, ev_kNotV, ev_and, ev_or, ev_not, ev_kAnd_t, ev_kAnd_f, ev_kOr_t, ev_kOr_f, ev_kNot, ev_tru, ev_b, ev_kTru_bl, ev_kTru_lst, ev_kTru_tup, ev_kTru_ref, ev_truO, ev_kB, ev_yes,
  ev_chain, ev_kCh0, ev_kCh1, ev_kCh2_t, ev_kCh2_f, ev_kCh3, ev_sl, ev_kSl1, ev_kSl2, ev_kSl3, ev_part, ev_kPart, ev_noPart, ev_fld, ev_kFld, ev_fldO, ev_lm, ev_kLm, ev_lmO, ev_kLm2, g_app, g_clear, ev_setIx, ev_kSetIx3, ev_setO, ev_kSetIx1, ev_kSetIx2,
  bind_ok, bind_bad, liftM_some, liftM_none, noex_ok, noex_bad, g_ixT, g_ixL, g_ixR, g_add_i, g_sub, g_lt, g_le, g_gt, g_ge, g_is_n, g_isnot_n, g_is_i, g_isnot_i, g_is_t, g_isnot_t, g_eq, g_ne, eq_int, eq_str, eq_bl, eq_nn, eq_ni, eq_in, eq_t2, g_lenT, g_lenL, g_lenR, g_slT, g_slL, g_slS, at0, at1, at2, at3, at4, atm1,
  ev_setFld, ev_kSetFld1, ev_make, ev_kMake, ev_kMake2, ev_meth, ev_kMeth2, ev_lenO, ev_kLenO, ev_reprO, ev_kReprO, ev_kReprO2, ev_fmt, ev_js_nil, ev_js_cons, g_listC, g_tupleR, ev_forS, ev_kForS, ev_iter2, ev_enum2, ev_kIter2_l, ev_kIter2_t, ev_kIter2_s, ev_kEnum2_l, ev_kEnum2_t, ev_lc, ev_kLc, ev_kLcEnd, ev_lc_nil, ev_lc_cons, ev_lcO, ev_kLcT_t, ev_kLcT_f, ev_kLcE, wipeE, g_isi_n, g_isi_b, g_isi_i, g_isi_s, g_isi_t, g_isi_l, isA_ii, isA_ib, isA_it, isA_il, isA_bi, isA_bb, isA_bt, isA_bll, isA_ni, isA_nb, isA_nt, isA_nl, isA_si, isA_sb, isA_st, isA_sl, isA_tt, isA_tl, isA_ti, isA_tb, isA_lt, isA_ll, isA_li, isA_lb, g_neg, g_all, bls_nil, bls_cons, List.all_cons, List.all_nil, id_eq, Bool.and_true, Bool.true_and, Nat.reduceLT,
  app_at, app_set, atn2, atn3, atn4, ar1, ar2, nc0, nc1, nc2, nc3, nc4, nc5, Int.reduceEq, Int.reduceNeg, Int.reduceLT, Int.reduceLE, w_tt, w_to, w_tn, w_ot, w_oo, w_on, w_nt, w_no, w_nn, w_et, w_eo, sl_13, sl_03, sl_1_2, sl_1_3, sl_1_4, sl_03b, sl_03c, tgName, tgTup, tgAll,
  List.length_cons, List.length_nil, List.map_cons, List.map_nil, List.cons_append, List.nil_append, List.getElem?_cons_zero, List.getElem?_cons_succ, List.set_cons_zero, List.set_cons_succ, List.replicate, Option.map_some, Option.map_none, Option.bind_some, Option.bind_none, Bool.not_true, Bool.not_false, and_self, true_and, and_true, Bool.false_eq_true, decide_true, decide_false, reduceIte, Nat.reduceAdd, Nat.reduceSub, Nat.reduceLeDiff, Nat.zero_add, List.isEmpty_cons, List.isEmpty_nil, p1, p2, p3, p4, gp, gm1, gm2, gm3, gm4, gm5, gmd, gdv])
/-! comparison -/
theorem like_bl' (k : Nat) (b : Bool) (M : Sto) : F__law_like (k + 1) [.bl b, .bl b] M = .ok (.bl true) M := by
  show runF 3 2 (B__law_like (F__law_like k)) _ M = _
  unfold B__law_like
  cases b
  · walk_at "ev"
    rfl
  · walk_at "ev"
    rfl
theorem lkDs_get : ∀ {k : Nat} {l : List D} {i : Nat} {d : D}, lkDs k l = true → l[i]? = some d → lkD k d = true
  | _, [], _, _, _, h => by simp at h
  | k, x :: l, 0, d, h, e => by
    simp only [lkDs, Bool.and_eq_true] at h
    have : x = d := by simpa using e
    rw [← this]; exact h.1
  | k, x :: l, i + 1, d, h, e => by
    simp only [lkDs, Bool.and_eq_true] at h
    exact lkDs_get h.2 (by simpa using e)
theorem like_D : ∀ (k : Nat) (d : D) (M : Sto), lkD k d = true → F__law_like k [d, d] M = .ok (.bl true) M
  | 0, d, M, h => by simp [lkD] at h
  | k + 1, d, M, h => by
    cases d with
    | non => exact like_non k M
    | bl b => exact like_bl' k b M
    | int i => exact like_int k i M
    | str s => exact like_str k s M
    | tup l =>
      simp only [lkD, Bool.and_eq_true, decide_eq_true_eq] at h
      exact like_seq k _ _ l l M "tuple" (.inl rfl) (seq_tup l M) (seq_tup l M) rfl h.1 fun i a b ha hb => by
        rw [ha] at hb; cases hb
        exact like_D k a M (lkDs_get h.2 ha)
    | lst l =>
      simp only [lkD, Bool.and_eq_true, decide_eq_true_eq] at h
      exact like_seq k _ _ l l M "list" (.inr rfl) (seq_lst l M) (seq_lst l M) rfl h.1 fun i a b ha hb => by
        rw [ha] at hb; cases hb
        exact like_D k a M (lkDs_get h.2 ha)
    | _ => simp [lkD] at h
theorem ft__law_like {α β : Type} [Enc α] [Enc β] (k : Nat) (a : α) (b : β) : FP (F__law_like k) [en a, en b] (lk k a b) := fun M _ => ⟨fun Q E ⟨e, h, q⟩ => by
  rw [← e, like_D k (en a) M h]
  exact ⟨true, q, rfl, rfl⟩⟩
end T
end
section
set_option Elab.async false
set_option linter.all false
set_option maxRecDepth 100000
set_option maxHeartbeats 1000000
namespace T
open PySem L2 Ip
theorem ft_plain : FP F_Layout_plain [.cls "Layout"] (Pr.ok (mkLay [.opn 0])) := fun M hM => by
  have hv : valid [Pc.opn 0] := ⟨by show (0 : Int) ≤ 0; decide, trivial, rfl⟩
  have e := make_eq' (.tup ([Pc.opn 0].map Pc.d)) [.opn 0] [.opn 0] M (.inr (.inl rfl)) hv rfl (fun q hq => by cases hq) (by simp) (by simp) hM
  have e2 : F_Layout_plain [.cls "Layout"] M = .ok (en (mkLay [.opn 0])) M := by
    unfold F_Layout_plain B_Layout_plain
    rw [ev_runF _ 1 1 _ [.cls "Layout"] rfl, ev_ret, ev_makeV _ _ 0 "Layout" _ _ rfl, ev_make, ev_consA, ev_c, bind_ok, ev_kCons, ev_nilA, bind_ok, ev_kCons2, bind_ok]
    rw [show D.tup [.tup [.str "old", .int 0, .non]] = .tup ([Pc.opn 0].map Pc.d) from rfl, e, bind_ok, ev_kRet, bind_ok, ev_kRun_rt]
    rfl
  rw [e2]
  exact .ok ⟨rfl, rfl⟩
end T
end
section
set_option Elab.async false
set_option linter.all false
set_option maxRecDepth 100000
set_option maxHeartbeats 4000000
namespace T
open PySem L2 Ip
local macro_rules | `(tactic| walk_at "ev") => `(tactic| simp only [ev_runF, ev_kRun_rt, ev_kRun_nx, ev_seq, ev_kSeq_nx, ev_kSeq_rt, ev_kSeq_bk, ev_kSeq_ct, ev_skip, ev_set, ev_kSet, ev_drop, ev_kDrop, ev_ret, ev_kRet, ev_retN, ev_if, ev_kIf_t, ev_kIf_f, ev_bad, ev_asg, ev_kAsg, ev_asgO, ev_par, ev_kPar, ev_for, ev_kFor, ev_go_nil, ev_go_cons, ev_goO, ev_kGo_nx, ev_kGo_ct, ev_kGo_rt, ev_iter, ev_kIter_l, ev_kIter_t, ev_kIter_s, ev_rng1, ev_rng2, ev_enum, ev_kEnum_l, ev_kEnum_t,
  ev_var, ev_varO, celL_l, asL_ref, asL_lst, ev_c, ev_bin, ev_kBin, ev_kBin2, ev_un, ev_kUn, ev_nilA, ev_consA, ev_kCons, ev_kCons2, ev_tup, ev_lst, ev_lstC, ev_kTup, ev_kLst, ev_kLstC, ev_callB, ev_kCallB, ev_call, ev_kCall, ev_ifE, ev_kIfE_t, ev_kIfE_f, ev_andV, ev_orV, ev_notV, ev_kAndV_t, ev_kAndV_f, ev_kOrV_t, ev_kOrV_f, ev_kNotV, ev_and, ev_or, ev_not, ev_kAnd_t, ev_kAnd_f, ev_kOr_t, ev_kOr_f, ev_kNot, ev_tru, ev_b, ev_kTru_bl, ev_kTru_lst, ev_kTru_tup, ev_kTru_ref, ev_truO, ev_kB, ev_yes,
  ev_chain, ev_kCh0, ev_kCh1, ev_kCh2_t, ev_kCh2_f, ev_kCh3, ev_sl, ev_kSl1, ev_kSl2, ev_kSl3, ev_part, ev_kPart, ev_noPart, ev_fld, ev_kFld, ev_fldO, ev_lm, ev_kLm, ev_lmO, ev_kLm2, g_app, g_clear, ev_setIx, ev_kSetIx3, ev_setO, ev_kSetIx1, ev_kSetIx2,
  bind_ok, bind_bad, liftM_some, liftM_none, noex_ok, noex_bad, g_ixT, g_ixL, g_ixR, g_add_i, g_sub, g_lt, g_le, g_gt, g_ge, g_is_n, g_isnot_n, g_is_i, g_isnot_i, g_is_t, g_isnot_t, g_eq, g_ne, eq_int, eq_str, eq_bl, eq_nn, eq_ni, eq_in, eq_t2, g_lenT, g_lenL, g_lenR, g_slT, g_slL, g_slS, at0, at1, at2, at3, at4, atm1,
  ev_setFld, ev_kSetFld1, ev_make, ev_kMake, ev_kMake2, ev_meth, ev_kMeth2, ev_lenO, ev_kLenO, ev_reprO, ev_kReprO, ev_kReprO2, ev_fmt, ev_js_nil, ev_js_cons, g_listC, g_tupleR, ev_forS, ev_kForS, ev_iter2, ev_enum2, ev_kIter2_l, ev_kIter2_t, ev_kIter2_s, ev_kEnum2_l, ev_kEnum2_t, ev_lc, ev_kLc, ev_kLcEnd, ev_lc_nil, ev_lc_cons, ev_lcO, ev_kLcT_t, ev_kLcT_f, ev_kLcE, wipeE, g_isi_n, g_isi_b, g_isi_i, g_isi_s, g_isi_t, g_isi_l, isA_ii, isA_ib, isA_it, isA_il, isA_bi, isA_bb, isA_bt, isA_bll, isA_ni, isA_nb, isA_nt, isA_nl, isA_si, isA_sb, isA_st, isA_sl, isA_tt, isA_tl, isA_ti, isA_tb, isA_lt, isA_ll, isA_li, isA_lb, g_neg, g_all, bls_nil, bls_cons, List.all_cons, List.all_nil, id_eq, Bool.and_true, Bool.true_and, Nat.reduceLT,
  app_at, app_set, atn2, atn3, atn4, ar1, ar2, nc0, nc1, nc2, nc3, nc4, nc5, Int.reduceEq, Int.reduceNeg, Int.reduceLT, Int.reduceLE, w_tt, w_to, w_tn, w_ot, w_oo, w_on, w_nt, w_no, w_nn, w_et, w_eo, sl_13, sl_03, sl_1_2, sl_1_3, sl_1_4, sl_03b, sl_03c, tgName, tgTup, tgAll,
  List.length_cons, List.length_nil, List.map_cons, List.map_nil, List.cons_append, List.nil_append, List.getElem?_cons_zero, List.getElem?_cons_succ, List.set_cons_zero, List.set_cons_succ, List.replicate, Option.map_some, Option.map_none, Option.bind_some, Option.bind_none, Bool.not_true, Bool.not_false, and_self, true_and, and_true, Bool.false_eq_true, decide_true, decide_false, reduceIte, Nat.reduceAdd, Nat.reduceSub, Nat.reduceLeDiff, Nat.zero_add, List.isEmpty_cons, List.isEmpty_nil])
/-! the making of a layout, where it may raise -/
theorem isSeq_more {x : D} {ps : List Pc} {M : Sto} (hx : isSeq x ps M) (c : Cell) : isSeq x ps (M ++ [c]) := by
  rcases hx with h | h | ⟨n, h, hn, hm⟩
  · exact .inl h
  · exact .inr (.inl h)
  · exact .inr (.inr ⟨n, h, by simp; omega, by rw [List.getElem?_append_left hn]; exact hm⟩)
theorem initx_ok (x : D) (ps qs : List Pc) (M : Sto) (hx : isSeq x ps M) (hv : valid ps) (hq : nf ps = qs) (hqd : ∀ q ∈ qs.dropLast, isOpn q = false) (hl : ps.length ≤ 1000000) (hn : qs.length ≤ 60) (hM : PureS M) :
    Fx_Layout___init__ [.ref M.length, x] (M ++ [.ins "Layout" [] []]) = .ok .non (M ++ [.ins "Layout" lks [.lst (qs.map Pc.d), .lst ((stsF 0 qs.dropLast).map D.int)]]) := by
  have h1 : PureS (M ++ [.ins "Layout" [] []]) := pureS_ins hM fun _ => rfl
  have h2 : PureS (M ++ [.ins "Layout" ["parts"] [.lst (qs.map Pc.d)]]) := pureS_ins hM fun k => by simp [closedAll, closed, closed_pcs]
  have es := starts_of_eq' qs hqd (by omega) _ h2
  unfold Fx_Layout___init__ Bx_Layout___init__
  have hx1 := isSeq_more hx (.ins "Layout" [] [])
  have hgt : ¬ (60 : Int) < ((qs.map Pc.d).length : Nat) := by rw [List.length_map]; omega
  walk_at "ev"
  rw [first_wrong_ok x ps _ hx1 hv (by omega)]
  walk_at "ev"
  rw [normal_form_eq x ps _ hx1 (valid_drop hv) (by omega) h1, hq]
  walk_at "ev"
  simp only [hgt, decide_false]
  walk_at "ev"
  rw [ev_kSetFld2 (h := app_at _ _) (hk := by decide)]
  walk_at "ev"
  simp only [putKs, putVs]
  rw [es]
  walk_at "ev"
  rw [ev_kSetFld2 (h := app_at _ _) (hk := by decide)]
  walk_at "ev"
  rfl
theorem log_small {n : Nat} (h : n ≤ 1000000) : n.log2 < 1920 := by
  by_cases z : n = 0
  · subst z; decide
  · have : n.log2 < 20 := (Nat.log2_lt z).mpr (Nat.lt_of_le_of_lt h (by decide))
    omega
theorem initx_end (x : D) (ps : List Pc) (M : Sto) (hx : isSeq x ps M) (hv : lined ps) (hz : ∀ q, ps.getLast? = some q → isOpn q = false) (hl : ps.length ≤ 1000000) :
    ∃ ev, Fx_Layout___init__ [.ref M.length, x] (M ++ [.ins "Layout" [] []]) = .exc ⟨"BadPieces", ["at", "word"], [.int (ps.length : Nat), .str "BadPieces"]⟩ ev (M ++ [.ins "Layout" [] []]) := by
  have hx1 := isSeq_more hx (.ins "Layout" [] [])
  unfold Fx_Layout___init__ Bx_Layout___init__
  refine ⟨[some (.ref M.length), some x, some (.int (ps.length : Nat)), none], ?_⟩
  have hk : okIntD (.int (ps.length : Nat)) = true := by
    refine decide_eq_true ?_
    have : (Int.natAbs ((ps.length : Nat) : Int)) = ps.length := by simp
    rw [this]
    exact log_small hl
  walk_at "ev"
  rw [first_wrong_end x ps _ hx1 hv hz (by omega)]
  walk_at "ev"
  unfold dRaise1
  walk_at "ev"
  simp only [hk, if_true]
  rfl
theorem initx_many (x : D) (ps qs : List Pc) (M : Sto) (hx : isSeq x ps M) (hv : valid ps) (hq : nf ps = qs) (hl : ps.length ≤ 1000000) (hn : 60 < qs.length) (hM : PureS M) :
    ∃ ev, Fx_Layout___init__ [.ref M.length, x] (M ++ [.ins "Layout" [] []]) = .exc ⟨"TooManyPieces", ["most", "word"], [.int 60, .str "TooManyPieces"]⟩ ev (M ++ [.ins "Layout" [] []]) := by
  have h1 : PureS (M ++ [.ins "Layout" [] []]) := pureS_ins hM fun _ => rfl
  have hx1 := isSeq_more hx (.ins "Layout" [] [])
  unfold Fx_Layout___init__ Bx_Layout___init__
  have hgt : (60 : Int) < ((qs.map Pc.d).length : Nat) := by rw [List.length_map]; omega
  refine ⟨[some (.ref M.length), some x, some .non, some (.lst (qs.map Pc.d))], ?_⟩
  walk_at "ev"
  rw [first_wrong_ok x ps _ hx1 hv (by omega)]
  walk_at "ev"
  rw [normal_form_eq x ps _ hx1 (valid_drop hv) (by omega) h1, hq]
  walk_at "ev"
  simp only [hgt, decide_true]
  walk_at "ev"
  unfold dRaise1
  walk_at "ev"
  rfl
def exMany : Exn := ⟨"TooManyPieces", ["most", "word"], [.int 60, .str "TooManyPieces"]⟩
def exEnd (n : Nat) : Exn := ⟨"BadPieces", ["at", "word"], [.int (n : Nat), .str "BadPieces"]⟩
/-- Layout(..): a layout, too many pieces, or an end that is not open -/
def tx_Layout (q : Sq Pc) : Pr Lay := fun Q E => q.l.length ≤ 1000000 ∧
  ((valid q.l ∧ (∀ p ∈ (nf q.l).dropLast, isOpn p = false) ∧ (nf q.l).length ≤ 60 ∧ Q (mkLay (nf q.l))) ∨ (valid q.l ∧ 60 < (nf q.l).length ∧ E exMany) ∨ (lined q.l ∧ (∀ p, q.l.getLast? = some p → isOpn p = false) ∧ E (exEnd q.l.length)))
theorem ftx_Layout (q : Sq Pc) : FMx "Layout" Fx_Layout___init__ [en q] (tx_Layout q) := fun M hM env => ⟨fun Q E ⟨h3, z⟩ => by
  have hx : isSeq (en q) q.l M := by
    obtain ⟨t, l⟩ := q
    cases t
    · exact .inl rfl
    · exact .inr (.inl rfl)
  unfold kMakeX
  rcases z with ⟨h1, h2, h4, z⟩ | ⟨h1, h2, z⟩ | ⟨h1, h2, z⟩
  · rw [initx_ok (en q) q.l (nf q.l) M hx h1 rfl h2 h3 h4 hM]
    have hc : closedAll M.length [D.lst ((nf q.l).map Pc.d), .lst ((stsF 0 (nf q.l).dropLast).map D.int)] = true := by simp [closedAll, closed, closed_pcs, closed_ints]
    have e : frzO M.length (.ref M.length) (M ++ [.ins "Layout" lks [.lst ((nf q.l).map Pc.d), .lst ((stsF 0 (nf q.l).dropLast).map D.int)]]) = .ok (lay (nf q.l) (stsF 0 (nf q.l).dropLast)) M := by
      unfold frzO thaw
      simp only [Nat.lt_irrefl, if_false, app_at, hc, if_true, List.take_left, hM M.length]
      rfl
    show (frzO M.length (.ref M.length) _).post _ _
    rw [e]
    exact ⟨mkLay (nf q.l), z, rfl, rfl⟩
  · obtain ⟨ev, e⟩ := initx_many (en q) q.l (nf q.l) M hx h1 rfl h3 h2 hM
    rw [e]
    simp only [List.take_left, hM M.length, closedAll, closed, Bool.and_self, if_true]
    exact ⟨z, rfl⟩
  · obtain ⟨ev, e⟩ := initx_end (en q) q.l M hx h1 h2 h3
    rw [e]
    simp only [List.take_left, hM M.length, closedAll, closed, Bool.and_self, if_true]
    exact ⟨z, rfl⟩⟩
end T
end
section
set_option Elab.async false
set_option linter.all false
set_option maxRecDepth 100000
set_option maxHeartbeats 1000000
namespace T
open PySem L2 Ip
def t__law_long_pieces (p_many : Int) (p_wide : Int) : Pr (List Pc) :=
  (((Pr.need (sm (p_many - (1 : Int))) (Pr.ok (rngI 0 (Int.toNat (p_many - (1 : Int)))))).bind fun (l14 : List Int) => Pr.need (l14.length ≤ 16777216) (Pr.lcM l14 (fun (x1 : Int) => (Pr.ok true)) (fun (x1 : Int) => ((op2 (α := Int) (β := Int) (γ := Int) gMul x1 p_wide).bind fun (a8 : Int) => ((op2 (α := Int) (β := Int) (γ := Int) gMul x1 p_wide).bind fun (a11 : Int) => (Pr.ok (Pc.old a8 a11))))))).bind fun (found_15 : (List Pc)) =>
  ((((op2 (α := Int) (β := Int) (γ := Int) gMul (p_many - (1 : Int)) p_wide).bind fun (a22 : Int) => (Pr.ok (Pc.opn a22))).bind fun (a27 : Pc) => (Pr.ok ([a27] : (List Pc)))).bind fun (b31 : (List Pc)) => (cat found_15 b31)))
theorem ft__law_long_pieces (p_many : Int) (p_wide : Int) : FP F__law_long_pieces [(en (α := Int) p_many), (en (α := Int) p_wide)] (t__law_long_pieces p_many p_wide) := run_p (env0 := [some (en (α := Int) p_many), some (en (α := Int) p_wide), none, none]) rfl rfl (fun M0 M hM => by
  unfold B__law_long_pieces t__law_long_pieces
  exact (seq_setx (env1 := fun (found_15 : (List Pc)) => [some (en (α := Int) p_many), some (en (α := Int) p_wide), some (en (α := (List Pc)) found_15), none]) (fun _ => rfl) (lc_x (enc := D.int) (c := fun (x1 : Int) => (Pr.ok true)) (g := fun (x1 : Int) => ((op2 (α := Int) (β := Int) (γ := Int) gMul x1 p_wide).bind fun (a8 : Int) => ((op2 (α := Int) (β := Int) (γ := Int) gMul x1 p_wide).bind fun (a11 : Int) => (Pr.ok (Pc.old a8 a11))))) (rng1_v (n := (p_many - (1 : Int))) (bin_v (z := (en (α := Int) (p_many - (1 : Int)))) (pv (d := (en (α := Int) p_many)) rfl) pv_c (fun M _ => rfl))) (fun x1 => ⟨[some (en (α := Int) p_many), some (en (α := Int) p_wide), none, some (en (α := Int) x1)], rfl, (TV.tx yes_tv), (fun M6 h7 => (arg_p pv_c h7 (arg_e (bin_pp (γ := Int) (P := (op2 (α := Int) (β := Int) (γ := Int) gMul x1 p_wide)) (pv (d := (en (α := Int) x1)) rfl) (pv (d := (en (α := Int) p_wide)) rfl) (gs_op2 (α := Int) (β := Int) (γ := Int) (a := x1) (b := p_wide))) h7 (fun (a8 : Int) M9 h10 => (arg_e (bin_pp (γ := Int) (P := (op2 (α := Int) (β := Int) (γ := Int) gMul x1 p_wide)) (pv (d := (en (α := Int) x1)) rfl) (pv (d := (en (α := Int) p_wide)) rfl) (gs_op2 (α := Int) (β := Int) (γ := Int) (a := x1) (b := p_wide))) h10 (fun (a11 : Int) M12 h13 => (arg_nil (seq_end (mk := D.tup) (a := (Pc.old a8 a11)) rfl h13))))))))⟩)) hM (fun (found_15 : (List Pc)) M16 h17 =>
  (last_of (seq_retx' (bin_pe (γ := (List Pc)) (pv (d := (en (α := (List Pc)) found_15)) rfl) (fun M25 h26 => (arg_e (fun M20 h21 => (arg_p pv_c h21 (arg_e (bin_pp (γ := Int) (P := (op2 (α := Int) (β := Int) (γ := Int) gMul (p_many - (1 : Int)) p_wide)) (bin_v (z := (en (α := Int) (p_many - (1 : Int)))) (pv (d := (en (α := Int) p_many)) rfl) pv_c (fun M _ => rfl)) (pv (d := (en (α := Int) p_wide)) rfl) (gs_op2 (α := Int) (β := Int) (γ := Int) (a := (p_many - (1 : Int))) (b := p_wide))) h21 (fun (a22 : Int) M23 h24 => (arg_p pv_c h24 (arg_nil (seq_end (mk := D.tup) (a := (Pc.opn a22)) rfl h24))))))) h26 (fun (a27 : Pc) M28 h29 => (arg_nil (seq_end (mk := D.lst) (a := ([a27] : (List Pc))) rfl h29))))) (fun b31 => (gs_cat (a := found_15) (b := b31)))) h17 (fun r32 M33 h34 => ⟨rfl, h34⟩))))))
def t_Layout___len__ (p_self : Lay) : Pr Int :=
  (Pr.ok ((p_self.parts.length : Nat) : Int))
theorem ft_Layout___len__ (p_self : Lay) : FP F_Layout___len__ [(en (α := Lay) p_self)] (t_Layout___len__ p_self) := run_p (env0 := [some (en (α := Lay) p_self)]) rfl rfl (fun M0 M hM => by
  unfold B_Layout___len__ t_Layout___len__
  exact (last_of (seq_ret (x := (en (α := Int) ((p_self.parts.length : Nat) : Int))) (len_L (l := p_self.parts) (lv_v (l := List.map (en (α := Pc)) p_self.parts) (lay_parts (pv (d := (en (α := Lay) p_self)) rfl)))) hM ⟨rfl, hM⟩)))
def t_is_number (p_value : Int) : Pr Bool :=
  (Pr.ok (true && (!false)))
theorem ft_is_number (p_value : Int) : FP F_is_number [(en (α := Int) p_value)] (t_is_number p_value) := run_p (env0 := [some (en (α := Int) p_value)]) rfl rfl (fun M0 M hM => by
  unfold B_is_number t_is_number
  exact (last_of (seq_ret (x := (en (α := Bool) (true && (!false)))) (andV_v (un_v (z := .bl true) (pv (d := (en (α := Int) p_value)) rfl) (fun M _ => (g_isi_i M _ _).trans (congrArg (Option.map _) isA_ii))) (notV_v (un_v (z := .bl false) (pv (d := (en (α := Int) p_value)) rfl) (fun M _ => (g_isi_i M _ _).trans (congrArg (Option.map _) isA_ib))))) hM ⟨rfl, hM⟩)))
def t_are_numbers (p_values : (Int × Int)) (p_many : Int) : Pr Bool :=
  ((Pr.ok (decide ((2 : Int) = p_many))).bind fun a => if a then (((Pr.ok [p_values.1, p_values.2]).bind fun (l8 : List Int) => Pr.need (l8.length ≤ 16777216) (Pr.lcM l8 (fun (x5 : Int) => (Pr.ok true)) (fun (x5 : Int) => (t_is_number x5)))).bind fun (a9 : (List Bool)) => (Pr.ok (a9.all id))) else Pr.ok false)
theorem ft_are_numbers (p_values : (Int × Int)) (p_many : Int) : FP F_are_numbers [(en (α := (Int × Int)) p_values), (en (α := Int) p_many)] (t_are_numbers p_values p_many) := run_p (env0 := [some (en (α := (Int × Int)) p_values), some (en (α := Int) p_many), none]) rfl rfl (fun M0 M hM => by
  unfold B_are_numbers t_are_numbers
  exact (last_of (seq_retx' (andV_x (PV.px (a := (decide ((2 : Int) = p_many))) (bin_v (z := (en (α := Bool) (decide ((2 : Int) = p_many)))) (callB_v (z := .int 2) (av_cons (pv (d := (en (α := (Int × Int)) p_values)) rfl) av_nil) (fun _ _ => rfl)) (pv (d := (en (α := Int) p_many)) rfl) (fun M _ => geqI _ _ M))) (fun M3 h4 => (arg_e (lc_x (enc := (en (α := Int))) (c := fun (x5 : Int) => (Pr.ok true)) (g := fun (x5 : Int) => (t_is_number x5)) (iter_t (l := [p_values.1, p_values.2]) (pv (d := (en (α := (Int × Int)) p_values)) rfl)) (fun x5 => ⟨[some (en (α := (Int × Int)) p_values), some (en (α := Int) p_many), some (en (α := Int) x5)], rfl, (TV.tx yes_tv), (fun M6 h7 => (arg_p (pv (d := (en (α := Int) x5)) rfl) h7 (arg_nil (callP (ft_is_number x5) h7))))⟩)) h4 (fun (a9 : (List Bool)) M10 h11 => (arg_nil (callB_end (c := a9.all id) h11 (fun M _ => gAll_v a9 M))))))) hM (fun r12 M13 h14 => ⟨rfl, h14⟩))))
def t_is_range (p_pair : (Int × (Option Int))) : Pr Bool :=
  (if ((!true) || (!decide ((2 : Int) = (2 : Int)))) then (Pr.ok false) else
  ((((t_is_number p_pair.1).bind fun b => Pr.ok (!b)).bind fun a => if a then Pr.ok true else (Pr.ok (decide (p_pair.1 < (0 : Int))))).bind fun c => if c then (Pr.ok false) else
  ((Pr.ok p_pair.2.isNone).bind fun a => if a then Pr.ok true else (((cast (α := (Option Int)) (β := Int) p_pair.2).bind fun (a13 : Int) => (t_is_number a13)).bind fun a => if a then ((cast (α := (Option Int)) (β := Int) p_pair.2).bind fun (b17 : Int) => (Pr.ok (decide (p_pair.1 ≤ b17)))) else Pr.ok false))))
theorem ft_is_range (p_pair : (Int × (Option Int))) : FP F_is_range [(en (α := (Int × (Option Int))) p_pair)] (t_is_range p_pair) := run_p (env0 := [some (en (α := (Int × (Option Int))) p_pair), none, none]) rfl rfl (fun M0 M hM => by
  unfold B_is_range t_is_range
  exact (seq_if (or_tv (not_tv (tru_v (un_v (z := .bl true) (pv (d := (en (α := (Int × (Option Int))) p_pair)) rfl) (fun M _ => (g_isi_t M _ _).trans (congrArg (Option.map _) isA_tt))) (fun _ _ => rfl))) (b_v (bin_v (z := (en (α := Bool) (!decide ((2 : Int) = (2 : Int))))) (callB_v (z := .int 2) (av_cons (pv (d := (en (α := (Int × (Option Int))) p_pair)) rfl) av_nil) (fun _ _ => rfl)) pv_c (fun M _ => gneI _ _ M)))) hM (seq_ret (x := (en (α := Bool) false)) pv_c hM ⟨rfl, hM⟩)
  (seq_skip (seq_asg (env1 := [some (en (α := (Int × (Option Int))) p_pair), some (en (α := Int) p_pair.1), some (en (α := (Option Int)) p_pair.2)]) (pv (d := (en (α := (Int × (Option Int))) p_pair)) rfl) rfl hM (seq_ifx (or_tx (not_tx (tru_b (fun M5 h6 => (arg_p (pv (d := (en (α := Int) p_pair.1)) rfl) h6 (arg_nil (callP (ft_is_number p_pair.1) h6)))))) (TV.tx (b_v (bin_v (z := (en (α := Bool) (decide (p_pair.1 < (0 : Int))))) (pv (d := (en (α := Int) p_pair.1)) rfl) pv_c (fun M _ => rfl))))) hM (fun M7 h8 => (seq_ret (x := (en (α := Bool) false)) pv_c h8 ⟨rfl, h8⟩))
  (fun M9 h10 => (seq_skip (last_of (seq_retx' (orV_x (PV.px (a := p_pair.2.isNone) (is_v (o := p_pair.2) (pv (d := (en (α := (Option Int)) p_pair.2)) rfl) pv_c)) (andV_x (fun M11 h12 => (arg_e (PV.cast (α := (Option Int)) (β := Int) (a := p_pair.2) (pv (d := (en (α := (Option Int)) p_pair.2)) rfl)) h12 (fun (a13 : Int) M14 h15 => (arg_nil (callP (ft_is_number a13) h15))))) (bin_pe (γ := Bool) (pv (d := (en (α := Int) p_pair.1)) rfl) (PV.cast (α := (Option Int)) (β := Int) (a := p_pair.2) (pv (d := (en (α := (Option Int)) p_pair.2)) rfl)) (fun b17 => (gs_ok (c := (decide (p_pair.1 ≤ b17))) fun M _ => rfl))))) h10 (fun r18 M19 h20 => ⟨rfl, h20⟩))))))))))
def t_is_open (p_piece : Pc) : Pr Bool :=
  ((Pr.ok p_piece.isOld).bind fun a => if a then (p_piece.f2.bind fun (a1 : (Option Int)) => (Pr.ok a1.isNone)) else Pr.ok false)
theorem ft_is_open (p_piece : Pc) : FP F_is_open [(en (α := Pc) p_piece)] (t_is_open p_piece) := run_p (env0 := [some (en (α := Pc) p_piece)]) rfl rfl (fun M0 M hM => by
  unfold B_is_open t_is_open
  exact (last_of (seq_retx' (andV_x (PV.px (a := p_piece.isOld) (word_v (p := p_piece) (pv (d := (en (α := Pc) p_piece)) rfl)).2.1) (bin_ep (γ := Bool) (f2_x (p := p_piece) (pv (d := (en (α := Pc) p_piece)) rfl)) pv_c (fun a1 => (gs_is (o := a1))))) hM (fun r3 M4 h5 => ⟨rfl, h5⟩))))
def t_row_count (p_piece : Pc) : Pr Int :=
  (if p_piece.isOld then (((p_piece.f2.bind fun (a1 : (Option Int)) => cast (α := (Option Int)) (β := Int) a1).bind fun (a2 : Int) => (Pr.ok (a2 - p_piece.f1))).bind fun (a4 : Int) => (Pr.ok (a4 + (1 : Int)))) else
  (cast (α := (Option Int)) (β := Int) p_piece.fl))
theorem ft_row_count (p_piece : Pc) : FP F_row_count [(en (α := Pc) p_piece)] (t_row_count p_piece) := run_p (env0 := [some (en (α := Pc) p_piece)]) rfl rfl (fun M0 M hM => by
  unfold B_row_count t_row_count
  exact (seq_if (b_v (word_v (p := p_piece) (pv (d := (en (α := Pc) p_piece)) rfl)).2.1) hM (seq_retx' (bin_ep (γ := Int) (bin_ep (γ := Int) (PX.cast (α := (Option Int)) (β := Int) (f2_x (p := p_piece) (pv (d := (en (α := Pc) p_piece)) rfl))) (f1_v (p := p_piece) (pv (d := (en (α := Pc) p_piece)) rfl)) (fun a2 => (gs_ok (c := (a2 - p_piece.f1)) fun M _ => rfl))) pv_c (fun a4 => (gs_ok (c := (a4 + (1 : Int))) fun M _ => rfl))) hM (fun r6 M7 h8 => ⟨rfl, h8⟩))
  (seq_skip (last_of (seq_retx' (PV.cast (α := (Option Int)) (β := Int) (a := p_piece.fl) (fl_v (p := p_piece) (pv (d := (en (α := Pc) p_piece)) rfl))) hM (fun r9 M10 h11 => ⟨rfl, h11⟩))))))
def t_label_in (p_piece : Pc) (p_offset : Int) : Pr (Option (Int × Int)) :=
  (if p_piece.isTop then (Pr.ok (none : (Option (Int × Int)))) else
  (if p_piece.isOld then (Pr.ok (some (((p_piece.f1 + p_offset), (p_piece.f1 + p_offset)) : (Int × Int)))) else
  ((p_piece.f2.bind fun (a3 : (Option Int)) => (Pr.ok ((p_piece.f1, a3) : (Int × (Option Int))))).bind fun (a6 : (Int × (Option Int))) => cast (α := (Int × (Option Int))) (β := (Option (Int × Int))) a6)))
theorem ft_label_in (p_piece : Pc) (p_offset : Int) : FP F_label_in [(en (α := Pc) p_piece), (en (α := Int) p_offset)] (t_label_in p_piece p_offset) := run_p (env0 := [some (en (α := Pc) p_piece), some (en (α := Int) p_offset)]) rfl rfl (fun M0 M hM => by
  unfold B_label_in t_label_in
  exact (seq_if (b_v (word_v (p := p_piece) (pv (d := (en (α := Pc) p_piece)) rfl)).1) hM (seq_ret (x := (en (α := (Option (Int × Int))) (none : (Option (Int × Int))))) pv_c hM ⟨rfl, hM⟩)
  (seq_skip (seq_if (b_v (word_v (p := p_piece) (pv (d := (en (α := Pc) p_piece)) rfl)).2.1) hM (seq_ret (x := (en (α := (Option (Int × Int))) (some (((p_piece.f1 + p_offset), (p_piece.f1 + p_offset)) : (Int × Int))))) (tup_v (av_cons (x := (en (α := Int) (p_piece.f1 + p_offset))) (bin_v (z := (en (α := Int) (p_piece.f1 + p_offset))) (f1_v (p := p_piece) (pv (d := (en (α := Pc) p_piece)) rfl)) (pv (d := (en (α := Int) p_offset)) rfl) (fun M _ => rfl)) (av_cons (x := (en (α := Int) (p_piece.f1 + p_offset))) (bin_v (z := (en (α := Int) (p_piece.f1 + p_offset))) (f1_v (p := p_piece) (pv (d := (en (α := Pc) p_piece)) rfl)) (pv (d := (en (α := Int) p_offset)) rfl) (fun M _ => rfl)) av_nil))) hM ⟨rfl, hM⟩)
  (seq_skip (last_of (seq_retx' (PX.cast (α := (Int × (Option Int))) (β := (Option (Int × Int))) (fun M1 h2 => (arg_p (f1_v (p := p_piece) (pv (d := (en (α := Pc) p_piece)) rfl)) h2 (arg_e (f2_x (p := p_piece) (pv (d := (en (α := Pc) p_piece)) rfl)) h2 (fun (a3 : (Option Int)) M4 h5 => (arg_nil (seq_end (mk := D.tup) (a := ((p_piece.f1, a3) : (Int × (Option Int)))) rfl h5))))))) hM (fun r7 M8 h9 => ⟨rfl, h9⟩))))))))
def t_first_label (p_piece : Pc) : Pr (Option (Int × Int)) :=
  (t_label_in p_piece (0 : Int))
theorem ft_first_label (p_piece : Pc) : FP F_first_label [(en (α := Pc) p_piece)] (t_first_label p_piece) := run_p (env0 := [some (en (α := Pc) p_piece)]) rfl rfl (fun M0 M hM => by
  unfold B_first_label t_first_label
  exact (last_of (seq_retx' (fun M1 h2 => (arg_p (pv (d := (en (α := Pc) p_piece)) rfl) h2 (arg_p pv_c h2 (arg_nil (callP (ft_label_in p_piece (0 : Int)) h2))))) hM (fun r3 M4 h5 => ⟨rfl, h5⟩))))
def t_starts_of (p_pieces : (Sq Pc)) : Pr (List Int) :=
  (((lim (Sq.cut p_pieces none (some (-(1 : Int)))).l).bind fun (l14 : List Pc) => Pr.forM l14 ([(0 : Int)] : (List Int)) (fun (x5 : Pc) (s4 : (List Int)) =>
  (((idx s4 (-(1 : Int))).bind fun (a11 : Int) => (t_row_count x5).bind fun (b12 : Int) => (Pr.ok (a11 + b12))).bind fun (a13 : Int) => Pr.need (s4.length < 16777216)
  (Pr.ok (s4 ++ [a13]))))).bind fun (s4 : (List Int)) =>
  (Pr.ok s4))
theorem ft_starts_of (p_pieces : (Sq Pc)) : FP F_starts_of [(en (α := (Sq Pc)) p_pieces)] (t_starts_of p_pieces) := frz_p (env0 := [some (en (α := (Sq Pc)) p_pieces), none, none]) rfl rfl (fun M0 M hP hM => by
  unfold B_starts_of t_starts_of
  exact (seq_newC (l := ([(0 : Int)] : (List Int))) (env1 := fun n1 => [some (en (α := (Sq Pc)) p_pieces), some (.ref n1), none]) (fun _ => rfl) (av_cons (x := (en (α := Int) (0 : Int))) pv_c av_nil) hM (by exact Nat.le_of_ble_eq_true rfl) (fun n1 M2 h3 => (seq_nx (k := fun (s4 : (List Int)) => (Pr.ok s4)) (forS_nx (enc := (en (α := Pc))) (s := ([(0 : Int)] : (List Int))) (body := (fun (x5 : Pc) (s4 : (List Int)) =>
  (((idx s4 (-(1 : Int))).bind fun (a11 : Int) => (t_row_count x5).bind fun (b12 : Int) => (Pr.ok (a11 + b12))).bind fun (a13 : Int) => Pr.need (s4.length < 16777216)
  (Pr.ok (s4 ++ [a13]))))) (I := (fun (s4 : (List Int)) (env : En) (M : Sto) => ∃ o6 : Option D, env = [some (en (α := (Sq Pc)) p_pieces), some (.ref n1), o6] ∧ (St M0.length (· = M0) [(n1, Cell.lst (List.map (en (α := Int)) s4))]) M)) (j_q (q := (Sq.cut p_pieces none (some (-(1 : Int))))) (sl_q (q := p_pieces) (pv (d := (en (α := (Sq Pc)) p_pieces)) rfl) ov_n (ov_s (i := (-(1 : Int))) (un_v (z := (en (α := Int) (-(1 : Int)))) pv_c (fun M _ => rfl))))) h3 (fun M h => ⟨_, rfl, h⟩)
  (fun x5 s4 env M ⟨o6, he, hM⟩ => by subst he; exact ⟨[some (en (α := (Sq Pc)) p_pieces), some (.ref n1), some (en (α := Pc) x5)], rfl, (last_of (seq_appx (l := s4) 0 rfl rfl (bin_ee (γ := Int) (ix_l (l := s4) (lv_c 0 rfl rfl) (un_v (z := (en (α := Int) (-(1 : Int)))) pv_c (fun M _ => rfl))) (fun M9 h10 => (arg_p (pv (d := (en (α := Pc) x5)) rfl) h10 (arg_nil (callP (ft_row_count x5) h10)))) (fun a11 b12 => (gs_ok (c := (a11 + b12)) fun M _ => rfl))) hM (fun a13 M7 h8 =>
  (skip_end ⟨_, Or.inl rfl, _, rfl, h8⟩))))⟩))
  (fun s4 env M ⟨o6, he, h15⟩ => by subst he; exact (last_of (seq_ret (x := .ref n1) (pv rfl) h15 ⟨n1, _, rfl, h15, 0, rfl⟩)))))))
def t_Layout___eq__ (p_self : Lay) (p_other : Lay) : Pr Bool :=
  (Pr.ok (true && (decide (p_self.parts = p_other.parts))))
theorem ft_Layout___eq__ (p_self : Lay) (p_other : Lay) : FP F_Layout___eq__ [(en (α := Lay) p_self), (en (α := Lay) p_other)] (t_Layout___eq__ p_self p_other) := run_p (env0 := [some (en (α := Lay) p_self), some (en (α := Lay) p_other)]) rfl rfl (fun M0 M hM => by
  unfold B_Layout___eq__ t_Layout___eq__
  exact (last_of (seq_ret (x := (en (α := Bool) (true && (decide (p_self.parts = p_other.parts))))) (andV_v (isiL_v (a := p_other) (pv (d := (en (α := Lay) p_other)) rfl)) (bin_v (z := (en (α := Bool) (decide (p_self.parts = p_other.parts)))) (lay_parts (pv (d := (en (α := Lay) p_self)) rfl)) (lay_parts (pv (d := (en (α := Lay) p_other)) rfl)) (fun M _ => geqT (α := (List Pc)) p_self.parts p_other.parts M))) hM ⟨rfl, hM⟩)))
def t_Layout_pieces (p_self : Lay) : Pr (List Pc) :=
  (Pr.ok p_self.parts)
theorem ft_Layout_pieces (p_self : Lay) : FP F_Layout_pieces [(en (α := Lay) p_self)] (t_Layout_pieces p_self) := run_p (env0 := [some (en (α := Lay) p_self)]) rfl rfl (fun M0 M hM => by
  unfold B_Layout_pieces t_Layout_pieces
  exact (last_of (seq_ret (x := (en (α := (List Pc)) p_self.parts)) (callB_v (z := (en (α := (List Pc)) p_self.parts)) (av_cons (x := (en (α := (List Pc)) p_self.parts)) (lay_parts (pv (d := (en (α := Lay) p_self)) rfl)) av_nil) (fun _ _ => rfl)) hM ⟨rfl, hM⟩)))
def t_law : Pr Bool :=
  (Pr.flow ((Pr.need (sm (3 : Int)) (Pr.ok (rngI 0 (Int.toNat (3 : Int))))).bind fun (l125 : List Int) => Pr.forF (ρ := Bool) l125 () (fun (x2 : Int) (s1 : Unit) =>
  (((Pr.pull (6 : Int)).bind fun (b13 : Int) => (Pr.ok ((58 : Int) + b13))).bind fun (a18 : Int) => (((Pr.pull (9 : Int)).bind fun (b17 : Int) => (Pr.ok ((2 : Int) + b17))).bind fun (a21 : Int) => ((t__law_long_pieces a18 a21).bind fun (pieces_26 : (List Pc)) =>
  ((Pr.told (α := Int) ["BadPieces", "TooManyPieces"] ((tx_Layout (Sq.mk false pieces_26)).bind fun (a35 : Lay) => (t_Layout___len__ a35).bind fun (n36 : Int) => Pr.need (0 ≤ n36 ∧ n36 < 2 ^ 63) (Pr.ok n36))).bind fun (told_h_37 : (Str × Da)) =>
  ((((if (decide (a18 < (61 : Int))) then ((cast (α := Int) (β := Da) a18).bind fun (a44 : Da) => (Pr.ok ((("told" : Str), a44) : (Str × Da)))) else ((cast (α := Int) (β := Da) (60 : Int)).bind fun (a49 : Da) => (Pr.ok ((("TooManyPieces" : Str), a49) : (Str × Da))))).bind fun (a52 : (Str × Da)) => (lk (α := (Str × Da)) (β := (Str × Da)) 4 told_h_37 a52)).bind fun b => Pr.ok (!b)).bind fun c => if c then (Pr.ok (FlT.rt false)) else
  (((Pr.told (α := Lay) ["BadPieces", "TooManyPieces"] (tx_Layout (Sq.mk false (cutD pieces_26 none (some (-(1 : Int))))))).bind fun (a68 : (Str × Da)) => ((cast (α := Int) (β := Da) (a18 - (1 : Int))).bind fun (a65 : Da) => (Pr.ok ((("BadPieces" : Str), a65) : (Str × Da)))).bind fun (b69 : (Str × Da)) => (op2 (α := (Str × Da)) (β := (Str × Da)) (γ := Bool) (gEq true) a68 b69)).bind fun c => if c then (Pr.ok (FlT.rt false)) else
  (((Pr.pull (399 : Int)).bind fun (b77 : Int) => (Pr.ok ((1 : Int) + b77))).bind fun (size_78 : Int) =>
  (((((((Pr.need (sm size_78) (Pr.ok (rngI 0 (Int.toNat size_78)))).bind fun (l84 : List Int) => Pr.need (l84.length ≤ 16777216) (Pr.ok ((l84.filter fun (x83 : Int) => true).map fun (x83 : Int) => (Pc.old x83 x83)))).bind fun (a85 : (List Pc)) => (cat a85 ([(Pc.opn size_78)] : (List Pc)))).bind fun (a87 : (List Pc)) => cast (α := (List Pc)) (β := (Sq Pc)) a87).bind fun (a88 : (Sq Pc)) => (t_Layout a88)).bind fun (a93 : Lay) => (Pr.ok (mkLay [Pc.opn 0])).bind fun (b94 : Lay) => ((t_Layout___eq__ a93 b94).bind fun c => Pr.ok (if true then !c else c))).bind fun c => if c then (Pr.ok (FlT.rt false)) else
  ((((rep ([(Pc.new (0 : Int) a21 (1 : Int))] : (List Pc)) size_78).bind fun (b102 : (List Pc)) => (cat ([(Pc.old (0 : Int) (0 : Int))] : (List Pc)) b102)).bind fun (a103 : (List Pc)) => (cat a103 ([(Pc.opn a21)] : (List Pc)))).bind fun (label_105 : (List Pc)) =>
  ((((t_Layout (Sq.mk false (cutD label_105 (some (-(400 : Int))) none))).bind fun (a112 : Lay) => (t_Layout_pieces a112)).bind fun (a115 : (List Pc)) => Pr.ok (cutD a115 (some (-(2 : Int))) none)).bind fun (told_h_116 : (List Pc)) =>
  (((lk (α := (List Pc)) (β := (List Pc)) 4 told_h_116 ([(Pc.new (0 : Int) a21 size_78), (Pc.opn a21)] : (List Pc))).bind fun b => Pr.ok (!b)).bind fun c => if c then (Pr.ok (FlT.rt false)) else
  (Pr.ok (FlT.nx ()))))))))))))))) (fun (s1 : Unit) =>
  (Pr.ok (decide ((60 : Int) = (60 : Int))))) (fun (r127 : Bool) => r127))
theorem ft_law (ns : List Int) (hn : ns.length ≤ 63) : Sat (B_law [some (.scr ns), none, none, none, none, none, none, none, none, none] []) t_law (fun a fl M' => fl = .rt (en a) ∧ SB [] M') NX := by
  unfold B_law t_law
  exact seq_bag (env1 := [some (.scr ns), some (.ref 0), none, none, none, none, none, none, none, none]) (bag_ok ns hn) rfl rfl (fun M h0 => by
  have hM := h0
  exact (seq_fl (w := fun (r127 : Bool) => r127) (k := fun (s1 : Unit) => (Pr.ok (decide ((60 : Int) = (60 : Int))))) (for_fl (enc := D.int) (s := ()) (body := (fun (x2 : Int) (s1 : Unit) =>
  (((Pr.pull (6 : Int)).bind fun (b13 : Int) => (Pr.ok ((58 : Int) + b13))).bind fun (a18 : Int) => (((Pr.pull (9 : Int)).bind fun (b17 : Int) => (Pr.ok ((2 : Int) + b17))).bind fun (a21 : Int) => ((t__law_long_pieces a18 a21).bind fun (pieces_26 : (List Pc)) =>
  ((Pr.told (α := Int) ["BadPieces", "TooManyPieces"] ((tx_Layout (Sq.mk false pieces_26)).bind fun (a35 : Lay) => (t_Layout___len__ a35).bind fun (n36 : Int) => Pr.need (0 ≤ n36 ∧ n36 < 2 ^ 63) (Pr.ok n36))).bind fun (told_h_37 : (Str × Da)) =>
  ((((if (decide (a18 < (61 : Int))) then ((cast (α := Int) (β := Da) a18).bind fun (a44 : Da) => (Pr.ok ((("told" : Str), a44) : (Str × Da)))) else ((cast (α := Int) (β := Da) (60 : Int)).bind fun (a49 : Da) => (Pr.ok ((("TooManyPieces" : Str), a49) : (Str × Da))))).bind fun (a52 : (Str × Da)) => (lk (α := (Str × Da)) (β := (Str × Da)) 4 told_h_37 a52)).bind fun b => Pr.ok (!b)).bind fun c => if c then (Pr.ok (FlT.rt false)) else
  (((Pr.told (α := Lay) ["BadPieces", "TooManyPieces"] (tx_Layout (Sq.mk false (cutD pieces_26 none (some (-(1 : Int))))))).bind fun (a68 : (Str × Da)) => ((cast (α := Int) (β := Da) (a18 - (1 : Int))).bind fun (a65 : Da) => (Pr.ok ((("BadPieces" : Str), a65) : (Str × Da)))).bind fun (b69 : (Str × Da)) => (op2 (α := (Str × Da)) (β := (Str × Da)) (γ := Bool) (gEq true) a68 b69)).bind fun c => if c then (Pr.ok (FlT.rt false)) else
  (((Pr.pull (399 : Int)).bind fun (b77 : Int) => (Pr.ok ((1 : Int) + b77))).bind fun (size_78 : Int) =>
  (((((((Pr.need (sm size_78) (Pr.ok (rngI 0 (Int.toNat size_78)))).bind fun (l84 : List Int) => Pr.need (l84.length ≤ 16777216) (Pr.ok ((l84.filter fun (x83 : Int) => true).map fun (x83 : Int) => (Pc.old x83 x83)))).bind fun (a85 : (List Pc)) => (cat a85 ([(Pc.opn size_78)] : (List Pc)))).bind fun (a87 : (List Pc)) => cast (α := (List Pc)) (β := (Sq Pc)) a87).bind fun (a88 : (Sq Pc)) => (t_Layout a88)).bind fun (a93 : Lay) => (Pr.ok (mkLay [Pc.opn 0])).bind fun (b94 : Lay) => ((t_Layout___eq__ a93 b94).bind fun c => Pr.ok (if true then !c else c))).bind fun c => if c then (Pr.ok (FlT.rt false)) else
  ((((rep ([(Pc.new (0 : Int) a21 (1 : Int))] : (List Pc)) size_78).bind fun (b102 : (List Pc)) => (cat ([(Pc.old (0 : Int) (0 : Int))] : (List Pc)) b102)).bind fun (a103 : (List Pc)) => (cat a103 ([(Pc.opn a21)] : (List Pc)))).bind fun (label_105 : (List Pc)) =>
  ((((t_Layout (Sq.mk false (cutD label_105 (some (-(400 : Int))) none))).bind fun (a112 : Lay) => (t_Layout_pieces a112)).bind fun (a115 : (List Pc)) => Pr.ok (cutD a115 (some (-(2 : Int))) none)).bind fun (told_h_116 : (List Pc)) =>
  (((lk (α := (List Pc)) (β := (List Pc)) 4 told_h_116 ([(Pc.new (0 : Int) a21 size_78), (Pc.opn a21)] : (List Pc))).bind fun b => Pr.ok (!b)).bind fun c => if c then (Pr.ok (FlT.rt false)) else
  (Pr.ok (FlT.nx ()))))))))))))))) (I := (fun (s1 : Unit) (env : En) (M : Sto) => ∃ o3 o4 o5 o6 o7 o8 o9 : Option D, env = [some (.scr ns), some (.ref 0), o8, o5, o7, o6, o3, o4, o9, none] ∧ (SB []) M)) (R := fun (r : Bool) d M => d = en r ∧ SB [] M) (rng1_v (n := (3 : Int)) pv_c) hM (fun M h => ⟨_, _, _, _, _, _, _, rfl, h⟩)
  (fun x2 s1 env M ⟨o3, o4, o5, o6, o7, o8, o9, he, hM⟩ => by subst he; exact ⟨[some (.scr ns), some (.ref 0), some (en (α := Int) x2), o5, o7, o6, o3, o4, o9, none], rfl, (seq_par (arg_e (bin_pe (γ := Int) pv_c (fun M10 h11 => (arg_p (pv (d := .ref 0) rfl) h11 (arg_p pv_c h11 (arg_nil (callB (ft__law_pull (6 : Int)) h11))))) (fun b13 => (gs_ok (c := ((58 : Int) + b13)) fun M _ => rfl))) hM (fun (a18 : Int) M19 h20 => (arg_e (bin_pe (γ := Int) pv_c (fun M14 h15 => (arg_p (pv (d := .ref 0) rfl) h15 (arg_p pv_c h15 (arg_nil (callB (ft__law_pull (9 : Int)) h15))))) (fun b17 => (gs_ok (c := ((2 : Int) + b17)) fun M _ => rfl))) h20 (fun (a21 : Int) M22 h23 => (arg_nil (par_end (env1 := [some (.scr ns), some (.ref 0), some (en (α := Int) x2), o5, o7, o6, o3, some (en (α := Int) a18), some (en (α := Int) a21), none]) rfl (seq_setx (env1 := fun (pieces_26 : (List Pc)) => [some (.scr ns), some (.ref 0), some (en (α := Int) x2), some (en (α := (List Pc)) pieces_26), o7, o6, o3, some (en (α := Int) a18), some (en (α := Int) a21), none]) (fun _ => rfl) (fun M24 h25 => (arg_p (pv (d := (en (α := Int) a18)) rfl) h25 (arg_p (pv (d := (en (α := Int) a21)) rfl) h25 (arg_nil (callP (ft__law_long_pieces a18 a21) h25))))) h23 (fun (pieces_26 : (List Pc)) M27 h28 =>
  (seq_setx (env1 := fun (told_h_37 : (Str × Da)) => [some (.scr ns), some (.ref 0), some (en (α := Int) x2), some (en (α := (List Pc)) pieces_26), some (en (α := (Str × Da)) told_h_37), o6, o3, some (en (α := Int) a18), some (en (α := Int) a21), none]) (fun _ => rfl) (px_told (α := Int) (lenO_xx (fun _ => lay_ob) (fun a35 => ft_Layout___len__ a35) (fun M33 h34 => (arg_p (pv (d := (en (α := (List Pc)) pieces_26)) rfl) h34 (arg_nil (makePx (ftx_Layout (Sq.mk false pieces_26)) h34)))))) h28 (fun (told_h_37 : (Str × Da)) M38 h39 =>
  (seq_ifx (not_tx (tru_b (fun M40 h41 => (arg_p (pv (d := (en (α := (Str × Da)) told_h_37)) rfl) h41 (arg_e (ifE_t (α := (Str × Da)) (b_v (bin_v (z := (en (α := Bool) (decide (a18 < (61 : Int))))) (pv (d := (en (α := Int) a18)) rfl) pv_c (fun M _ => rfl))) (fun M42 h43 => (arg_p pv_c h43 (arg_e (PV.cast (α := Int) (β := Da) (a := a18) (pv (d := (en (α := Int) a18)) rfl)) h43 (fun (a44 : Da) M45 h46 => (arg_nil (seq_end (mk := D.tup) (a := ((("told" : Str), a44) : (Str × Da))) rfl h46)))))) (fun M47 h48 => (arg_p pv_c h48 (arg_e (PV.cast (α := Int) (β := Da) (a := (60 : Int)) pv_c) h48 (fun (a49 : Da) M50 h51 => (arg_nil (seq_end (mk := D.tup) (a := ((("TooManyPieces" : Str), a49) : (Str × Da))) rfl h51))))))) h41 (fun (a52 : (Str × Da)) M53 h54 => (arg_nil (callP (ft__law_like (α := (Str × Da)) (β := (Str × Da)) 4 told_h_37 a52) h54)))))))) h39 (fun M55 h56 => (seq_ret (x := (en (α := Bool) false)) pv_c h56 ⟨_, rfl, ⟨rfl, h56⟩⟩))
  (fun M57 h58 => (seq_skip (seq_ifx (b_x (bin_ee (γ := Bool) (px_told (α := Lay) (fun M61 h62 => (arg_p (sl_L (l := pieces_26) (lv_v (l := List.map (en (α := Pc)) pieces_26) (pv (d := (en (α := (List Pc)) pieces_26)) rfl)) ov_n (ov_s (i := (-(1 : Int))) (un_v (z := (en (α := Int) (-(1 : Int)))) pv_c (fun M _ => rfl)))) h62 (arg_nil (makePx (ftx_Layout (Sq.mk false (cutD pieces_26 none (some (-(1 : Int)))))) h62))))) (fun M63 h64 => (arg_p pv_c h64 (arg_e (PV.cast (α := Int) (β := Da) (a := (a18 - (1 : Int))) (bin_v (z := (en (α := Int) (a18 - (1 : Int)))) (pv (d := (en (α := Int) a18)) rfl) pv_c (fun M _ => rfl))) h64 (fun (a65 : Da) M66 h67 => (arg_nil (seq_end (mk := D.tup) (a := ((("BadPieces" : Str), a65) : (Str × Da))) rfl h67)))))) (fun a68 b69 => (gs_op2 (α := (Str × Da)) (β := (Str × Da)) (γ := Bool) (a := a68) (b := b69))))) h58 (fun M70 h71 => (seq_ret (x := (en (α := Bool) false)) pv_c h71 ⟨_, rfl, ⟨rfl, h71⟩⟩))
  (fun M72 h73 => (seq_skip (seq_setx (env1 := fun (size_78 : Int) => [some (.scr ns), some (.ref 0), some (en (α := Int) x2), some (en (α := (List Pc)) pieces_26), some (en (α := (Str × Da)) told_h_37), some (en (α := Int) size_78), o3, some (en (α := Int) a18), some (en (α := Int) a21), none]) (fun _ => rfl) (bin_pe (γ := Int) pv_c (fun M74 h75 => (arg_p (pv (d := .ref 0) rfl) h75 (arg_p pv_c h75 (arg_nil (callB (ft__law_pull (399 : Int)) h75))))) (fun b77 => (gs_ok (c := ((1 : Int) + b77)) fun M _ => rfl))) h73 (fun (size_78 : Int) M79 h80 =>
  (seq_ifx (b_x (eqO_ee (n := true) (fun a93 b94 => ft_Layout___eq__ a93 b94) (fun M81 h82 => (arg_e (PX.cast (α := (List Pc)) (β := (Sq Pc)) (bin_ep (γ := (List Pc)) (lc_v (enc := D.int) (c := fun (x83 : Int) => true) (g := fun (x83 : Int) => (Pc.old x83 x83)) (rng1_v (n := size_78) (pv (d := (en (α := Int) size_78)) rfl)) (fun x83 => ⟨[some (.scr ns), some (.ref 0), some (en (α := Int) x2), some (en (α := (List Pc)) pieces_26), some (en (α := (Str × Da)) told_h_37), some (en (α := Int) size_78), o3, some (en (α := Int) a18), some (en (α := Int) a21), some (en (α := Int) x83)], rfl, yes_tv, (tup_v (av_cons pv_c (av_cons (pv (d := (en (α := Int) x83)) rfl) (av_cons (pv (d := (en (α := Int) x83)) rfl) av_nil))))⟩)) (lst_v (av_cons (x := (en (α := Pc) (Pc.opn size_78))) (tup_v (av_cons pv_c (av_cons (pv (d := (en (α := Int) size_78)) rfl) (av_cons pv_c av_nil)))) av_nil)) (fun a85 => (gs_cat (a := a85) (b := ([(Pc.opn size_78)] : (List Pc))))))) h82 (fun (a88 : (Sq Pc)) M89 h90 => (arg_nil (makeP (ft_Layout a88) h90))))) (fun M91 h92 => callP ft_plain h92))) h80 (fun M95 h96 => (seq_ret (x := (en (α := Bool) false)) pv_c h96 ⟨_, rfl, ⟨rfl, h96⟩⟩))
  (fun M97 h98 => (seq_skip (seq_setx (env1 := fun (label_105 : (List Pc)) => [some (.scr ns), some (.ref 0), some (en (α := Int) x2), some (en (α := (List Pc)) pieces_26), some (en (α := (Str × Da)) told_h_37), some (en (α := Int) size_78), some (en (α := (List Pc)) label_105), some (en (α := Int) a18), some (en (α := Int) a21), none]) (fun _ => rfl) (bin_ep (γ := (List Pc)) (bin_pe (γ := (List Pc)) (lst_v (av_cons (x := (en (α := Pc) (Pc.old (0 : Int) (0 : Int)))) (tup_v (av_cons pv_c (av_cons pv_c (av_cons pv_c av_nil)))) av_nil)) (bin_pp (γ := (List Pc)) (P := (rep ([(Pc.new (0 : Int) a21 (1 : Int))] : (List Pc)) size_78)) (lst_v (av_cons (x := (en (α := Pc) (Pc.new (0 : Int) a21 (1 : Int)))) (tup_v (av_cons pv_c (av_cons pv_c (av_cons (pv (d := (en (α := Int) a21)) rfl) (av_cons pv_c av_nil))))) av_nil)) (pv (d := (en (α := Int) size_78)) rfl) (gs_rep (l := ([(Pc.new (0 : Int) a21 (1 : Int))] : (List Pc))) (k := size_78))) (fun b102 => (gs_cat (a := ([(Pc.old (0 : Int) (0 : Int))] : (List Pc))) (b := b102)))) (lst_v (av_cons (x := (en (α := Pc) (Pc.opn a21))) (tup_v (av_cons pv_c (av_cons (pv (d := (en (α := Int) a21)) rfl) (av_cons pv_c av_nil)))) av_nil)) (fun a103 => (gs_cat (a := a103) (b := ([(Pc.opn a21)] : (List Pc)))))) h98 (fun (label_105 : (List Pc)) M106 h107 =>
  (seq_setx (env1 := fun (told_h_116 : (List Pc)) => [some (.scr ns), some (.ref 0), some (en (α := Int) x2), some (en (α := (List Pc)) pieces_26), some (en (α := (List Pc)) told_h_116), some (en (α := Int) size_78), some (en (α := (List Pc)) label_105), some (en (α := Int) a18), some (en (α := Int) a21), none]) (fun _ => rfl) (sl_x (fun M108 h109 => meth_e (fun a => lay_ob (a := a)) (fun a => lk_no (by decide +kernel) (by decide +kernel) _ _) (fun M110 h111 => (arg_p (sl_L (l := label_105) (lv_v (l := List.map (en (α := Pc)) label_105) (pv (d := (en (α := (List Pc)) label_105)) rfl)) (ov_s (i := (-(400 : Int))) (un_v (z := (en (α := Int) (-(400 : Int)))) pv_c (fun M _ => rfl))) ov_n) h111 (arg_nil (makeP (ft_Layout (Sq.mk false (cutD label_105 (some (-(400 : Int))) none))) h111)))) h109 (fun a112 M113 h114 => (arg_nil (callP (ft_Layout_pieces a112) h114)))) (ov_s (i := (-(2 : Int))) (un_v (z := (en (α := Int) (-(2 : Int)))) pv_c (fun M _ => rfl))) ov_n) h107 (fun (told_h_116 : (List Pc)) M117 h118 =>
  (last_of (seq_ifx (not_tx (tru_b (fun M119 h120 => (arg_p (pv (d := (en (α := (List Pc)) told_h_116)) rfl) h120 (arg_p (lst_v (av_cons (x := (en (α := Pc) (Pc.new (0 : Int) a21 size_78))) (tup_v (av_cons pv_c (av_cons pv_c (av_cons (pv (d := (en (α := Int) a21)) rfl) (av_cons (pv (d := (en (α := Int) size_78)) rfl) av_nil))))) (av_cons (x := (en (α := Pc) (Pc.opn a21))) (tup_v (av_cons pv_c (av_cons (pv (d := (en (α := Int) a21)) rfl) (av_cons pv_c av_nil)))) av_nil))) h120 (arg_nil (callP (ft__law_like (α := (List Pc)) (β := (List Pc)) 4 told_h_116 ([(Pc.new (0 : Int) a21 size_78), (Pc.opn a21)] : (List Pc))) h120))))))) h118 (fun M121 h122 => (seq_ret (x := (en (α := Bool) false)) pv_c h122 ⟨_, rfl, ⟨rfl, h122⟩⟩))
  (fun M123 h124 => (seq_skip (skip_end ⟨_, Or.inl rfl, _, _, _, _, _, _, _, rfl, h124⟩)))))))))))))))))))))))))))))))⟩))
  (fun s1 env M ⟨o3, o4, o5, o6, o7, o8, o9, he, h126⟩ => by subst he; exact (last_of (seq_ret (x := (en (α := Bool) (decide ((60 : Int) = (60 : Int))))) (bin_v (z := (en (α := Bool) (decide ((60 : Int) = (60 : Int))))) pv_c pv_c (fun M _ => geqI _ _ M)) h126 ⟨rfl, h126⟩)))
  (fun r d M h => ⟨congrArg Fl.rt h.1, h.2⟩)))
theorem law_of (ht : t_law (fun b => b = true) (fun _ => False)) (ns : List Int) (hn : ns.length ≤ 63) : ∃ M, F_law [.scr ns] [] = .ok (.bl true) M := run_law (env0 := [some (.scr ns), none, none, none, none, none, none, none, none, none]) rfl (ft_law ns hn) ht
end T
end
section
set_option Elab.async false
set_option linter.all false
set_option maxRecDepth 100000
set_option maxHeartbeats 1000000
namespace T
open PySem L2 Ip
/-! ### rows of pieces -/
def labP : Pc → Int → Rw
  | .top _, _ => none
  | .old a _, k => some (a + k, a + k)
  | .opn a, k => some (a + k, a + k)
  | .new a b _, _ => some (a, b)
def lab : List Pc → Int → Rw
  | [], _ => none
  | p :: r, k => if isOpn p = true ∨ k < rc p then labP p k else lab r (k - rc p)
def tt : List Pc → Int
  | [] => 0
  | p :: r => rc p + tt r
def Cl (l : List Pc) : Prop := ∀ p ∈ l, isOpn p = false ∧ pok p
theorem Cl.nil : Cl [] := fun _ h => by cases h
theorem Cl.cons {p : Pc} {l : List Pc} (h : Cl (p :: l)) : (isOpn p = false ∧ pok p) ∧ Cl l := ⟨h p (by simp), fun q hq => h q (by simp [hq])⟩
theorem Cl.mk {p : Pc} {l : List Pc} (h1 : isOpn p = false) (h2 : pok p) (h : Cl l) : Cl (p :: l) := fun q hq => by
  rcases List.mem_cons.mp hq with rfl | z
  · exact ⟨h1, h2⟩
  · exact h q z
theorem Cl.app {l m : List Pc} (h : Cl l) (h' : Cl m) : Cl (l ++ m) := fun q hq => by
  rcases List.mem_append.mp hq with z | z
  · exact h q z
  · exact h' q z
theorem Cl.left {l m : List Pc} (h : Cl (l ++ m)) : Cl l := fun q hq => h q (List.mem_append_left _ hq)
theorem Cl.right {l m : List Pc} (h : Cl (l ++ m)) : Cl m := fun q hq => h q (List.mem_append_right _ hq)
theorem rc_pos {p : Pc} (h : pok p) (ho : isOpn p = false) : 1 ≤ rc p := by
  cases p <;> simp only [pok, rc, isOpn] at *
  · exact h
  · omega
  · cases ho
  · omega
theorem tt_nonneg : ∀ {l : List Pc}, Cl l → 0 ≤ tt l
  | [], _ => Int.le_refl _
  | p :: l, h => by
    have h1 := rc_pos h.cons.1.2 h.cons.1.1
    have h2 := tt_nonneg h.cons.2
    simp only [tt]
    omega
theorem tt_app : ∀ (l m : List Pc), tt (l ++ m) = tt l + tt m
  | [], m => by simp [tt]
  | p :: l, m => by simp only [List.cons_append, tt, tt_app l m]; omega
theorem lab_app : ∀ (m r : List Pc) (k : Int), Cl m → 0 ≤ k → lab (m ++ r) k = if k < tt m then lab m k else lab r (k - tt m)
  | [], r, k, _, hk => by
    rw [if_neg (show ¬ k < tt [] by simp only [tt]; omega), List.nil_append]
    congr 1
    simp only [tt]
    omega
  | p :: m, r, k, h, hk => by
    have h1 := rc_pos h.cons.1.2 h.cons.1.1
    have h2 := tt_nonneg h.cons.2
    simp only [List.cons_append, lab, h.cons.1.1, Bool.false_eq_true, false_or, tt]
    by_cases hc : k < rc p
    · rw [if_pos hc, if_pos (by omega), if_pos hc]
    · rw [if_neg hc, if_neg hc, lab_app m r (k - rc p) h.cons.2 (by omega)]
      by_cases hd : k - rc p < tt m
      · rw [if_pos hd, if_pos (by omega)]
      · rw [if_neg hd, if_neg (by omega)]
        congr 1
        omega
theorem lab_opn (t k : Int) : lab [.opn t] k = some (t + k, t + k) := rfl
/-! ### the normal form has the same rows -/
theorem lab_jn {p q r : Pc} (hp : pok p) (hq : pok q) (h : jn p q = some r) (rest : List Pc) (k : Int) (hk : 0 ≤ k) : lab (r :: rest) k = lab (p :: q :: rest) k := by
  cases p <;> cases q <;> simp only [jn] at h <;> (try (cases h; done))
  · rename_i n m
    cases h
    simp only [pok] at hp hq
    simp only [lab, isOpn, Bool.false_eq_true, false_or, rc, labP]
    by_cases h1 : k < n
    · rw [if_pos h1, if_pos (by omega)]
    · rw [if_neg h1]
      by_cases h2 : k - n < m
      · rw [if_pos h2, if_pos (by omega)]
      · rw [if_neg h2, if_neg (by omega)]
        congr 1
        omega
  · rename_i a b c d
    split at h
    · cases h
      simp only [pok] at hp hq
      simp only [lab, isOpn, Bool.false_eq_true, false_or, rc, labP]
      by_cases h1 : k < b - a + 1
      · rw [if_pos h1, if_pos (by omega)]
      · rw [if_neg h1]
        by_cases h2 : k - (b - a + 1) < d - c + 1
        · rw [if_pos h2, if_pos (by omega)]
          congr 2 <;> omega
        · rw [if_neg h2, if_neg (by omega)]
          congr 1
          omega
    · cases h
  · rename_i a b c
    split at h
    · cases h
      simp only [pok] at hp hq
      simp only [lab, isOpn, Bool.false_eq_true, false_or, rc, labP, true_or, if_true]
      by_cases h1 : k < b - a + 1
      · rw [if_pos h1]
      · rw [if_neg h1]
        congr 2 <;> omega
    · cases h
  · rename_i a b n c d m
    split at h
    · rename_i e
      obtain ⟨rfl, rfl⟩ := e
      cases h
      simp only [pok] at hp hq
      simp only [lab, isOpn, Bool.false_eq_true, false_or, rc, labP]
      by_cases h1 : k < n
      · rw [if_pos h1, if_pos (by omega)]
      · rw [if_neg h1]
        by_cases h2 : k - n < m
        · rw [if_pos h2, if_pos (by omega)]
        · rw [if_neg h2, if_neg (by omega)]
          congr 1
          omega
    · cases h
theorem jn_pok' {p q r : Pc} (hp : pok p) (hq : pok q) (h : jn p q = some r) : pok r := by
  cases p <;> cases q <;> simp only [jn] at h <;> (try (cases h; done))
  · cases h; simp only [pok] at *; omega
  · split at h
    · cases h; simp only [pok] at *; omega
    · cases h
  · split at h
    · cases h; simp only [pok] at *; omega
    · cases h
  · split at h
    · cases h; simp only [pok] at *; omega
    · cases h
theorem last_of' {acc : List Pc} {l : Pc} (h : acc.getLast? = some l) : acc = acc.dropLast ++ [l] := by
  have hne : acc ≠ [] := fun z => by rw [z] at h; cases h
  rw [List.getLast?_eq_some_getLast hne] at h
  cases h
  exact (List.dropLast_concat_getLast hne).symm
theorem lab_nfS (acc rest : List Pc) (p : Pc) (ha : Cl acc) (hp : pok p) (k : Int) (hk : 0 ≤ k) : lab (nfS acc p ++ rest) k = lab (acc ++ p :: rest) k := by
  unfold nfS
  cases hl : acc.getLast? with
  | none => simp
  | some l =>
    cases hj : jn l p with
    | none => simp [hj]
    | some r =>
      simp only [hj]
      have e := last_of' hl
      generalize acc.dropLast = a at e
      subst e
      have hla := ha.right l (by simp)
      simp only [List.append_assoc, List.singleton_append]
      rw [lab_app _ _ _ ha.left hk, lab_app _ _ _ ha.left hk]
      by_cases h1 : k < tt a
      · rw [if_pos h1, if_pos h1]
      · rw [if_neg h1, if_neg h1, lab_jn hla.2 hp hj rest _ (by omega)]
theorem Cl.nfS {acc : List Pc} {p : Pc} (ha : Cl acc) (hp : pok p) (ho : isOpn p = false) : Cl (T.nfS acc p) := by
  unfold T.nfS
  cases hl : acc.getLast? with
  | none => exact ha.app (.mk ho hp .nil)
  | some l =>
    cases hj : jn l p with
    | none => simp only [hj]; exact ha.app (.mk ho hp .nil)
    | some r =>
      simp only [hj]
      have e := last_of' hl
      generalize acc.dropLast = a at e
      subst e
      have hla := ha.right l (by simp)
      exact ha.left.app (.mk (by rw [jn_opn hj]; exact ho) (jn_pok' hla.2 hp hj) .nil)
theorem lab_fold : ∀ (m acc rest : List Pc) (k : Int), Cl acc → Cl m → 0 ≤ k → lab (m.foldl nfS acc ++ rest) k = lab (acc ++ m ++ rest) k ∧ Cl (m.foldl nfS acc)
  | [], acc, rest, k, ha, _, hk => ⟨by simp, ha⟩
  | p :: m, acc, rest, k, ha, hm, hk => by
    have h1 := hm.cons
    have ih := lab_fold m (nfS acc p) rest k (ha.nfS h1.1.2 h1.1.1) h1.2 hk
    refine ⟨?_, ih.2⟩
    show lab (m.foldl nfS (nfS acc p) ++ rest) k = _
    rw [ih.1, List.append_assoc, lab_nfS acc (m ++ rest) p ha h1.1.2 k hk]
    simp
/-- a layout: pieces with an end, and an open one -/
structure Ly (l m : List Pc) (t : Int) : Prop where
  eq : l = m ++ [.opn t]
  cl : Cl m
  t0 : 0 ≤ t
theorem jn_opn_old {p : Pc} {t : Int} {r : Pc} (h : jn p (.opn t) = some r) : ∃ a b, p = .old a b ∧ r = .opn a ∧ b + 1 = t := by
  cases p <;> simp only [jn] at h <;> (try (cases h; done))
  split at h
  · cases h; exact ⟨_, _, rfl, rfl, by assumption⟩
  · cases h
theorem nf_Ly {l m : List Pc} {t : Int} (h : Ly l m t) : ∃ m' t', Ly (nf l) m' t' ∧ ∀ k, 0 ≤ k → lab (nf l) k = lab l k := by
  have e : nf l = nfS (nf m) (.opn t) := by rw [h.eq]; unfold nf; rw [List.foldl_append]; rfl
  have hf := fun rest k hk => lab_fold m [] rest k .nil h.cl hk
  have hc : Cl (nf m) := (hf [] 0 (Int.le_refl _)).2
  have hp : pok (.opn t) := h.t0
  have hl : ∀ k, 0 ≤ k → lab (nf l) k = lab l k := fun k hk => by
    rw [e]
    have h1 := lab_nfS (nf m) [] (.opn t) hc hp k hk
    rw [List.append_nil] at h1
    rw [h1, show nf m ++ [Pc.opn t] = m.foldl nfS [] ++ [.opn t] from rfl, (hf [.opn t] k hk).1, h.eq]
    simp
  cases hg : (nf m).getLast? with
  | none =>
    refine ⟨nf m, t, ⟨?_, hc, h.t0⟩, hl⟩
    rw [e]
    simp only [nfS, hg]
  | some q =>
    cases hj : jn q (.opn t) with
    | none =>
      refine ⟨nf m, t, ⟨?_, hc, h.t0⟩, hl⟩
      rw [e]
      simp only [nfS, hg, hj]
    | some r =>
      obtain ⟨a, b, rfl, rfl, _⟩ := jn_opn_old hj
      have e2 := last_of' hg
      have hq := hc (.old a b) (by rw [e2]; simp)
      have h0 : 0 ≤ a := hq.2.1
      refine ⟨(nf m).dropLast, a, ⟨?_, ?_, h0⟩, hl⟩
      · rw [e]
        simp only [nfS, hg, hj]
      · intro p hp
        exact hc p (List.dropLast_subset _ hp)
end T
end
section
set_option Elab.async false
set_option linter.all false
set_option maxRecDepth 100000
set_option maxHeartbeats 1000000
namespace T
open PySem L2 Ip
/-! ### layouts by their rows -/
theorem mf_of {p q : Pc} (hp : pok p) (ho : isOpn p = false) (hq : pok q) (h : pr (labP p (rc p - 1)) (labP q 0)) : mf p q = true := by
  cases p <;> cases q <;> simp only [labP, pr, mf, pok, isOpn, rc, Bool.and_eq_true, decide_eq_true_eq] at * <;> first | (cases ho; done) | omega | (have := h.2.2 trivial trivial; omega)
theorem pr_mf' {p q : Pc} (hp : pok p) (hq : pok q) (h : mf p q = true) : pr (labP p (rc p - 1)) (labP q 0) := by
  cases p <;> cases q <;> simp only [mf] at h <;> first | (cases h; done) | (simp only [labP, pr]; done) | (simp only [labP, pr, pok, rc, Bool.and_eq_true, decide_eq_true_eq] at *; omega)
theorem pr_in {p : Pc} (hp : pok p) (k : Int) : pr (labP p k) (labP p (k + 1)) := by
  cases p <;> simp only [labP, pr, pok] at * <;> omega
theorem okR_labP {p : Pc} (hp : pok p) (k : Int) (hk : 0 ≤ k) : okR (labP p k) := by
  cases p <;> simp only [labP, okR, pok] at * <;> omega
/-- rows in order -/
def Ord (f : Int → Rw) : Prop := ∀ k, 0 ≤ k → pr (f k) (f (k + 1)) ∧ okR (f k)
theorem lab_head {p : Pc} (r : List Pc) (hp : isOpn p = true ∨ 0 < rc p) : lab (p :: r) 0 = labP p 0 := by
  simp only [lab]
  rw [if_pos hp]
theorem lab_tail {p : Pc} (r : List Pc) (ho : isOpn p = false) (k : Int) (hk : 0 ≤ k) : lab (p :: r) (k + rc p) = lab r k := by
  simp only [lab, ho, Bool.false_eq_true, false_or]
  rw [if_neg (by omega)]
  congr 1
  omega
theorem lab_lastrow {p : Pc} (r : List Pc) (ho : isOpn p = false) (hp : pok p) : lab (p :: r) (rc p - 1) = labP p (rc p - 1) := by
  simp only [lab, ho, Bool.false_eq_true, false_or]
  rw [if_pos (by omega)]
theorem chainO : ∀ (m : List Pc) (p : Pc) (t : Int), isOpn p = false → pok p → Cl m → 0 ≤ t → Ord (lab (p :: (m ++ [.opn t]))) → chain p (m ++ [.opn t])
  | [], p, t, ho, hp, _, ht, h => by
    have h1 := (h (rc p - 1) (by have := rc_pos hp ho; omega)).1
    rw [show rc p - 1 + 1 = 0 + rc p by omega, lab_tail _ ho 0 (by omega), lab_lastrow _ ho hp] at h1
    exact ⟨ht, mf_of hp ho ht h1, trivial⟩
  | q :: m, p, t, ho, hp, hc, ht, h => by
    have hq := hc.cons
    have h1 := (h (rc p - 1) (by have := rc_pos hp ho; omega)).1
    rw [show rc p - 1 + 1 = 0 + rc p by omega, lab_tail _ ho 0 (by omega), lab_lastrow _ ho hp] at h1
    have hrq := rc_pos hq.1.2 hq.1.1
    rw [List.cons_append, lab_head _ (Or.inr (by omega))] at h1
    refine ⟨hq.1.2, mf_of hp ho hq.1.2 h1, chainO m q t hq.1.1 hq.1.2 hq.2 ht fun k hk => ?_⟩
    have hr := rc_pos hp ho
    have h2 := h (k + rc p) (by omega)
    rw [lab_tail _ ho k hk, show k + rc p + 1 = (k + 1) + rc p by omega, lab_tail _ ho (k + 1) (by omega)] at h2
    exact h2
theorem lastOf_app : ∀ (m : List Pc) (p q : Pc), lastOf p (m ++ [q]) = q
  | [], _, _ => rfl
  | x :: m, _, q => lastOf_app m x q
theorem validO {l m : List Pc} {t : Int} (h : Ly l m t) (ho : Ord (lab l)) : valid l := by
  obtain ⟨rfl, hc, ht⟩ := h
  cases m with
  | nil => exact ⟨ht, trivial, rfl⟩
  | cons p m =>
    refine ⟨hc.cons.1.2, chainO m p t hc.cons.1.1 hc.cons.1.2 hc.cons.2 ht ho, ?_⟩
    show isOpn (lastOf p (m ++ [.opn t])) = true
    rw [lastOf_app]; rfl
theorem chain_rows : ∀ (r : List Pc) (p : Pc), pok p → chain p r → isOpn (lastOf p r) = true → (∃ m t, Ly (p :: r) m t) ∧ Ord (lab (p :: r))
  | [], p, hp, _, hl => by
    obtain ⟨t, rfl⟩ : ∃ t, p = .opn t := by cases p <;> simp only [lastOf, isOpn] at hl <;> first | (cases hl; done) | exact ⟨_, rfl⟩
    refine ⟨⟨[], t, rfl, .nil, hp⟩, fun k hk => ?_⟩
    exact ⟨pr_in (p := .opn t) hp k, okR_labP (p := .opn t) hp k hk⟩
  | q :: r, p, hp, hc, hl => by
    obtain ⟨hq, hm, hc'⟩ := hc
    obtain ⟨⟨m, t, e, hcm, ht⟩, ho⟩ := chain_rows r q hq hc' hl
    have hop : isOpn p = false := by
      cases p <;> first | rfl | (simp only [mf] at hm; cases hm)
    have hr := rc_pos hp hop
    refine ⟨⟨p :: m, t, by rw [e]; rfl, .mk hop hp hcm, ht⟩, fun k hk => ?_⟩
    by_cases h1 : k + 1 < rc p
    · have e1 : ∀ j, j < rc p → lab (p :: q :: r) j = labP p j := fun j hj => by
        rw [show lab (p :: q :: r) j = if isOpn p = true ∨ j < rc p then labP p j else lab (q :: r) (j - rc p) from rfl, if_pos (Or.inr hj)]
      rw [e1 k (by omega), e1 (k + 1) h1]
      exact ⟨pr_in hp k, okR_labP hp k hk⟩
    · by_cases h2 : k < rc p
      · have e0 : k = rc p - 1 := by omega
        subst e0
        rw [lab_lastrow _ hop hp, show rc p - 1 + 1 = 0 + rc p by omega, lab_tail _ hop 0 (by omega)]
        have hh : isOpn q = true ∨ 0 < rc q := by
          cases hq' : isOpn q with
          | true => exact .inl rfl
          | false => exact .inr (by have := rc_pos hq hq'; omega)
        rw [lab_head _ hh]
        exact ⟨pr_mf' hp hq hm, okR_labP hp _ hk⟩
      · have h3 := ho (k - rc p) (by omega)
        have e2 := lab_tail (q :: r) hop (k - rc p) (by omega)
        have e3 := lab_tail (q :: r) hop (k - rc p + 1) (by omega)
        rw [show k - rc p + rc p = k by omega] at e2
        rw [show k - rc p + 1 + rc p = k + 1 by omega] at e3
        rw [e2, e3]
        exact h3
theorem rows_of {l : List Pc} (h : valid l) : (∃ m t, Ly l m t) ∧ Ord (lab l) := by
  cases l with
  | nil => exact h.elim
  | cons p r => exact chain_rows r p h.1 h.2.1 h.2.2
theorem Ord.lt {f : Int → Rw} (h : Ord f) {i : Int} (hi : 0 ≤ i) : ∀ n : Nat, pr (f i) (f (i + 1 + n))
  | 0 => by simpa using (h i hi).1
  | n + 1 => by
    have h1 := Ord.lt h hi n
    have h2 := h (i + 1 + n) (by omega)
    have e : i + 1 + ((n + 1 : Nat) : Int) = i + 1 + n + 1 := by omega
    rw [e]
    exact pr_trans h2.2 h1 h2.1
theorem Ord.pr {f : Int → Rw} (h : Ord f) {i j : Int} (hi : 0 ≤ i) (hj : i < j) : Ip.pr (f i) (f j) := by
  have := h.lt hi (j - i - 1).toNat
  rw [show i + 1 + (((j - i - 1).toNat : Nat) : Int) = j by omega] at this
  exact this
end T
end
section
set_option Elab.async false
set_option linter.all false
set_option maxRecDepth 100000
set_option maxHeartbeats 1000000
namespace T
open PySem L2 Ip
theorem need_ok {α : Type} {c : Prop} (h : c) (p : Pr α) : Pr.need c p = p := by
  funext Q E
  exact propext ⟨fun z => z.2, fun z => ⟨h, z⟩⟩
theorem forM_in {α σ : Type} (body : α → σ → Pr σ) (L : List α) (I : List α → σ → Prop) (hb : ∀ x done rest s, done ++ x :: rest = L → I done s → ∃ s', body x s = Pr.ok s' ∧ I (done ++ [x]) s') :
    ∀ (l : List α) (done : List α) (s : σ), done ++ l = L → I done s → ∃ s', Pr.forM l s body = Pr.ok s' ∧ I L s'
  | [], done, s, e, h => ⟨s, rfl, by rw [← e]; simpa using h⟩
  | x :: l, done, s, e, h => by
    obtain ⟨s1, e1, h1⟩ := hb x done l s e h
    obtain ⟨s2, e2, h2⟩ := forM_in body L I hb l (done ++ [x]) s1 (by rw [← e]; simp) h1
    refine ⟨s2, ?_, h2⟩
    show (body x s).bind _ = _
    rw [e1, Pr.ok_bind, e2]
theorem lim_ok {α : Type} {l : List α} (h : l.length < 20000000) : lim l = Pr.ok l := need_ok h _
theorem nfl (l : List Pc) : (nf l).length ≤ l.length := by
  have : ∀ (l acc : List Pc), (l.foldl nfS acc).length ≤ acc.length + l.length := by
    intro l
    induction l with
    | nil => intro acc; simp
    | cons p l ih =>
      intro acc
      have h1 := ih (nfS acc p)
      have h2 := nfS_len acc p
      simp only [List.foldl_cons, List.length_cons]
      omega
  show (l.foldl nfS []).length ≤ l.length
  have h := this l []
  simp only [List.length_nil, Nat.zero_add] at h
  exact h
theorem Ly.pok {l m : List Pc} {t : Int} (h : Ly l m t) {p : Pc} (hp : p ∈ l) : T.pok p := by
  rw [h.eq] at hp
  rcases List.mem_append.mp hp with z | z
  · exact (h.cl p z).2
  · rw [List.mem_singleton.mp z]; exact h.t0
theorem Ly.len {l m : List Pc} {t : Int} (h : Ly l m t) : l.length = m.length + 1 := by rw [h.eq]; simp
theorem valid_eq {f g : Int → Rw} (h : Ord f) (e : ∀ k, 0 ≤ k → g k = f k) : Ord g := fun k hk => by
  rw [e k hk, e (k + 1) (by omega)]
  exact h k hk
theorem cat_ok {α : Type} {a b : List α} (h : a.length + b.length ≤ 16777216) : cat a b = Pr.ok (a ++ b) := need_ok h _
theorem Layout_t {q : Sq Pc} (hv : valid q.l) (hl : q.l.length ≤ 60) : t_Layout q = Pr.ok (mkLay (nf q.l)) ∧ valid (nf q.l) ∧ (∀ k, 0 ≤ k → lab (nf q.l) k = lab q.l k) ∧ (nf q.l).length ≤ q.l.length := by
  obtain ⟨⟨m, t, hm⟩, ho⟩ := rows_of hv
  obtain ⟨m', t', hm', hl'⟩ := nf_Ly hm
  have h2 := nfl q.l
  refine ⟨?_, validO hm' (valid_eq ho hl'), hl', h2⟩
  funext Q E
  refine propext ⟨fun z => z.2.2.2.2, fun z => ⟨hv, fun p hp => ?_, by omega, by omega, z⟩⟩
  rw [hm'.eq, List.dropLast_concat] at hp
  exact (hm'.cl p hp).1
/-- a layout whose rows are f -/
structure IsL (L : Lay) (f : Int → Rw) : Prop where
  st : L = mkLay L.parts
  ok : valid L.parts
  rows : ∀ k, 0 ≤ k → lab L.parts k = f k
theorem forF_rt {α σ ρ : Type} {b : α → σ → Pr (FlT σ ρ)} {x : α} {s : σ} {r : ρ} (xs : List α) (h : b x s = Pr.ok (.rt r)) : Pr.forF (x :: xs) s b = Pr.ok (.rt r) := by
  show (b x s).bind _ = _
  rw [h]
  rfl
theorem forF_nx {α σ ρ : Type} {b : α → σ → Pr (FlT σ ρ)} {x : α} {s s' : σ} (xs : List α) (h : b x s = Pr.ok (.nx s')) : Pr.forF (x :: xs) s b = Pr.forF xs s' b := by
  show (b x s).bind _ = _
  rw [h]
  rfl
end T
end
section
set_option Elab.async false
set_option linter.all false
set_option maxRecDepth 100000
set_option maxHeartbeats 1000000
namespace T
open PySem L2 Ip
/-! ### lists -/
theorem cut_take {α : Type} (l : List α) (n : Int) (h : 0 ≤ n) : cutD l none (some n) = l.take n.toNat := by
  unfold cutD
  have h1 : HT.sIx l.length 0 none = 0 := rfl
  have h2 : HT.sIx l.length l.length (some n) = min n.toNat l.length := by
    conv => lhs; rw [show n = ((n.toNat : Nat) : Int) by omega]
    rw [HT.sIx_nat]
  rw [h1, h2]
  simp only [List.drop_zero, Nat.sub_zero]
  rw [List.take_eq_take_iff]
  omega
theorem cut_drop' {α : Type} (l : List α) (n : Int) (h : 0 ≤ n) : cutD l (some n) none = l.drop n.toNat := by
  unfold cutD
  have h1 : HT.sIx l.length l.length none = l.length := rfl
  have h2 : HT.sIx l.length 0 (some n) = min n.toNat l.length := by
    conv => lhs; rw [show n = ((n.toNat : Nat) : Int) by omega]
    rw [HT.sIx_nat]
  rw [h1, h2]
  rw [List.take_of_length_le (by simp)]
  by_cases hc : n.toNat ≤ l.length
  · rw [Nat.min_eq_left hc]
  · rw [Nat.min_eq_right (by omega), List.drop_length, List.drop_of_length_le (by omega)]
theorem idx_int {α : Type} [Inhabited α] {l : List α} {i : Int} (h0 : 0 ≤ i) (h : i < l.length) : idx l i = Pr.ok l[i.toNat]! := by
  have hn : i.toNat < l.length := by omega
  have e : i = ((i.toNat : Nat) : Int) := by omega
  conv => lhs; rw [e]
  rw [idx_nat hn, getElem!_pos l _ hn]
theorem lcM_ok {β γ : Type} {c : β → Pr Bool} {g : β → Pr γ} {cb : β → Bool} {gv : β → γ} : ∀ (l : List β), (∀ x ∈ l, c x = Pr.ok (cb x) ∧ g x = Pr.ok (gv x)) → Pr.lcM l c g = Pr.ok ((l.filter cb).map gv)
  | [], _ => rfl
  | x :: l, h => by
    obtain ⟨h1, h2⟩ := h x (by simp)
    have ih := lcM_ok l fun y hy => h y (by simp [hy])
    show (c x).bind _ = _
    rw [h1, Pr.ok_bind]
    cases hc : cb x with
    | true =>
      rw [if_pos rfl, h2, Pr.ok_bind, ih, Pr.ok_bind, List.filter_cons_of_pos hc]
      rfl
    | false =>
      rw [if_neg (by simp), ih, List.filter_cons_of_neg (by simp [hc])]
/-- any list of values that may come -/
theorem lcM_any {β γ : Type} {g : β → Pr γ} {P : γ → Prop} {E : Exn → Prop} : ∀ (l : List β) (Q : List γ → Prop), (∀ x ∈ l, ∀ Q : γ → Prop, (∀ y, P y → Q y) → g x Q E) → (∀ ys, ys.length = l.length → (∀ y ∈ ys, P y) → Q ys) → Pr.lcM l (fun _ => Pr.ok true) g Q E
  | [], Q, _, h => h [] rfl (fun _ z => by cases z)
  | x :: l, Q, hg, h => by
    show (g x) (fun y => (Pr.lcM l (fun _ => Pr.ok true) g) (fun ys => Q (y :: ys)) E) E
    refine hg x (by simp) _ fun y hy => ?_
    refine lcM_any l _ (fun z hz => hg z (by simp [hz])) fun ys h1 h2 => h (y :: ys) (by simp [h1]) fun z hz => ?_
    rcases List.mem_cons.mp hz with rfl | hz
    · exact hy
    · exact h2 z hz
theorem rngI_len (lo : Int) (n : Nat) : (rngI lo n).length = n := by simp [rngI]
theorem rngI_mem {lo : Int} {n : Nat} {x : Int} : x ∈ rngI lo n ↔ lo ≤ x ∧ x < lo + n := by
  unfold rngI
  simp only [List.mem_map, List.mem_range]
  constructor
  · rintro ⟨k, h, rfl⟩; omega
  · rintro ⟨h1, h2⟩; exact ⟨(x - lo).toNat, by omega, by omega⟩
theorem rngI_add (lo : Int) (n m : Nat) : rngI lo (n + m) = rngI lo n ++ rngI (lo + n) m := by
  unfold rngI
  rw [List.range_add, List.map_append, List.map_map]
  congr 1
  apply List.map_congr_left
  intro k _
  simp only [Function.comp]
  omega
theorem rngI_filter (n : Nat) (P : Int → Bool) (r e : Int) (h0 : 0 ≤ r) (hre : r ≤ e) (he : e < n) (hP : ∀ k : Int, 0 ≤ k → k < n → (P k = true ↔ r ≤ k ∧ k ≤ e)) : (rngI 0 n).filter P = rngI r (e - r + 1).toNat := by
  have e1 : n = r.toNat + ((e - r + 1).toNat + (n - (e + 1).toNat)) := by omega
  rw [e1, rngI_add, rngI_add, List.filter_append, List.filter_append]
  have f1 : (rngI 0 r.toNat).filter P = [] := List.filter_eq_nil_iff.mpr fun x hx hp => by
    rw [rngI_mem] at hx
    have := (hP x hx.1 (by omega)).mp hp
    omega
  have f2 : (rngI (0 + (r.toNat : Nat)) (e - r + 1).toNat).filter P = rngI (0 + (r.toNat : Nat)) (e - r + 1).toNat := List.filter_eq_self.mpr fun x hx => by
    rw [rngI_mem] at hx
    exact (hP x (by omega) (by omega)).mpr (by omega)
  have f3 : (rngI (0 + (r.toNat : Nat) + ((e - r + 1).toNat : Nat)) (n - (e + 1).toNat)).filter P = [] := List.filter_eq_nil_iff.mpr fun x hx hp => by
    rw [rngI_mem] at hx
    have := (hP x (by omega) (by omega)).mp hp
    omega
  rw [f1, f2, f3]
  simp
  congr 1
  omega
theorem rngI_empty (n : Nat) (P : Int → Bool) (hP : ∀ k : Int, 0 ≤ k → k < n → P k = false) : (rngI 0 n).filter P = [] := List.filter_eq_nil_iff.mpr fun x hx hp => by
  rw [rngI_mem] at hx
  rw [hP x hx.1 (by omega)] at hp
  cases hp
theorem get_bang {α : Type} [Inhabited α] (l : List α) (k : Nat) (h : k < l.length) : l[k]! = l[k] := getElem!_pos l k h
theorem need_T {α : Type} {c : Prop} (h : c) (p : Pr α) : Pr.need c p = p := need_ok h p
theorem filter_T {α : Type} (l : List α) : (l.filter fun _ => true) = l := List.filter_eq_self.mpr fun _ _ => rfl
theorem sm_of {n : Int} (h : -1000 ≤ n) (h' : n ≤ 1000000) : sm n := ⟨by omega, by omega⟩
theorem rep_one {α : Type} (x : α) (n : Int) (h : 0 ≤ n) (h' : n ≤ 1000) : rep [x] n = Pr.ok (List.replicate n.toNat x) := by
  unfold rep
  rw [need_T ⟨sm_of (by omega) (by omega), by simp; omega⟩]
  congr 1
  generalize n.toNat = k
  induction k with
  | zero => rfl
  | succ k ih => rw [List.replicate_succ, List.flatten_cons, ih]; rfl
/-! ### what may be drawn -/
theorem forF_unit {α ρ : Type} {b : α → Unit → Pr (FlT Unit ρ)} {E : Exn → Prop} : ∀ (l : List α) (Q : FlT Unit ρ → Prop), (∀ x ∈ l, ∀ Q : FlT Unit ρ → Prop, Q (.nx ()) → b x () Q E) → Q (.nx ()) → Pr.forF l () b Q E
  | [], Q, _, h => h
  | x :: l, Q, hb, h => by
    refine hb x (by simp) _ ?_
    exact forF_unit l Q (fun y hy => hb y (by simp [hy])) h
theorem need_i {α : Type} {c : Prop} {p : Pr α} {Q : α → Prop} {E : Exn → Prop} (h : c) (h' : p Q E) : Pr.need c p Q E := ⟨h, h'⟩
theorem pull_i {n : Int} {Q : Int → Prop} {E : Exn → Prop} (h0 : 0 < n) (h1 : n < 1073741824) (h : ∀ v, 0 ≤ v → v < n → Q v) : Pr.pull n Q E := ⟨h0, h1, h⟩
theorem of_i {α : Type} {l : List α} {Q : α → Prop} {E : Exn → Prop} (h0 : l ≠ []) (h1 : l.length < 1073741824) (h : ∀ x ∈ l, Q x) : Pr.of l Q E := ⟨h0, h1, h⟩
theorem lk_i {α β : Type} [Enc α] [Enc β] {k : Nat} {a : α} {b : β} {Q : Bool → Prop} {E : Exn → Prop} (e : en a = en b) (h : lkD k (en a) = true) (q : Q true) : lk k a b Q E := ⟨e, h, q⟩
theorem bind_i {α β : Type} {p : Pr α} {k : α → Pr β} {Q : β → Prop} {E : Exn → Prop} (h : p (fun a => k a Q E) E) : (p.bind k) Q E := h
theorem flow_bind {α σ ρ β : Type} (p : Pr α) (f : α → Pr (FlT σ ρ)) (k : σ → Pr β) (w : ρ → β) : Pr.flow (p.bind f) k w = p.bind fun a => Pr.flow (f a) k w := rfl
theorem flow_i {α ρ β : Type} {l : List α} {b : α → Unit → Pr (FlT Unit ρ)} {k : Unit → Pr β} {w : ρ → β} {Q : β → Prop} {E : Exn → Prop} (hb : ∀ x ∈ l, ∀ Q : FlT Unit ρ → Prop, Q (.nx ()) → b x () Q E) (h : k () Q E) : (Pr.flow (Pr.forF l () b) k w) Q E :=
  forF_unit l _ hb h
theorem if_not {α : Type} {p : Pr Bool} {x y : Pr α} {Q : α → Prop} {E : Exn → Prop} (h : ∀ Q' : Bool → Prop, Q' true → p Q' E) (hy : y Q E) : ((p.bind fun b => Pr.ok (!b)).bind fun c => if c then x else y) Q E := h _ hy
end T
end
section
set_option Elab.async false
set_option linter.all false
set_option maxRecDepth 100000
set_option maxHeartbeats 400000
namespace T
open PySem L2 Ip
/-- single old rows w apart, n of them, from the row a on -/
def sngl (w : Int) : Int → Nat → List Pc
  | _, 0 => []
  | a, n + 1 => .old a a :: sngl w (a + w) n
theorem sngl_len (w : Int) : ∀ (n : Nat) (a : Int), (sngl w a n).length = n
  | 0, _ => rfl
  | n + 1, a => by simp [sngl, sngl_len w n]
theorem sngl_map (w : Int) : ∀ (n : Nat) (i : Int), (rngI i n).map (fun k => Pc.old (k * w) (k * w)) = sngl w (i * w) n
  | 0, _ => rfl
  | n + 1, i => by
    rw [show n + 1 = 1 + n by omega, rngI_add]
    have e : rngI i 1 = [i] := by unfold rngI; simp
    rw [e, show 1 + n = n + 1 by omega]
    simp only [List.map_append, List.map_cons, List.map_nil, sngl, List.singleton_append, List.cons.injEq, true_and]
    rw [show i + ((1 : Nat) : Int) = i + 1 by omega, sngl_map w n (i + 1), Int.add_mul, Int.one_mul]
theorem sngl_head {w b : Int} {n : Nat} {q : Pc} (h : (sngl w b n ++ [Pc.opn (b + n * w)]).head? = some q) : q = .old b b ∨ q = .opn b := by
  cases n with
  | zero =>
    simp only [sngl, List.nil_append, List.head?_cons, Option.some.injEq] at h
    right
    rw [← h]
    congr 1
    simp
  | succ n =>
    simp only [sngl, List.cons_append, List.head?_cons, Option.some.injEq] at h
    exact .inl h.symm
theorem sngl_ok {w : Int} (hw : 2 ≤ w) : ∀ (n : Nat) (a : Int), 0 ≤ a → okp (sngl w a n ++ [Pc.opn (a + n * w)]) ∧ adj jnN (sngl w a n ++ [Pc.opn (a + n * w)])
  | 0, a, ha => by
    simp only [sngl, List.nil_append]
    exact ⟨okp_one (by show 0 ≤ _; simp; omega), by simp [adj]⟩
  | n + 1, a, ha => by
    obtain ⟨h1, h2⟩ := sngl_ok hw n (a + w) (by omega)
    have hh := @sngl_head w (a + w) n
    rw [show a + w + (n : Int) * w = a + ((n + 1 : Nat) : Int) * w by
      rw [show ((n + 1 : Nat) : Int) = (n : Int) + 1 by omega, Int.add_mul, Int.one_mul]; omega] at h1 h2 hh
    simp only [sngl, List.cons_append]
    refine ⟨⟨fun p hp => ?_, fun q hq => ?_, h1.2⟩, fun q hq => ?_, h2⟩
    · rcases List.mem_cons.mp hp with rfl | hp
      · exact ⟨ha, Int.le_refl _⟩
      · exact h1.1 p hp
    · rcases hh hq with rfl | rfl
      · show mf _ _ = true
        simp only [mf, decide_eq_true_eq]; omega
      · show mf _ _ = true
        simp only [mf, decide_eq_true_eq]; omega
    · rcases hh hq with rfl | rfl
      · show jn _ _ = none
        simp only [jn]; rw [if_neg (by omega)]
      · show jn _ _ = none
        simp only [jn]; rw [if_neg (by omega)]
theorem small_w {w : Int} (hw : 2 ≤ w ∧ w ≤ 10) : in64 w = true := by
  obtain ⟨h1, h2⟩ := hw
  obtain ⟨n, rfl⟩ : ∃ n : Nat, w = n := ⟨w.toNat, by omega⟩
  have : n ≤ 10 := by omega
  match n, this with
  | 0, _ | 1, _ | 2, _ | 3, _ | 4, _ | 5, _ | 6, _ | 7, _ | 8, _ | 9, _ | 10, _ => rfl
/-- the law's long pieces -/
theorem long_t {m w : Int} (hm : 58 ≤ m ∧ m ≤ 63) (hw : 2 ≤ w ∧ w ≤ 10) : t__law_long_pieces m w = Pr.ok (sngl w 0 (m - 1).toNat ++ [Pc.opn ((m - 1) * w)]) := by
  unfold t__law_long_pieces
  have mul : ∀ x : Int, (op2 (α := Int) (β := Int) (γ := Int) gMul x w) = Pr.ok (x * w) := fun x => op2_ok fun M => g_mul M x w (Or.inr (small_w hw))
  rw [need_T (sm_of (by omega) (by omega)), Pr.ok_bind, need_T (by rw [rngI_len]; omega)]
  rw [lcM_ok (cb := fun _ => true) (gv := fun k => Pc.old (k * w) (k * w)) _ (fun x hx => ⟨rfl, by rw [mul, Pr.ok_bind, Pr.ok_bind]⟩), Pr.ok_bind, filter_T, sngl_map, Int.zero_mul]
  rw [mul, Pr.ok_bind, Pr.ok_bind, Pr.ok_bind, cat_ok (by rw [sngl_len]; simp; omega)]
end T
end
section
set_option Elab.async false
set_option linter.all false
set_option maxRecDepth 100000
set_option maxHeartbeats 400000
namespace T
open PySem L2 Ip
theorem nfs_self : ∀ (qs acc : List Pc), adj jnN (acc ++ qs) → qs.foldl nfS acc = acc ++ qs
  | [], acc, _ => by simp
  | q :: qs, acc, h => by
    rw [List.foldl_cons, nfS_none (fun l hl => adj_mid acc q qs l h hl), nfs_self qs (acc ++ [q]) (by simpa using h)]
    simp
def longP (m w : Int) : List Pc := sngl w 0 (m - 1).toNat ++ [Pc.opn ((m - 1) * w)]
theorem long_len {m w : Int} (hm : 58 ≤ m) : (longP m w).length = m.toNat := by
  unfold longP
  rw [List.length_append, sngl_len]
  simp
  omega
theorem long_ok {m w : Int} (hm : 58 ≤ m) (hw : 2 ≤ w) : okp (longP m w) ∧ valid (longP m w) ∧ nf (longP m w) = longP m w := by
  obtain ⟨h1, h2⟩ := sngl_ok hw (m - 1).toNat 0 (Int.le_refl _)
  have e : (0 : Int) + ((m - 1).toNat : Nat) * w = (m - 1) * w := by rw [show (((m - 1).toNat : Nat) : Int) = m - 1 by omega]; omega
  rw [e] at h1 h2
  exact ⟨h1, valid_of h1 (List.getLast?_concat ..), by exact nfs_self (longP m w) [] h2⟩
theorem sngl_last {w : Int} : ∀ (n : Nat) (a : Int) (p : Pc), (sngl w a n).getLast? = some p → isOpn p = false
  | 0, _, _, h => by cases h
  | 1, a, p, h => by simp [sngl] at h; rw [← h]; rfl
  | n + 2, a, p, h => sngl_last (n + 1) (a + w) p (by simpa [sngl] using h)
theorem cut_one {α : Type} (l : List α) (x : α) : cutD (l ++ [x]) none (some (-1)) = l := by
  unfold cutD
  have h1 : HT.sIx (l ++ [x]).length 0 none = 0 := rfl
  have h2 : HT.sIx (l ++ [x]).length (l ++ [x]).length (some (-1)) = l.length := by
    unfold HT.sIx
    simp
    omega
  rw [h1, h2]
  simp
theorem sngl_cl {w : Int} : ∀ (n : Nat) (a : Int), ∀ p ∈ sngl w a n, isOpn p = false
  | 0, _, _, h => by cases h
  | n + 1, a, p, h => by
    rcases List.mem_cons.mp h with rfl | h
    · rfl
    · exact sngl_cl n (a + w) p h
theorem sngl_lined {m w : Int} (hm : 58 ≤ m) (hw : 2 ≤ w) : lined (sngl w 0 (m - 1).toNat) := by
  obtain ⟨h1, _, _⟩ := long_ok hm hw
  unfold longP at h1
  have ha := adj_left _ _ h1.2
  have hp := fun p (h : p ∈ sngl w 0 (m - 1).toNat) => h1.1 p (List.mem_append_left _ h)
  obtain ⟨k, hk⟩ : ∃ k, (m - 1).toNat = k + 1 := ⟨(m - 2).toNat, by omega⟩
  rw [hk] at ha hp ⊢
  exact ⟨hp _ (by simp [sngl]), chain_of _ _ (fun q hq => hp q (by simp only [sngl]; exact List.mem_cons_of_mem _ hq)) ha⟩
theorem len_t (L : Lay) : t_Layout___len__ L = Pr.ok ((L.parts.length : Nat) : Int) := rfl
theorem told_ok {m w : Int} (hm : 58 ≤ m ∧ m ≤ 60) (hw : 2 ≤ w) {errs : List Str} {Q : Str × Da → Prop} {E : Exn → Prop} (q : Q ("told", da m)) : Pr.told (α := Int) errs ((tx_Layout (Sq.mk false (longP m w))).bind fun (a : Lay) => (t_Layout___len__ a).bind fun (n : Int) => Pr.need (0 ≤ n ∧ n < 2 ^ 63) (Pr.ok n)) Q E := by
  obtain ⟨_, h2, h3⟩ := long_ok hm.1 hw
  have hl := long_len (w := w) hm.1
  refine ⟨by show (longP m w).length ≤ _; omega, .inl ⟨h2, ?_, ?_, ?_⟩⟩
  · show ∀ p ∈ (nf (longP m w)).dropLast, _
    rw [h3]
    unfold longP
    rw [List.dropLast_concat]
    exact sngl_cl _ _
  · show (nf (longP m w)).length ≤ 60
    rw [h3]; omega
  · show (0 ≤ (((nf (longP m w)).length : Nat) : Int) ∧ (((nf (longP m w)).length : Nat) : Int) < 2 ^ 63) ∧ Q ("told", da (((nf (longP m w)).length : Nat) : Int))
    rw [h3, hl, show ((m.toNat : Nat) : Int) = m by omega]
    exact ⟨⟨by omega, by omega⟩, q⟩
theorem told_many {m w : Int} (hm : 61 ≤ m ∧ m ≤ 63) (hw : 2 ≤ w) {Q : Str × Da → Prop} {E : Exn → Prop} (q : Q ("TooManyPieces", da (60 : Int))) : Pr.told (α := Int) ["BadPieces", "TooManyPieces"] ((tx_Layout (Sq.mk false (longP m w))).bind fun (a : Lay) => (t_Layout___len__ a).bind fun (n : Int) => Pr.need (0 ≤ n ∧ n < 2 ^ 63) (Pr.ok n)) Q E := by
  obtain ⟨_, h2, h3⟩ := long_ok (m := m) (by omega) hw
  have hl := long_len (m := m) (w := w) (by omega)
  refine ⟨by show (longP m w).length ≤ _; omega, .inr (.inl ⟨h2, ?_, by simp [exMany], "TooManyPieces", da (60 : Int), rfl, rfl, q⟩)⟩
  show 60 < (nf (longP m w)).length
  rw [h3]; omega
theorem told_end {m w : Int} (hm : 58 ≤ m ∧ m ≤ 63) (hw : 2 ≤ w) {Q : Str × Da → Prop} {E : Exn → Prop} (q : Q ("BadPieces", da (m - 1))) : Pr.told (α := Lay) ["BadPieces", "TooManyPieces"] (tx_Layout (Sq.mk false (cutD (longP m w) none (some (-(1 : Int)))))) Q E := by
  have e : cutD (longP m w) none (some (-(1 : Int))) = sngl w 0 (m - 1).toNat := cut_one _ _
  rw [e]
  refine ⟨by show (sngl w 0 (m - 1).toNat).length ≤ _; rw [sngl_len]; omega, .inr (.inr ⟨sngl_lined hm.1 hw, fun p hp => sngl_last _ _ p hp, by simp [exEnd], "BadPieces", da (m - 1), rfl, ?_, q⟩)⟩
  show some (D.int (((sngl w 0 (m - 1).toNat).length : Nat) : Int)) = some (D.int (m - 1))
  rw [sngl_len, show (((m - 1).toNat : Nat) : Int) = m - 1 by omega]
end T
end
section
set_option Elab.async false
set_option linter.all false
set_option maxRecDepth 100000
set_option maxHeartbeats 400000
namespace T
open PySem L2 Ip
theorem rng_last1 (n : Nat) : rngI 0 (n + 1) = rngI 0 n ++ [(n : Int)] := by
  rw [rngI_add]
  congr 1
  unfold rngI
  simp
/-- rows one behind the other -/
def runs (n : Nat) : List Pc := (rngI 0 n).map fun x => Pc.old x x
theorem runs_succ (n : Nat) : runs (n + 1) = runs n ++ [.old n n] := by
  unfold runs
  rw [rng_last1, List.map_append]
  rfl
theorem runs_fold : ∀ n : Nat, (runs (n + 1)).foldl nfS [] = [.old 0 n]
  | 0 => by
    rw [runs_succ, show runs 0 = [] from rfl, List.nil_append]
    show nfS [] _ = _
    rw [nfS_none (fun l hl => by cases hl)]
    rfl
  | n + 1 => by
    rw [runs_succ, List.foldl_append, runs_fold n]
    show nfS [.old 0 n] _ = _
    have := nfS_some (acc := []) (l := .old 0 (n : Int)) (q := .old ((n + 1 : Nat) : Int) ((n + 1 : Nat) : Int)) (r := .old 0 ((n + 1 : Nat) : Int)) (by simp only [jn]; rw [if_pos (by omega)])
    simpa using this
theorem runs_nf (n : Nat) : nf (runs (n + 1) ++ [.opn ((n + 1 : Nat) : Int)]) = [.opn 0] := by
  unfold nf
  rw [List.foldl_append, runs_fold]
  have := nfS_some (acc := []) (l := .old 0 (n : Int)) (q := .opn ((n + 1 : Nat) : Int)) (r := .opn 0) (by simp only [jn]; rw [if_pos (by omega)])
  simpa using this
theorem runs_okp : ∀ n : Nat, okp (runs (n + 1)) ∧ (runs (n + 1)).getLast? = some (.old n n)
  | 0 => ⟨okp_one ⟨Int.le_refl _, Int.le_refl _⟩, rfl⟩
  | n + 1 => by
    obtain ⟨h1, h2⟩ := runs_okp n
    rw [runs_succ (n + 1)]
    refine ⟨okp_app h1 (okp_one ⟨by omega, Int.le_refl _⟩) fun x y hx hy => ?_, List.getLast?_concat ..⟩
    rw [h2] at hx
    cases hx
    cases hy
    simp only [mf, decide_eq_true_eq]
    omega
theorem runs_valid (n : Nat) : valid (runs (n + 1) ++ [.opn ((n + 1 : Nat) : Int)]) := by
  obtain ⟨h1, h2⟩ := runs_okp n
  refine valid_of (okp_app h1 (okp_one (by show 0 ≤ _; omega)) fun x y hx hy => ?_) (List.getLast?_concat ..)
  rw [h2] at hx
  cases hx
  cases hy
  simp only [mf, decide_eq_true_eq]
  omega
/-- one label again and again -/
theorem same_fold (A : List Pc) (w : Int) (hA : ∀ l, A.getLast? = some l → jn l (.new 0 w 1) = none) : ∀ n : Nat, (List.replicate (n + 1) (Pc.new 0 w 1)).foldl nfS A = A ++ [.new 0 w ((n + 1 : Nat) : Int)]
  | 0 => by
    show nfS A _ = _
    rw [nfS_none hA]
    rfl
  | n + 1 => by
    rw [List.replicate_succ', List.foldl_append, same_fold A w hA n]
    show nfS (A ++ [_]) _ = _
    rw [nfS_some (r := .new 0 w ((n + 1 + 1 : Nat) : Int)) (by show (if (0 : Int) = 0 ∧ w = w then some _ else none) = _; rw [if_pos ⟨rfl, rfl⟩]; rfl)]
theorem same_nf (A : List Pc) (w : Int) (hA : ∀ l, (A.foldl nfS []).getLast? = some l → jn l (.new 0 w 1) = none) (n : Nat) : nf (A ++ List.replicate (n + 1) (Pc.new 0 w 1) ++ [.opn w]) = A.foldl nfS [] ++ [.new 0 w ((n + 1 : Nat) : Int), .opn w] := by
  unfold nf
  rw [List.foldl_append, List.foldl_append, same_fold _ w hA n]
  show nfS _ _ = _
  rw [nfS_none (fun l hl => by rw [List.getLast?_concat] at hl; cases hl; rfl)]
  simp
theorem same_okp {w : Int} (hw : 2 ≤ w) : ∀ n : Nat, okp (List.replicate (n + 1) (Pc.new 0 w 1))
  | 0 => okp_one ⟨Int.le_refl _, by show (0 : Int) < w; omega, Int.le_refl _⟩
  | n + 1 => by
    rw [List.replicate_succ]
    refine okp_app (l := [_]) (okp_one ⟨Int.le_refl _, by show (0 : Int) < w; omega, Int.le_refl _⟩) (same_okp hw n) fun x y hx hy => ?_
    cases hx
    cases hy
    show mf (Pc.new 0 w 1) (Pc.new 0 w 1) = true
    simp [mf]
theorem same_valid (b : Bool) {w : Int} (hw : 2 ≤ w) (n : Nat) : valid ((if b then [Pc.old 0 0] else []) ++ List.replicate (n + 1) (Pc.new 0 w 1) ++ [.opn w]) := by
  have e1 : okp (List.replicate (n + 1) (Pc.new 0 w 1) ++ [.opn w]) := okp_app (same_okp hw n) (okp_one (by show 0 ≤ w; omega)) fun x y hx hy => by
    rw [List.replicate_succ', List.getLast?_concat] at hx
    cases hx
    cases hy
    simp [mf]
    omega
  rw [List.append_assoc]
  refine valid_of (a := w) ?_ (by rw [← List.append_assoc, List.getLast?_concat])
  cases b with
  | false => simpa using e1
  | true =>
    refine okp_app (okp_one ⟨Int.le_refl _, Int.le_refl _⟩) e1 fun x y hx hy => ?_
    cases hx
    rw [List.replicate_succ, List.cons_append] at hy
    cases hy
    simp [mf]
    omega
theorem cut_back {α : Type} (l : List α) (n : Nat) (hn : 0 < n) : cutD l (some (-(n : Int))) none = l.drop (l.length - n) := by
  unfold cutD
  have h2 : HT.sIx l.length l.length none = l.length := rfl
  have h1 : HT.sIx l.length 0 (some (-(n : Int))) = l.length - n := by
    unfold HT.sIx
    simp [hn]
    omega
  rw [h1, h2]
  all_goals first | exact List.take_of_length_le (by simp) | simp
end T
end
section
set_option Elab.async false
set_option linter.all false
set_option maxRecDepth 100000
set_option maxHeartbeats 400000
namespace T
open PySem L2 Ip
theorem ok_i {α : Type} {a : α} {Q : α → Prop} {E : Exn → Prop} (h : Q a) : (Pr.ok a) Q E := h
theorem eqL_t (L : Lay) : t_Layout___eq__ L L = Pr.ok true := by
  unfold t_Layout___eq__
  simp
theorem t_Layout_ok {q : Sq Pc} (h1 : valid q.l) (h2 : ∀ p ∈ (nf q.l).dropLast, isOpn p = false) (h3 : q.l.length ≤ 1000000) (h4 : (nf q.l).length ≤ 60) : t_Layout q = Pr.ok (mkLay (nf q.l)) := by
  funext Q E
  exact propext ⟨fun z => z.2.2.2.2, fun z => ⟨h1, h2, h3, h4, z⟩⟩
def dueL (m : Int) : Str × Da := if m < 61 then ("told", da m) else ("TooManyPieces", da (60 : Int))
theorem told_any {m w : Int} (hm : 58 ≤ m ∧ m ≤ 63) (hw : 2 ≤ w) {Q : Str × Da → Prop} {E : Exn → Prop} (q : Q (dueL m)) : Pr.told (α := Int) ["BadPieces", "TooManyPieces"] ((tx_Layout (Sq.mk false (longP m w))).bind fun (a : Lay) => (t_Layout___len__ a).bind fun (n : Int) => Pr.need (0 ≤ n ∧ n < 2 ^ 63) (Pr.ok n)) Q E := by
  unfold dueL at q
  split at q
  · exact told_ok ⟨hm.1, by omega⟩ hw q
  · exact told_many ⟨by omega, hm.2⟩ hw q
theorem due_t (m : Int) : (if (decide (m < (61 : Int))) then ((cast (α := Int) (β := Da) m).bind fun (a44 : Da) => (Pr.ok ((("told" : Str), a44) : (Str × Da)))) else ((cast (α := Int) (β := Da) (60 : Int)).bind fun (a49 : Da) => (Pr.ok ((("TooManyPieces" : Str), a49) : (Str × Da))))) = Pr.ok (dueL m) := by
  unfold dueL
  by_cases h : m < 61
  · rw [if_pos (by simpa using h), if_pos h, cast_ok (a := m) (b := da m) rfl, Pr.ok_bind]
  · rw [if_neg (by simpa using h), if_neg h, cast_ok (a := (60 : Int)) (b := da (60 : Int)) rfl, Pr.ok_bind]
theorem lk_due (m : Int) : lkD 4 (en (dueL m)) = true := by
  unfold dueL
  split <;> rfl
theorem ne_end {p : Int} (p0 : 0 ≤ p) (p1 : p < 6) (M : Sto) : gEq true (en (("BadPieces", da (58 + p - 1)) : Str × Da)) (en (("BadPieces", da (58 + p - 1)) : Str × Da)) M = some (en false, M) := by
  refine ne_same (x := .tuple [.str "BadPieces", .int (58 + p - 1)]) rfl rfl ?_ ?_
  · have : p = 0 ∨ p = 1 ∨ p = 2 ∨ p = 3 ∨ p = 4 ∨ p = 5 := by omega
    rcases this with rfl | rfl | rfl | rfl | rfl | rfl <;> decide +kernel
  · have : p = 0 ∨ p = 1 ∨ p = 2 ∨ p = 3 ∨ p = 4 ∨ p = 5 := by omega
    rcases this with rfl | rfl | rfl | rfl | rfl | rfl <;> decide +kernel
def preA (n : Nat) : List Pc := if n + 3 ≤ 400 then [Pc.old 0 0] else []
theorem preA_fold (n : Nat) : (preA n).foldl nfS [] = preA n := by
  unfold preA
  split
  · show nfS [] _ = _
    rw [nfS_none (fun l hl => by cases hl)]
    rfl
  · rfl
theorem lab_cut {w : Int} {n : Nat} (hn : n ≤ 398) : cutD ([Pc.old 0 0] ++ List.replicate (n + 1) (Pc.new 0 w 1) ++ [Pc.opn w]) (some (-(400 : Int))) none = preA n ++ List.replicate (n + 1) (Pc.new 0 w 1) ++ [.opn w] := by
  have e := cut_back ([Pc.old 0 0] ++ List.replicate (n + 1) (Pc.new 0 w 1) ++ [Pc.opn w]) 400 (by omega)
  refine (show _ = _ from e).trans ?_
  have hl : ([Pc.old 0 0] ++ List.replicate (n + 1) (Pc.new 0 w 1) ++ [Pc.opn w]).length = n + 3 := by simp
  rw [hl]
  unfold preA
  split
  · rw [show n + 3 - 400 = 0 by omega]; rfl
  · rw [show n + 3 - 400 = 1 by omega]; rfl
theorem lab_lay {w : Int} (hw : 2 ≤ w) {n : Nat} (hn : n ≤ 398) : t_Layout (Sq.mk false (preA n ++ List.replicate (n + 1) (Pc.new 0 w 1) ++ [.opn w])) = Pr.ok (mkLay (preA n ++ [.new 0 w ((n + 1 : Nat) : Int), .opn w])) := by
  have hnf : nf (preA n ++ List.replicate (n + 1) (Pc.new 0 w 1) ++ [.opn w]) = preA n ++ [.new 0 w ((n + 1 : Nat) : Int), .opn w] := by
    rw [same_nf (preA n) w (fun l hl => ?_) n, preA_fold]
    rw [preA_fold] at hl
    unfold preA at hl
    split at hl <;> cases hl
    rfl
  have hA : (preA n).length ≤ 1 := by unfold preA; split <;> simp
  have hv : valid (preA n ++ List.replicate (n + 1) (Pc.new 0 w 1) ++ [.opn w]) := by
    have := same_valid (decide (n + 3 ≤ 400)) hw n
    simpa [preA] using this
  have := t_Layout_ok (q := Sq.mk false (preA n ++ List.replicate (n + 1) (Pc.new 0 w 1) ++ [.opn w])) hv (fun p hp => ?_) (by simp; omega) (by show (nf _).length ≤ 60; rw [hnf]; simp; omega)
  · rw [this]
    show Pr.ok (mkLay (nf (preA n ++ List.replicate (n + 1) (Pc.new 0 w 1) ++ [.opn w]))) = _
    rw [hnf]
  · have hp : p ∈ (nf (preA n ++ List.replicate (n + 1) (Pc.new 0 w 1) ++ [.opn w])).dropLast := hp
    rw [hnf, show preA n ++ [.new 0 w ((n + 1 : Nat) : Int), .opn w] = (preA n ++ [.new 0 w ((n + 1 : Nat) : Int)]) ++ [.opn w] by simp, List.dropLast_concat] at hp
    rcases List.mem_append.mp hp with hp | hp
    · unfold preA at hp
      split at hp
      · rw [List.mem_singleton.mp hp]; rfl
      · cases hp
    · rw [List.mem_singleton.mp hp]; rfl
theorem last_two (A : List Pc) (x y : Pc) : cutD (A ++ [x, y]) (some (-(2 : Int))) none = [x, y] := by
  have e := cut_back (A ++ [x, y]) 2 (by omega)
  refine (show _ = _ from e).trans ?_
  rw [show (A ++ [x, y]).length - 2 = A.length by simp]
  simp
theorem law_holds : t_law (fun b => b = true) (fun _ => False) := by
  unfold t_law
  rw [need_T (sm_of (by omega) (by omega)), Pr.ok_bind]
  refine flow_i (fun x _ Q q => ?_) (by show decide ((60 : Int) = 60) = true; decide)
  refine bind_i (bind_i (pull_i (E := fun _ => False) (by omega) (by omega) fun p p0 p1 => ok_i ?_))
  refine bind_i (bind_i (pull_i (E := fun _ => False) (by omega) (by omega) fun v v0 v1 => ok_i ?_))
  rw [long_t ⟨by omega, by omega⟩ ⟨by omega, by omega⟩, Pr.ok_bind]
  rw [show sngl (2 + v) 0 (58 + p - 1).toNat ++ [Pc.opn ((58 + p - 1) * (2 + v))] = longP (58 + p) (2 + v) from rfl]
  refine bind_i (told_any ⟨by omega, by omega⟩ (by omega) ?_)
  rw [due_t, Pr.ok_bind]
  refine if_not (fun Q' q' => lk_i rfl (lk_due _) q') ?_
  refine bind_i (bind_i (told_end ⟨by omega, by omega⟩ (by omega) ?_))
  rw [cast_ok (a := (58 + p - 1 : Int)) (b := da (58 + p - 1)) rfl, Pr.ok_bind, Pr.ok_bind]
  refine ⟨false, fun M => ne_end p0 p1 M, ?_⟩
  dsimp only
  rw [if_neg (by decide)]
  refine bind_i (bind_i (pull_i (E := fun _ => False) (by omega) (by omega) fun s s0 s1 => ok_i ?_))
  obtain ⟨n, rfl⟩ : ∃ n : Nat, s = n := ⟨s.toNat, by omega⟩
  rw [need_T (sm_of (by omega) (by omega)), Pr.ok_bind, need_T (by rw [rngI_len]; omega), Pr.ok_bind, filter_T]
  have e1 : ((rngI 0 (Int.toNat (1 + (n : Int)))).map fun (x : Int) => Pc.old x x) = runs (n + 1) := by
    unfold runs
    rw [show Int.toNat (1 + (n : Int)) = n + 1 by omega]
  have e2 : [Pc.opn (1 + (n : Int))] = [Pc.opn ((n + 1 : Nat) : Int)] := by rw [show (1 + (n : Int)) = ((n + 1 : Nat) : Int) by omega]
  rw [e1, e2]
  have hlr : (runs (n + 1)).length = n + 1 := by unfold runs; rw [List.length_map, rngI_len]
  rw [cat_ok (by rw [hlr]; simp; omega), Pr.ok_bind, cast_ok (a := (runs (n + 1) ++ [Pc.opn ((n + 1 : Nat) : Int)] : List Pc)) (b := Sq.mk false (runs (n + 1) ++ [Pc.opn ((n + 1 : Nat) : Int)])) rfl, Pr.ok_bind]
  have eL := t_Layout_ok (q := Sq.mk false (runs (n + 1) ++ [Pc.opn ((n + 1 : Nat) : Int)])) (runs_valid n) (by rw [show (Sq.mk false (runs (n + 1) ++ [Pc.opn ((n + 1 : Nat) : Int)])).l = runs (n + 1) ++ [Pc.opn ((n + 1 : Nat) : Int)] from rfl, runs_nf]; intro p hp; cases hp) (by show (runs (n + 1) ++ [_]).length ≤ _; rw [List.length_append, hlr]; simp; omega) (by show (nf (runs (n + 1) ++ [_])).length ≤ 60; rw [runs_nf]; simp)
  rw [show nf (Sq.mk false (runs (n + 1) ++ [Pc.opn ((n + 1 : Nat) : Int)])).l = [Pc.opn 0] from runs_nf n] at eL
  rw [eL, Pr.ok_bind, Pr.ok_bind, eqL_t, Pr.ok_bind, Pr.ok_bind]
  rw [if_neg (by decide)]
  rw [rep_one _ _ (by omega) (by omega), Pr.ok_bind, show (1 + (n : Int)).toNat = n + 1 by omega, cat_ok (by simp; omega), Pr.ok_bind, cat_ok (by simp; omega), Pr.ok_bind, lab_cut (by omega), lab_lay (by omega) (by omega), Pr.ok_bind]
  rw [show t_Layout_pieces (mkLay (preA n ++ [.new 0 (2 + v) ((n + 1 : Nat) : Int), .opn (2 + v)])) = Pr.ok (preA n ++ [.new 0 (2 + v) ((n + 1 : Nat) : Int), .opn (2 + v)]) from rfl, Pr.ok_bind, last_two, Pr.ok_bind, show ((n + 1 : Nat) : Int) = 1 + (n : Int) by omega]
  exact if_not (fun Q' q' => lk_i rfl rfl q') q
theorem law_ok (ns : List Int) (h : ns.length ≤ 63) : ∃ M, F_law [.scr ns] [] = .ok (.bl true) M := law_of law_holds ns h
end T
end
namespace T
open PySem L2 Ip
theorem main : Main := fun ns h => law_ok ns h
end T
open PySem PySem.W PyProof.Rows in
set_option maxRecDepth 100000 in
set_option maxHeartbeats 0 in
theorem PySem.Challenge.cw_spanrows_k03_too_many_pieces_holds : PySem.Challenge.rw_spanrows_k03_too_many_pieces.Holds := by
  w_on; o_law; k_head; (case hw => w_witness2)
  k_fill
  refine T.walk (l := PySem.Challenge.rw_spanrows_k03_too_many_pieces) rfl rfl (by first | rfl | decide +kernel) (fun w h Y => by first | exact PySem.W.km_in_of Y | exact PySem.W.kIn_of Y) ?F
  case F =>
    intro w mg fa h KX G hmg own
    refine' T.all_mk T.main KX G hmg own ?z_all ?z_bool ?z_enumerate ?z_int ?z_isinstance ?z_len ?z_list ?z_range ?z_tuple ?aC_Layout ?pg_Layout ?hd_Layout ?po_Layout ?sa_Layout ?mk_Layout ?kc_Layout ?rd_Layout ?ga_Layout ?na_Layout_parts ?na_Layout_starts ?cv_Layout_LIMIT ?gp_PLAIN ?lp_PLAIN ?lr_PLAIN ?a__law_bag ?l__law_bag ?c__law_bag ?k__law_bag ?a__law_pull ?l__law_pull ?c__law_pull ?k__law_pull ?a__law_long_pieces ?l__law_long_pieces ?c__law_long_pieces ?k__law_long_pieces ?a_Layout___len__ ?i_Layout___len__ ?l_Layout___len__ ?c_Layout___len__ ?k_Layout___len__ ?a_is_number ?l_is_number ?c_is_number ?k_is_number ?a_are_numbers ?l_are_numbers ?c_are_numbers ?k_are_numbers ?a_is_range ?l_is_range ?c_is_range ?k_is_range ?a_is_piece ?l_is_piece ?c_is_piece ?k_is_piece ?a_is_open ?l_is_open ?c_is_open ?k_is_open ?a_row_count ?l_row_count ?c_row_count ?k_row_count ?a_label_in ?l_label_in ?c_label_in ?k_label_in ?a_first_label ?l_first_label ?c_first_label ?k_first_label ?a_may_follow ?l_may_follow ?c_may_follow ?k_may_follow ?a_first_wrong ?l_first_wrong ?c_first_wrong ?k_first_wrong ?a_joined ?l_joined ?c_joined ?k_joined ?a_normal_form ?l_normal_form ?c_normal_form ?k_normal_form ?a_starts_of ?l_starts_of ?c_starts_of ?k_starts_of ?a_Layout___init__ ?i_Layout___init__ ?l_Layout___init__ ?c_Layout___init__ ?k_Layout___init__ ?a__law_like ?l__law_like ?c__law_like ?k__law_like ?a_Layout___eq__ ?i_Layout___eq__ ?l_Layout___eq__ ?c_Layout___eq__ ?k_Layout___eq__ ?a_Layout_plain ?r_Layout_plain ?g_Layout_plain ?l_Layout_plain ?c_Layout_plain ?k_Layout_plain ?a_Layout_pieces ?i_Layout_pieces ?l_Layout_pieces ?c_Layout_pieces ?k_Layout_pieces ?a_law ?l_law ?c_law ?k_law ?eh_Layout ?en_Layout ?et_Layout ?em_Layout ?ee_Layout ?ey_Layout ?aC_SpanError ?rd_SpanError ?ga_SpanError ?sb_SpanError ?kl_SpanError ?ty_SpanError ?ci_SpanError ?l_SpanError ?c_SpanError ?k_SpanError ?zV ?vV ?aC_BadPieces ?xo_BadPieces ?rv_BadPieces ?sa_BadPieces ?ex_BadPieces ?tc_BadPieces ?kk_BadPieces ?xg_BadPieces ?xh_BadPieces ?xd_BadPieces ?xn_word_BadPieces ?xn_number_BadPieces ?xn_at_BadPieces ?xn_name_BadPieces ?xn_cell_BadPieces ?xn_most_BadPieces ?xn_label_BadPieces ?xn_other_BadPieces ?em_BadPieces ?in_BadPieces ?ti_BadPieces ?l_BadPieces ?c_BadPieces ?k_BadPieces ?aC_TooManyPieces ?xo_TooManyPieces ?rv_TooManyPieces ?sa_TooManyPieces ?ex_TooManyPieces ?tc_TooManyPieces ?kk_TooManyPieces ?xg_TooManyPieces ?xh_TooManyPieces ?xd_TooManyPieces ?xn_word_TooManyPieces ?xn_number_TooManyPieces ?xn_at_TooManyPieces ?xn_name_TooManyPieces ?xn_cell_TooManyPieces ?xn_most_TooManyPieces ?xn_label_TooManyPieces ?xn_other_TooManyPieces ?em_TooManyPieces ?in_TooManyPieces ?ti_TooManyPieces ?l_TooManyPieces ?c_TooManyPieces ?k_TooManyPieces ?a__law_field ?l__law_field ?c__law_field ?k__law_field ?a__law_told ?l__law_told ?c__law_told ?k__law_told ?kc_law ?kv_law ?kn_law ?kh_law
    (case z_all => k_is)
    (case z_bool => k_is)
    (case z_enumerate => k_is)
    (case z_int => k_is)
    (case z_isinstance => k_is)
    (case z_len => k_is)
    (case z_list => k_is)
    (case z_range => k_is)
    (case z_tuple => k_is)
    (case aC_Layout => k_is)
    (case pg_Layout => k_is)
    (case hd_Layout => k_is)
    (case po_Layout => k_is)
    (case sa_Layout => k_is)
    (case mk_Layout => k_is)
    (case kc_Layout => k_is)
    (case rd_Layout => k_is)
    (case ga_Layout => k_is)
    (case na_Layout_parts => k_is)
    (case na_Layout_starts => k_is)
    (case cv_Layout_LIMIT => k_is)
    (case gp_PLAIN => k_is)
    (case lp_PLAIN => k_is)
    (case lr_PLAIN => k_is)
    (case a__law_bag => k_is)
    (case l__law_bag => k_is)
    (case c__law_bag => k_is)
    (case k__law_bag => k_is)
    (case a__law_pull => k_is)
    (case l__law_pull => k_is)
    (case c__law_pull => k_is)
    (case k__law_pull => k_is)
    (case a__law_long_pieces => k_is)
    (case l__law_long_pieces => k_is)
    (case c__law_long_pieces => k_is)
    (case k__law_long_pieces => k_is)
    (case a_Layout___len__ => k_is)
    (case i_Layout___len__ => k_is)
    (case l_Layout___len__ => k_is)
    (case c_Layout___len__ => k_is)
    (case k_Layout___len__ => k_is)
    (case a_is_number => k_is)
    (case l_is_number => k_is)
    (case c_is_number => k_is)
    (case k_is_number => k_is)
    (case a_are_numbers => k_is)
    (case l_are_numbers => k_is)
    (case c_are_numbers => k_is)
    (case k_are_numbers => k_is)
    (case a_is_range => k_is)
    (case l_is_range => k_is)
    (case c_is_range => k_is)
    (case k_is_range => k_is)
    (case a_is_piece => k_is)
    (case l_is_piece => k_is)
    (case c_is_piece => k_is)
    (case k_is_piece => k_is)
    (case a_is_open => k_is)
    (case l_is_open => k_is)
    (case c_is_open => k_is)
    (case k_is_open => k_is)
    (case a_row_count => k_is)
    (case l_row_count => k_is)
    (case c_row_count => k_is)
    (case k_row_count => k_is)
    (case a_label_in => k_is)
    (case l_label_in => k_is)
    (case c_label_in => k_is)
    (case k_label_in => k_is)
    (case a_first_label => k_is)
    (case l_first_label => k_is)
    (case c_first_label => k_is)
    (case k_first_label => k_is)
    (case a_may_follow => k_is)
    (case l_may_follow => k_is)
    (case c_may_follow => k_is)
    (case k_may_follow => k_is)
    (case a_first_wrong => k_is)
    (case l_first_wrong => k_is)
    (case c_first_wrong => k_is)
    (case k_first_wrong => k_is)
    (case a_joined => k_is)
    (case l_joined => k_is)
    (case c_joined => k_is)
    (case k_joined => k_is)
    (case a_normal_form => k_is)
    (case l_normal_form => k_is)
    (case c_normal_form => k_is)
    (case k_normal_form => k_is)
    (case a_starts_of => k_is)
    (case l_starts_of => k_is)
    (case c_starts_of => k_is)
    (case k_starts_of => k_is)
    (case a_Layout___init__ => k_is)
    (case i_Layout___init__ => k_is)
    (case l_Layout___init__ => k_is)
    (case c_Layout___init__ => k_is)
    (case k_Layout___init__ => k_is)
    (case a__law_like => k_is)
    (case l__law_like => k_is)
    (case c__law_like => k_is)
    (case k__law_like => k_is)
    (case a_Layout___eq__ => k_is)
    (case i_Layout___eq__ => k_is)
    (case l_Layout___eq__ => k_is)
    (case c_Layout___eq__ => k_is)
    (case k_Layout___eq__ => k_is)
    (case a_Layout_plain => k_is)
    (case r_Layout_plain => k_is)
    (case g_Layout_plain => k_is)
    (case l_Layout_plain => k_is)
    (case c_Layout_plain => k_is)
    (case k_Layout_plain => k_is)
    (case a_Layout_pieces => k_is)
    (case i_Layout_pieces => k_is)
    (case l_Layout_pieces => k_is)
    (case c_Layout_pieces => k_is)
    (case k_Layout_pieces => k_is)
    (case a_law => k_is)
    (case l_law => k_is)
    (case c_law => k_is)
    (case k_law => k_is)
    (case eh_Layout => k_is)
    (case en_Layout => k_is)
    (case et_Layout => k_is)
    (case em_Layout => k_is)
    (case ee_Layout => k_is)
    (case ey_Layout => k_is)
    (case aC_SpanError => k_is)
    (case rd_SpanError => k_is)
    (case ga_SpanError => k_is)
    (case sb_SpanError => k_is)
    (case kl_SpanError => k_is)
    (case ty_SpanError => k_is)
    (case ci_SpanError => k_is)
    (case l_SpanError => k_is)
    (case c_SpanError => k_is)
    (case k_SpanError => k_is)
    (case zV => k_is)
    (case vV => k_is)
    (case aC_BadPieces => k_is)
    (case xo_BadPieces => k_is)
    (case rv_BadPieces => first | k_is | exact rfl | decide +kernel)
    (case sa_BadPieces => k_is)
    (case ex_BadPieces => k_is)
    (case tc_BadPieces => k_is)
    (case kk_BadPieces => k_is)
    (case xg_BadPieces => k_is)
    (case xh_BadPieces => k_is)
    (case xd_BadPieces => k_is)
    (case xn_word_BadPieces => k_is)
    (case xn_number_BadPieces => k_is)
    (case xn_at_BadPieces => k_is)
    (case xn_name_BadPieces => k_is)
    (case xn_cell_BadPieces => k_is)
    (case xn_most_BadPieces => k_is)
    (case xn_label_BadPieces => k_is)
    (case xn_other_BadPieces => k_is)
    (case em_BadPieces => k_is)
    (case in_BadPieces => k_is)
    (case ti_BadPieces => k_is)
    (case l_BadPieces => k_is)
    (case c_BadPieces => k_is)
    (case k_BadPieces => k_is)
    (case aC_TooManyPieces => k_is)
    (case xo_TooManyPieces => k_is)
    (case rv_TooManyPieces => first | k_is | exact rfl | decide +kernel)
    (case sa_TooManyPieces => k_is)
    (case ex_TooManyPieces => k_is)
    (case tc_TooManyPieces => k_is)
    (case kk_TooManyPieces => k_is)
    (case xg_TooManyPieces => k_is)
    (case xh_TooManyPieces => k_is)
    (case xd_TooManyPieces => k_is)
    (case xn_word_TooManyPieces => k_is)
    (case xn_number_TooManyPieces => k_is)
    (case xn_at_TooManyPieces => k_is)
    (case xn_name_TooManyPieces => k_is)
    (case xn_cell_TooManyPieces => k_is)
    (case xn_most_TooManyPieces => k_is)
    (case xn_label_TooManyPieces => k_is)
    (case xn_other_TooManyPieces => k_is)
    (case em_TooManyPieces => k_is)
    (case in_TooManyPieces => k_is)
    (case ti_TooManyPieces => k_is)
    (case l_TooManyPieces => k_is)
    (case c_TooManyPieces => k_is)
    (case k_TooManyPieces => k_is)
    (case a__law_field => k_is)
    (case l__law_field => k_is)
    (case c__law_field => k_is)
    (case k__law_field => k_is)
    (case a__law_told => k_is)
    (case l__law_told => k_is)
    (case c__law_told => k_is)
    (case k__law_told => k_is)
    (case kc_law => k_is)
    (case kv_law => first | k_is | exact rfl | decide +kernel)
    (case kn_law => first | k_is | exact rfl | decide +kernel)
    (case kh_law => first | k_is | exact rfl | decide +kernel)
